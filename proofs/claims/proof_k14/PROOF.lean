import PyProof.Rows.All
import Wide.All
import OpenK.AllK
import Wide.FinOn
import Lean
import PyProof.EqAt
import PyProof.EqKinds
import PyProof.TupleCall
import KE.KIntText
import PyProof.Rows.SortShellK
import KE.KSortTup
import PyProof.StrOps
import PyProof.TupleOfSeq
import PyProof.ZipIter
import PyProof.TupleIter
import PyProof.WalksMore
import PyProof.Draws
import PyProof.EnumFor
import PyProof.EnumMake
import PyProof.AttrMiss
import KE.KDictOf
import PyProof.EnumStmt
import PyProof.CollectIter
import PyProof.TupleOfGen
import KE.KRevIter
import PyProof.TwoTypesSub
import PyProof.AutoIntG7
import PyProof.FactsAll.bool
import PyProof.TupleKey
import PyProof.SetRoads
import PyProof.AttrMissHeap
import PyProof.DictFindH
import PyProof.DictIter
import PyProof.DictWalks
import PyProof.Rows.RuleN_abs
import PyProof.StrLawsChain
import PyProof.StrCalls2
import PyProof.Rows.StrNews2
import PyProof.FString
import PySem.Challenge.RW_onlyrise_k14_orders_and_heights_written
set_option bootstrap.genMatcherCode false
set_option genSizeOf false
set_option compiler.extract_closed false
set_option compiler.reuse false
set_option Elab.async false
set_option linter.all false
set_option maxRecDepth 100000
set_option maxHeartbeats 4000000
open Array renaming length_toList->jt,getElem?_eq_getElem->pA,toList->pB,getD->Bm,getElem?_eq_some_iff->He,replicate->Hf,ext'->Sv,forIn_toList->Sx,mem_toList_iff->Sy,toList_push->Sz
open Bool renaming and_eq_true->bP,false_eq_true->eN,or_eq_true->iX,false_ne_true->nL,eq_iff_iff->pC,false_and->pD,true_and->pE,and_true->uh,and_eq_true_iff->Bn,not_true->Bo,and_eq_false_iff->Hg,not_eq_true'->Sw,and_false->SD,bne_false->SH
open Char renaming toNat->Hh
open Classical renaming not_forall->SJ
open Eq renaming trans->Hi
open False renaming elim->ju
open ForInStep renaming yield->ui
open Int renaming toNat_natCast->rD,eq_ofNat_of_zero_le->Bp,emod_lt_of_pos->Hj,emod_nonneg->Hk,toNat_add->Hl,fdiv_eq_ediv_of_nonneg->SK,mul_le_mul->SM
open List renaming map_cons->bJ,mem_map->bK,mem_cons->bN,getElem?_eq_getElem->bY,mem_cons_of_mem->b5,length->b7,length_map->cy,length_append->cA,range->cF,replicate->cG,size_toArray->cV,length_cons->c6,all_eq_true->c_,getElem?_eq_some_iff->dU,mem_append->d0,nil_append->d3,getElem?_map->eC,map_nil->eD,mem_of_getElem?->eE,mem_range->eF,all_cons->ff,cons_append->fD,of_mem_zip->fE,length_nil->gx,mem_cons_self->gy,getD_eq_getElem?_getD->gQ,getElem_of_mem->gR,not_mem_nil->iB,length_drop->iY,map->iZ,getElem?_append_left->jv,mem_singleton->jw,append_assoc->j5,lookup_cons->j6,map_map->j7,drop_eq_getElem_cons->kO,map_append->kQ,mem_append_right->kR,mem_filter->kS,take_of_length_le->kU,append_nil->lZ,getElem?_eq_none->l0,isEmpty_iff->l4,length_take->l5,nodup_cons->l6,set_set->l7,replicate_succ->nM,reverse_cons->nN,drop_zero->pF,filter_cons->pG,mem_map_of_mem->pH,mem_of_mem_take->pI,sum_cons->pJ,drop->rE,drop_of_length_le->rF,forIn_cons->rG,getElem_mem->rH,filterMap_cons->uj,find?_cons->uk,flatten_cons->um,getElem?_append_right->uo,length_singleton->uq,length_zip->uu,mem_append_left->uv,range'->xw,any_cons->xx,drop_eq_nil_of_le->xy,foldl->xA,foldl_cons->xB,getElem?_set_ne->xC,getElem?_set_self->xD,getElem?_take->xE,map_drop->xF,map_take->xG,mem_iff_getElem->xH,mem_of_mem_drop->xI,pairwise_map->xJ,set_append_left->xK,take->xM,take_sublist->xN,take_zero->xO,toList_toArray->xP,zipIdx_cons->xQ,zip_cons_cons->xR,range'_succ->Bk,Nodup->Bq,eq_nil_of_length_eq_zero->Br,ext_getElem->Bs,filter_sublist->Bt,getElem?_replicate->Bu,getElem?_zip_eq_some->Bv,length_filter_le->Bw,length_set->Bx,mapM_cons->By,pairwise_iff_getElem->Bz,take_length->BA,take_succ->BB,all_map->Hn,any_eq_true->Ho,append_toArray->Hq,ext_getElem?->Hr,filter_eq_nil_iff->Hs,getElem?_concat_length->Ht,getElem?_range->Hu,head?_drop->Hv,isPrefixOf_iff_prefix->Hw,length_pos_of_mem->Hy,length_range->Hz,length_take_of_le->HA,mem_filterMap->HC,nodup_append->HD,not_lt->HE,pairwise_lt_range->HF,reverse_reverse->HG,take_append_drop->HH,take_succ_cons->HI,drop_drop->SR,drop_left->SU,drop_nil->SV,drop_sublist->SX,exists_mem_of_ne_nil->SY,filter_congr->S0,getElem?_drop->S4,getElem?_zipIdx->S5,head?->S6,isSuffixOf_iff_suffix->S7,length_erase_of_mem->S8,length_flatten->S9,length_pos_iff->S_,length_replicate->Ta,length_reverse->Tb,map_replicate->Tc,map_singleton->Td,mem_erase_of_ne->Te,nodup_range->Tf,pairwise_append->Th,pairwise_cons->Ti,prefix_iff_eq_take->Tj,range_succ->Tn,range_succ_eq_map->To,reverse_nil->Tp,reverse_perm->Tq,set_cons_succ->Tr,set_cons_zero->Ts,set_nil->Tt,sum_replicate_nat->Tu,take_append_of_le_length->Tv,take_left->Tw,take_nil->Tx,zip_append->TB,zip_map_left->TC,zip_nil_left->TF
open List.Pairwise renaming nil->Hm,imp_of_mem->SN
open List.cons renaming inj->SQ
open Nat renaming le_refl->bF,le_trans->df,ne_of_lt->eG,zero_le->ft,lt_of_lt_of_le->gz,ne_of_gt->j8,lt_irrefl->kW,mod_lt->kY,lt_succ_of_lt->pK,le_of_lt->uw,lt_trans->ux,min_eq_left->xS,min_le_right->xT,sub_le->xU,lt_succ_self->BC,mul_comm->BD,pow_succ->BE,repr->BF,toDigits->BG,zero_add->BH,add_assoc->HJ,le_of_succ_le->HK,log2_lt->HL,min_eq_right->HM,not_lt->HN,pow_le_pow_right->HP,strongRecOn->HQ,sub_zero->HR,succ_mul->HS,add_comm->TH,add_zero->TJ,le_of_eq->TL,lt_or_gt_of_ne->TM,lt_trichotomy->TN,min_self->TQ,mod_eq_of_lt->TR,not_lt_zero->TU,one_le_pow->TV,sub_self->TX,succ_le_succ->TY,succ_pos->TZ
open Ne renaming symm->l8
open Option renaming some->aa,none->aj,map_eq_some_iff->d9,ite_none_right_eq_some->l_,bind_eq_some_iff->BI,isNone_iff_eq_none->BJ,bind_eq_bind->HU,pure_def->HV,bind_some->T3,isSome_some->T4,map->T5
open Option.some renaming inj->dE,injEq->fW
open Prod renaming snd->ma,ext->HW,fst->HX
open Prod.mk renaming injEq->T6
open PyProof.Rows renaming envOfC->md,AllBare->nO,Keyed->pL,SortKind->pM,slot_tuple_getitem->uy,IntsAre->xV,callWith_type1->xW,args_tuple_getitem->T8,callWith_builtin1->T9,entry_tuple_getitem->T_,list_addW->Ua,subscriptTail_builtinR->Ub
open PyProof.Rows.F renaming plain_set_update_loop->HY,entry_set_update_loop->T7
open PySem renaming Value->ak,Addr->aq,Shared->au,wpAny_bind->aE,wpAny->aG,model->aN,Heap->aT,Pos->aU,Obj->aV,wpAny_pure->aX,World->aY,sizeLine->a9,Around->bb,starEach->bA,Stmt->bW,Paired->cn,Scope->cB,cLine->c8,Tok->dt,tupleKeyHash->du,SetTable->dF,backTo->dW,Sem->fh,mainGlobals->fv,IsZip->fX,bootBuiltins->gD,wpAny_field->iD,assignEach->i0,cellsFrom->jz,holding->jA,Env->j9,FuncData->j_,IsTupleKey->kb,wpAny_holding->kc,CmpOp->kZ,IsPart->k4,NameKind->k6,wpAny_mono->k7,Operator->me,relayAll->mi,sizeLine_eq->mj,wpAny_truthy_bool->mn,Keyword->nP,atKey->nS,behindInMarks->nU,codeAny->nV,rule->nW,sysModules->nX,typeIs_str->nY,wpAny_seqItems->nZ,GenState->pP,Params->pR,bindC->pW,bindL->pX,compEnvC->pY,swapsWith->pZ,wpAny_Call_Name_kw->p6,wpAny_newObj_type->p7,wpAny_rule->p8,callerA->rM,layNew->rN,numAt->rO,typeOf->rP,valueAt->rQ,wpAny_passesOwn->rR,BindsTo->uz,attributeBase->uF,lastMarks->uG,mem_of_lookup->uH,rawInt->uI,standAt->uJ,wpAny_callSpecial?_slot->uK,wpAny_call_entry->uL,wpAny_forIn_list->uM,wpAny_setState_of->uN,Arguments->xX,bindArgs->ye,codeAny_mono->yf,sliceBounds->yg,textFrom->yh,tupleKind->yi,wpAny_setField_rec->yj,backToKw->BS,carriedByValue->BU,codeAny_builtin->BV,foldedSetIterable->BW,intItems->BX,keywordEach->BY,letOwnedTupleGo->BZ,pushCells->B0,relabel->B1,scanBound->B2,setAddHashed->B3,setRelay->B4,slicePicked->B5,storeSet->B6,wpAny_storeSet_of->B7,wpAny_typeOf->B8,builtinsNs->ID,call->IE,concat_meets->IF,hashByValue->IG,ofAClassStatement->IH,seqIndex_neg->II,seqIndex_of->IJ,seqItems?->IK,strIterType->IL,strValues->IM,subscripted->IP,swappedStores->IQ,swapsWithSole->IS,typeIs_int->IT,wpAny_Name->IU,wpAny_execs_nil->IV,wpAny_newTuple->IW,wpAny_pyIter_list->IY,wpAny_pyIter_tuple->IZ,wpAny_standAt->I0,KeyKind->U2,Within->Vx,checkBuiltinCall->Vy,codeAny_of_tree->Vz,fits_of_scanBound->VA,noFill_list_add->VB,pushCells_keeps->VC,searchCouldBeSeen->VD,seqSlot_of->VE,seq_list_add->VF,slot_list_getitem->VG,tupleKind_room_in1->VH,wpAny_List_spliced->VI,wpAny_assign_Name->VJ,wpAny_binaryOp_repeat_ref->VL,wpAny_eqIsQuiet_tuple->VM,wpAny_isTrue_Compare1->VN,wpAny_loadName_cell->VO,wpAny_loadName_local->VP,wpAny_pyIter_enum->VQ,wpAny_pyIter_zip->VR,wpAny_sequenceKey->VS,wpAny_specialOf->VT,wpAny_updateSeq->VU
open PySem.Around renaming under_plainId->HZ
open PySem.AutoSeq1 renaming wpAny_loadPart'->Hd,idx_int->Uc
open PySem.Builtin.Frozenset renaming newClass->aa1,updateFrom->aa2
open PySem.Builtin.List renaming listFitsIndex->H0,listTooLong->Ud
open PySem.Builtin.Slice renaming slicePlaces->BK,sliceAdjust->H_,sliceApplied->Ue
open PySem.Builtin.SmallTypes renaming nextOf->pN,iterAll->Ug,ownedTupleHandOut->Uh,ownedTupleIsFree->Ui
open PySem.Builtin.Str renaming strKind->xY
open PySem.Builtin.Tuple renaming tupleExact->xZ,tupleIsExact->Uj,tupleItemsOf->Uk,tupleTooMany->Ul
open PySem.Calls renaming Name_function_global->Um,callWith_builtin->Uo,spliced_cons->Up,spliced_nil->Uq
open PySem.Challenge renaming pw_onlyrise_k14_orders_and_heights_written->Ur,rw_onlyrise_k14_orders_and_heights_written->aa3
open PySem.Data renaming seq->Ia
open PySem.Expr.Attribute renaming elim->Us
open PySem.Expr.BinOp renaming elim->Ut
open PySem.Expr.BoolOp renaming elim->Uu
open PySem.Expr.Call renaming elim->Uv
open PySem.Expr.Compare renaming elim->Uw
open PySem.Expr.Constant renaming elim->Ux
open PySem.Expr.Dict renaming elim->Uy
open PySem.Expr.IfExp renaming elim->Uz
open PySem.Expr.List renaming elim->UA
open PySem.Expr.ListComp renaming elim->UB
open PySem.Expr.Name renaming elim->UC
open PySem.Expr.Slice renaming elim->UD
open PySem.Expr.Subscript renaming elim->UE
open PySem.Expr.Tuple renaming elim->UG
open PySem.Expr.UnaryOp renaming elim->UH
open PySem.F renaming called_set->pO,slot_int_rmul->BL,slot_tuple_iterator_next->BM,slot_zip_next->BN,args_str_split_2->Ib,args_tuple_add_2->Ic,entry_str_split->Ie,entry_tuple_add->Ig,slot_str_split->Ih,slot_tuple_add->Ii,slot_tuple_mul->Ij,args_int_rmul_2->UI,args_list_add_2->UJ,args_tuple_iterator_next_1->UK,args_zip_next_1->UL,entry_int_rmul->UM,entry_list_add->UN,entry_tuple_iterator_next->UO,entry_zip_new->UP,entry_zip_next->UQ,fills_int_mul->UR,plainAttrs_list->US,plain_set_new->UT,slot_int_index->UU,slot_list_add->UW,slot_list_insert->UX,slot_str_endswith->UY,slot_str_startswith->UZ,slot_tuple_rmul->U0
open PySem.Heap renaming lt_size->b8,get?_push_of_some->cv,get?_push_size->dY,SameBut->gS,size_push->ka,get?_update_self->x_,ExtBut->Ik,get?_update_other->U1
open PySem.Heap.SameBut renaming update->pQ,refl->Il
open PySem.NameKind renaming cell->jx,free->Im
open PySem.Obj renaming mapSeq->rJ,putSet->ya,data_mapFields->U3
open PySem.Paired renaming length->BO,snoc->U4
open PySem.PassesOwn renaming never->U5
open PySem.PyData renaming shown->nQ,showable->pS,depth->uA,hasDict->uB,depthAll->Io,hasDictAll->Ip,showableAll->Iq,shownAll->Ir
open PySem.SetTable renaming bits->cO,below->dh,runEnd->fu,insertAt->iC,turns->mf,advance->rK,grown->rL,Probe->yb,leap->yc,has->Iu,sizeAbove->Iv,slot->Iw,fill->U7,fits->U8,laid->U9,layClean->U_,relaid->Va,tooFull->Vb
open PySem.SetTable.below renaming go->U6
open PySem.SetTable.layClean renaming free->BP
open PySem.SetTable.probe renaming go->uC
open PySem.Shared renaming TypeIs->Vc
open PySem.Stmt.Assign renaming elim->Vd
open PySem.Stmt.AugAssign renaming elim->Ve
open PySem.Stmt.Expr renaming elim->Vf
open PySem.Stmt.For renaming elim->Vg
open PySem.Stmt.If renaming elim->Vh
open PySem.Stmt.Return renaming elim->Vi
open PySem.Stmt.While renaming elim->Vj
open PySem.Str renaming ofString->c7,length->dJ,join->BQ,empty->Iy
open PySem.Txt renaming split->BR
open PySem.Value renaming ref->b9,none->gA,bool->gT,int->mh,type->uD,str->yd,float->Vk,isInt->Vl,isStrOf->Vm,notImplemented->Vn
open PySem.W renaming Frag->aQ,kia_one->jy,fnOf->nR,keepIn->pU,nsIn->pV,mg_of->uE,instObj->Iz,kitx_list->IA,lookIn->IB,methodObj->IC,OpenLaw->Vo,WalkO->Vr,cellsFrom_some->Vs,findIn->Vt,kitx_dict->Vu,kitx_tuple->Vv,plainGet->Vw
open PySem.W.WData renaming int->Vp
open PySem.W.WShape renaming has->Vq
open Sum renaming inr->n4,inl->rS
open True renaming intro->jB
open PySem.W (Frag fnOf nsIn keepIn codeIn mg_of mg_none_of)
section
universe u0 u1 u2 u3 u4 u5 u6
variable{g:Prop}{α:Sort u0}{β:Sort u1}{γ:Sort u2}{δ:Sort u3}{ε:Sort u4}{ζ:Sort u5}{η:Sort u6}
theorem el0_2{P Q:Prop}(h:P/\Q)(k:P->Q->g):g:=k h.1 h.2
theorem el0_3{P Q R:Prop}(h:P/\Q/\R)(k:P->Q->R->g):g:=k h.1 h.2.1 h.2.2
theorem el0_4{P Q R S:Prop}(h:P/\Q/\R/\S)(k:P->Q->R->S->g):g:=k h.1 h.2.1 h.2.2.1 h.2.2.2
theorem el0_5{P Q R S T:Prop}(h:P/\Q/\R/\S/\T)(k:P->Q->R->S->T->g):g:=k h.1 h.2.1 h.2.2.1 h.2.2.2.1 h.2.2.2.2
theorem el0_6{P Q R S T U:Prop}(h:P/\Q/\R/\S/\T/\U)(k:P->Q->R->S->T->U->g):g:=k h.1 h.2.1 h.2.2.1 h.2.2.2.1 h.2.2.2.2.1 h.2.2.2.2.2
theorem el1_1{P:α->Prop}(h:∃a,P a)(k:∀a,P a->g):g:=h.elim λa h=>k a h
theorem el1_2{P Q:α->Prop}(h:∃a,P a/\Q a)(k:∀a,P a->Q a->g):g:=h.elim λa h=>k a h.1 h.2
theorem el1_3{P Q R:α->Prop}(h:∃a,P a/\Q a/\R a)(k:∀a,P a->Q a->R a->g):g:=h.elim λa h=>k a h.1 h.2.1 h.2.2
theorem el1_4{P Q R S:α->Prop}(h:∃a,P a/\Q a/\R a/\S a)(k:∀a,P a->Q a->R a->S a->g):g:=h.elim λa h=>k a h.1 h.2.1 h.2.2.1 h.2.2.2
theorem el1_5{P Q R S T:α->Prop}(h:∃a,P a/\Q a/\R a/\S a/\T a)(k:∀a,P a->Q a->R a->S a->T a->g):g:=h.elim λa h=>k a h.1 h.2.1 h.2.2.1 h.2.2.2.1 h.2.2.2.2
theorem el1_6{P Q R S T U:α->Prop}(h:∃a,P a/\Q a/\R a/\S a/\T a/\U a)(k:∀a,P a->Q a->R a->S a->T a->U a->g):g:=h.elim λa h=>k a h.1 h.2.1 h.2.2.1 h.2.2.2.1 h.2.2.2.2.1 h.2.2.2.2.2
theorem el1_7{P Q R S T U V:α->Prop}(h:∃a,P a/\Q a/\R a/\S a/\T a/\U a/\V a)(k:∀a,P a->Q a->R a->S a->T a->U a->V a->g):g:=h.elim λa h=>k a h.1 h.2.1 h.2.2.1 h.2.2.2.1 h.2.2.2.2.1 h.2.2.2.2.2.1 h.2.2.2.2.2.2
theorem el2_1{P:α->β->Prop}(h:∃a b,P a b)(k:∀a b,P a b->g):g:=h.elim λa h=>h.elim λb h=>k a b h
theorem el2_2{P Q:α->β->Prop}(h:∃a b,P a b/\Q a b)(k:∀a b,P a b->Q a b->g):g:=h.elim λa h=>h.elim λb h=>k a b h.1 h.2
theorem el2_3{P Q R:α->β->Prop}(h:∃a b,P a b/\Q a b/\R a b)(k:∀a b,P a b->Q a b->R a b->g):g:=h.elim λa h=>h.elim λb h=>k a b h.1 h.2.1 h.2.2
theorem el2_4{P Q R S:α->β->Prop}(h:∃a b,P a b/\Q a b/\R a b/\S a b)(k:∀a b,P a b->Q a b->R a b->S a b->g):g:=h.elim λa h=>h.elim λb h=>k a b h.1 h.2.1 h.2.2.1 h.2.2.2
theorem el2_5{P Q R S T:α->β->Prop}(h:∃a b,P a b/\Q a b/\R a b/\S a b/\T a b)(k:∀a b,P a b->Q a b->R a b->S a b->T a b->g):g:=h.elim λa h=>h.elim λb h=>k a b h.1 h.2.1 h.2.2.1 h.2.2.2.1 h.2.2.2.2
theorem el2_6{P Q R S T U:α->β->Prop}(h:∃a b,P a b/\Q a b/\R a b/\S a b/\T a b/\U a b)(k:∀a b,P a b->Q a b->R a b->S a b->T a b->U a b->g):g:=h.elim λa h=>h.elim λb h=>k a b h.1 h.2.1 h.2.2.1 h.2.2.2.1 h.2.2.2.2.1 h.2.2.2.2.2
theorem el3_1{P:α->β->γ->Prop}(h:∃a b c,P a b c)(k:∀a b c,P a b c->g):g:=h.elim λa h=>h.elim λb h=>h.elim λc h=>k a b c h
theorem el3_2{P Q:α->β->γ->Prop}(h:∃a b c,P a b c/\Q a b c)(k:∀a b c,P a b c->Q a b c->g):g:=h.elim λa h=>h.elim λb h=>h.elim λc h=>k a b c h.1 h.2
theorem el3_3{P Q R:α->β->γ->Prop}(h:∃a b c,P a b c/\Q a b c/\R a b c)(k:∀a b c,P a b c->Q a b c->R a b c->g):g:=h.elim λa h=>h.elim λb h=>h.elim λc h=>k a b c h.1 h.2.1 h.2.2
theorem el3_4{P Q R S:α->β->γ->Prop}(h:∃a b c,P a b c/\Q a b c/\R a b c/\S a b c)(k:∀a b c,P a b c->Q a b c->R a b c->S a b c->g):g:=h.elim λa h=>h.elim λb h=>h.elim λc h=>k a b c h.1 h.2.1 h.2.2.1 h.2.2.2
theorem el3_5{P Q R S T:α->β->γ->Prop}(h:∃a b c,P a b c/\Q a b c/\R a b c/\S a b c/\T a b c)(k:∀a b c,P a b c->Q a b c->R a b c->S a b c->T a b c->g):g:=h.elim λa h=>h.elim λb h=>h.elim λc h=>k a b c h.1 h.2.1 h.2.2.1 h.2.2.2.1 h.2.2.2.2
theorem el4_1{P:α->β->γ->δ->Prop}(h:∃a b c d,P a b c d)(k:∀a b c d,P a b c d->g):g:=h.elim λa h=>h.elim λb h=>h.elim λc h=>h.elim λd h=>k a b c d h
theorem el4_2{P Q:α->β->γ->δ->Prop}(h:∃a b c d,P a b c d/\Q a b c d)(k:∀a b c d,P a b c d->Q a b c d->g):g:=h.elim λa h=>h.elim λb h=>h.elim λc h=>h.elim λd h=>k a b c d h.1 h.2
theorem el4_3{P Q R:α->β->γ->δ->Prop}(h:∃a b c d,P a b c d/\Q a b c d/\R a b c d)(k:∀a b c d,P a b c d->Q a b c d->R a b c d->g):g:=h.elim λa h=>h.elim λb h=>h.elim λc h=>h.elim λd h=>k a b c d h.1 h.2.1 h.2.2
theorem el4_4{P Q R S:α->β->γ->δ->Prop}(h:∃a b c d,P a b c d/\Q a b c d/\R a b c d/\S a b c d)(k:∀a b c d,P a b c d->Q a b c d->R a b c d->S a b c d->g):g:=h.elim λa h=>h.elim λb h=>h.elim λc h=>h.elim λd h=>k a b c d h.1 h.2.1 h.2.2.1 h.2.2.2
theorem el5_3{P Q R:α->β->γ->δ->ε->Prop}(h:∃a b c d e,P a b c d e/\Q a b c d e/\R a b c d e)(k:∀a b c d e,P a b c d e->Q a b c d e->R a b c d e->g):g:=h.elim λa h=>h.elim λb h=>h.elim λc h=>h.elim λd h=>h.elim λe h=>k a b c d e h.1 h.2.1 h.2.2
theorem el6_2{P Q:α->β->γ->δ->ε->ζ->Prop}(h:∃a b c d e f,P a b c d e f/\Q a b c d e f)(k:∀a b c d e f,P a b c d e f->Q a b c d e f->g):g:=h.elim λa h=>h.elim λb h=>h.elim λc h=>h.elim λd h=>h.elim λe h=>h.elim λf h=>k a b c d e f h.1 h.2
theorem el7_1{P:α->β->γ->δ->ε->ζ->η->Prop}(h:∃a b c d e f z,P a b c d e f z)(k:∀a b c d e f z,P a b c d e f z->g):g:=h.elim λa h=>h.elim λb h=>h.elim λc h=>h.elim λd h=>h.elim λe h=>h.elim λf h=>h.elim λz h=>k a b c d e f z h
theorem in1_2{P Q:α->Prop}(a:α)(p:P a)(q:Q a):∃a,P a/\Q a:=⟨a,p,q⟩
theorem in1_3{P Q R:α->Prop}(a:α)(p:P a)(q:Q a)(r:R a):∃a,P a/\Q a/\R a:=⟨a,p,q,r⟩
theorem in1_4{P Q R S:α->Prop}(a:α)(p:P a)(q:Q a)(r:R a)(s:S a):∃a,P a/\Q a/\R a/\S a:=⟨a,p,q,r,s⟩
theorem in2_1{P:α->β->Prop}(a:α)(b:β)(p:P a b):∃a b,P a b:=⟨a,b,p⟩
theorem in2_2{P Q:α->β->Prop}(a:α)(b:β)(p:P a b)(q:Q a b):∃a b,P a b/\Q a b:=⟨a,b,p,q⟩
theorem in2_3{P Q R:α->β->Prop}(a:α)(b:β)(p:P a b)(q:Q a b)(r:R a b):∃a b,P a b/\Q a b/\R a b:=⟨a,b,p,q,r⟩
theorem in2_4{P Q R S:α->β->Prop}(a:α)(b:β)(p:P a b)(q:Q a b)(r:R a b)(s:S a b):∃a b,P a b/\Q a b/\R a b/\S a b:=⟨a,b,p,q,r,s⟩
theorem in3_2{P Q:α->β->γ->Prop}(a:α)(b:β)(c:γ)(p:P a b c)(q:Q a b c):∃a b c,P a b c/\Q a b c:=⟨a,b,c,p,q⟩
theorem in3_3{P Q R:α->β->γ->Prop}(a:α)(b:β)(c:γ)(p:P a b c)(q:Q a b c)(r:R a b c):∃a b c,P a b c/\Q a b c/\R a b c:=⟨a,b,c,p,q,r⟩
theorem in4_2{P Q:α->β->γ->δ->Prop}(a:α)(b:β)(c:γ)(d:δ)(p:P a b c d)(q:Q a b c d):∃a b c d,P a b c d/\Q a b c d:=⟨a,b,c,d,p,q⟩
theorem in5_3{P Q R:α->β->γ->δ->ε->Prop}(a:α)(b:β)(c:γ)(d:δ)(e:ε)(p:P a b c d e)(q:Q a b c d e)(r:R a b c d e):∃a b c d e,P a b c d e/\Q a b c d e/\R a b c d e:=⟨a,b,c,d,e,p,q,r⟩
theorem or2{P Q:Prop}(h:P\/Q)(k:P->g)(l:Q->g):g:=h.elim k l
theorem or3{P Q R:Prop}(h:P\/Q\/R)(k:P->g)(l:Q->g)(m:R->g):g:=h.elim k λh=>h.elim l m
theorem or4{P Q R S:Prop}(h:P\/Q\/R\/S)(k:P->g)(l:Q->g)(m:R->g)(n:S->g):g:=h.elim k λh=>h.elim l λh=>h.elim m n
theorem or5{P Q R S T:Prop}(h:P\/Q\/R\/S\/T)(k:P->g)(l:Q->g)(m:R->g)(n:S->g)(o:T->g):g:=h.elim k λh=>h.elim l λh=>h.elim m λh=>h.elim n o
theorem or6{P Q R S T U:Prop}(h:P\/Q\/R\/S\/T\/U)(k:P->g)(l:Q->g)(m:R->g)(n:S->g)(o:T->g)(p:U->g):g:=h.elim k λh=>h.elim l λh=>h.elim m λh=>h.elim n λh=>h.elim o p
end
section
set_option bootstrap.genMatcherCode true
open Lean
def tacNd(k:Name)(a:Array Syntax):Syntax:=.node .none (`Lean.Parser.Tactic++k) a
def tacNull(a:Array Syntax):Syntax:=mkNullNode a
def tacSeq(a:Array Syntax):Syntax:=tacNd `tacticSeq #[tacNd `tacticSeq1Indented #[tacNull (mkSepArray a (mkAtom ";"))]]
def tacFst(a:Array (Array Syntax)):Syntax:=tacNd `first #[mkAtom "first",tacNull ((a.push #[tacNd `fail #[mkAtom "fail",tacNull #[]]]).map λs=>.node .none `group #[mkAtom "|",tacSeq s])]
def tacPar(a:Array Syntax):Syntax:=tacNd `paren #[mkAtom "(",tacSeq a,mkAtom ")"]
def tacObt(p h:Syntax):Syntax:=tacNd `obtain #[mkAtom "obtain",tacNull #[p],tacNull #[],tacNull #[mkAtom ":=",tacNull #[h]]]
def tacRin(a:Array Syntax):Syntax:=tacNd `rintro #[mkAtom "rintro",tacNull a,tacNull #[]]
def tacMed(p:Syntax):Syntax:=tacNd `rcasesPatMed #[tacNull #[p]]
def tacLo(p:Syntax):Syntax:=tacNd `rcasesPatLo #[tacMed p,tacNull #[]]
def tacTup(a:Array Syntax):Syntax:=tacNd `rcasesPat.tuple #[mkAtom "⟨",tacNull (mkSepArray a (mkAtom ",")),mkAtom "⟩"]
def tacOne(a:Syntax):Syntax:=tacNd `rintroPat.one #[a]
def tacApp(f:String)(a:Array Syntax):Syntax:=Syntax.mkApp (mkIdent (.mkSimple f)) (a.map (⟨·⟩))
def tacRef(f:String)(a:Array Syntax):Syntax:=tacNd `refine #[mkAtom "refine",tacApp f a]
def tacHole(t:Syntax):Syntax:=.node .none `Lean.Parser.Term.syntheticHole #[mkAtom "?",t]
def tacIs(q:Syntax)(k:Name):Bool:=q.getKind==`Lean.Parser.Tactic++k
def tacNew(x:String)(n:Nat):MacroM Syntax:=do return mkIdent (<-Macro.addMacroScope (.mkSimple (x++toString n)))
def tacNo:MacroM Syntax:=Macro.throwUnsupported
def tacTry(t:Syntax):Syntax:=tacNd `tacticTry_ #[mkAtom "try",tacSeq #[t]]
def tacOr(h:Syntax)(cl as:Array Syntax):MacroM Syntax:=do
  let mut gs:=#[h]
  let mut rs:=#[]
  for a in as do
   let t<-tacNew "g" gs.size
   gs:=gs.push (tacHole t)
   rs:=rs.push (tacNd `case' #[mkAtom "case'",tacNull #[tacNd `caseArg #[.node .none `Lean.binderIdent #[t],tacNull #[]]],mkAtom "=>",tacSeq (cl.push (tacRin #[tacOne a]))])
  return tacPar (#[tacRef (s!"or{as.size}") gs]++rs.reverse)
def tacAnd(h:Syntax)(cl ps:Array Syntax)(j:Nat):MacroM (Array (Array Syntax)):=do
  let n:=ps.size
  let mut us:=#[]
  let mut ls:=#[]
  for q in (ps.extract 0 (j-1)).push (if j==n then ps[n-1]! else tacLo (tacTup (ps.extract (j-1) n))) do
   let a:=q[0][0].getSepArgs
   if q[1].getNumArgs==0&&a.size==1&&tacIs a[0]! `rcasesPat.tuple then
    let t<-tacNew "t" us.size
    us:=us.push (tacOne (tacNd `rcasesPat.one #[t]))
    ls:=ls.push (tacObt q[0] t)
   else us:=us.push (tacOne (tacNd `rcasesPat.paren #[mkAtom "(",q,mkAtom ")"]))
  let ms:=cl.push (tacRin us)++ls
  return (Array.range j).map λk=>#[tacRef (s!"el{j-1-k}_{k+1}") #[h,tacHole (mkAtom "_")]]++ms
def tacO(s:Syntax):MacroM Syntax:=do
  if s[1].getNumArgs==0||s[2].getNumArgs>0||s[3].getNumArgs==0||s[3][1].getNumArgs !=1 then tacNo else
  let h:=s[3][1][0]
  let as:=s[1][0][0].getSepArgs
  let n:=as.size
  let cl:=if h.isIdent then #[tacTry (tacNd `clear #[mkAtom "clear",tacNull #[h]])] else #[]
  if n>6 then tacNo else
  if n>1 then tacOr h cl as else
  if !tacIs as[0]! `rcasesPat.tuple then tacNo else
  let ps:=as[0]![1].getSepArgs
  let n:=ps.size
  if n<2 then tacNo else
  let mut ts:=#[]
  for i in [0:n-1] do
   if n-i<=8 then ts:=ts++(<-tacAnd h cl ps (n-i))
  return tacFst ts
def tacR(s:Syntax):MacroM Syntax:=do
  let tu(q:Syntax):Bool:=tacIs q `rintroPat.one&&tacIs q[0] `rcasesPat.tuple
  if s[2].getNumArgs>0|| !s[1].getArgs.any tu then tacNo else
  let mut ts:=#[]
  for q in s[1].getArgs do
   if tu q then
    let t<-tacNew "s" ts.size
    ts:=(ts.push (tacNd `intro #[mkAtom "intro",tacNull #[t]])).push (tacObt (tacMed q[0]) t)
   else ts:=ts.push (tacRin #[q])
  return tacPar ts
def tacTm(t:Syntax):Array Syntax:=if t.getKind==`Lean.Parser.Term.tuple&&t[1].getNumArgs>0 then #[t[1][0]]++t[1][2].getSepArgs else #[]
def tacX(s:Syntax):MacroM Syntax:=do
  let t:=s[1]
  let a:=tacTm t
  if a.size>0 then return s.setArg 1 (.node .none `Lean.Parser.Term.anonymousCtor #[mkAtom "⟨",tacNull (mkSepArray a (mkAtom ",")),mkAtom "⟩"]) else
  let es:=t[1].getSepArgs
  let n:=es.size
  if t.getKind !=`Lean.Parser.Term.anonymousCtor||n<3||n>8 then tacNo else
  return tacFst ((Array.range (n-1)).map λk=>#[s.setArg 1 (tacApp (s!"in{n-1-k}_{k+1}") es)])
def tacH(s:Syntax):MacroM Syntax:=do
  let d:=s[2][0]
  let a:=tacTm d[0]
  if d.getKind !=`Lean.Parser.Term.letPatDecl||a.size==0 then tacNo else
  return tacObt (tacMed (tacTup (a.map λe=>tacLo (if e.isIdent then tacNd `rcasesPat.one #[e] else tacNd `rcasesPat.ignore #[mkAtom "_"])))) d[4]
def tacC(s:Syntax):MacroM Syntax:=do
  if s[1].getNumArgs !=1||s[1][0][0].getNumArgs>0||s[2].getNumArgs==0||s[2][1][1].getNumArgs>0 then tacNo else
  return tacObt s[2][1][0] s[1][0][1]
def tacEx(t:Syntax):Array Syntax:=#[tacNd `exact #[mkAtom "exact",t]]
def tacNm(s:String)(f:Name->Syntax):Array Syntax:=(s.splitOn ",").toArray.map λx=>f x.toName
def tacLem(n:Name):Syntax:=tacNd `simpLemma #[tacNull #[],tacNull #[],mkIdent n]
def tacEra(n:Name):Syntax:=tacNd `simpErase #[mkAtom "-",mkIdent n]
def tacArr(ys:Array Syntax):Syntax:=tacNull #[mkAtom "[",tacNull (mkSepArray ys (mkAtom ",")),mkAtom "]"]
def tacSi(s:Syntax):MacroM Syntax:=do
  if s[4].getNumArgs==0 then tacNo else
  let o:=s[3].getNumArgs>0
  let xs:=s[4][1].getSepArgs
  let a:=tacArr (if o then xs++tacNm "List.map_cons,List.map_nil,List.cons_append,List.nil_append,Nat.reduceSub,List.replicate" tacLem else tacNm "OR.exs_cons,OR.thenS_next,OR.sliceOp,OR.bfOp,OR.ixVal,OR.walkOf,Int.reducePow,List.all_eq_true,List.reverse_reverse" tacEra++xs)
  let t(w:String):Syntax:=tacNd (.mkSimple w) ((s.setArg 0 (mkAtom w)).setArg 4 a).getArgs
  if o||s[5].getNumArgs>0 then return t "simp" else
  return tacPar #[tacTry (t "dsimp"),tacTry (t "simp")]
def tacDs(s:Syntax):MacroM Syntax:=do
  if s[3].getNumArgs==0||s[4].getNumArgs>0 then tacNo else
  return tacNd `simp ((s.setArg 0 (mkAtom "simp")).setArg 4 (tacArr (tacNm "OR.thenS_next,OR.exs_nil,OR.sat_ok,List.set_cons_succ,List.set_cons_zero" tacLem))).getArgs
def tacTv(_:Syntax):MacroM Syntax:=do
  let l(t:Syntax):Syntax:=Syntax.mkApp (mkIdent `Or.inl) #[⟨t⟩]
  let r(t:Syntax):Syntax:=Syntax.mkApp (mkIdent `Or.inr) #[⟨t⟩]
  let e:Syntax:=mkIdent `rfl
  return tacFst #[tacEx (l e),tacEx (r (l e)),tacEx (r e),tacEx (r (r e)),#[tacNd `assumption #[mkAtom "assumption"]]]
def tacL(s:Syntax):MacroM Syntax:=do
  if s[1][0].getNumArgs>0 then tacNo else
  let a:=tacNd `assumption #[mkAtom "assumption"]
  let c:=tacNd `decide #[mkAtom "decide",tacNd `optConfig #[tacNull #[]]]
  let b(t:Syntax):Syntax:=.node .none `Lean.Parser.Term.byTactic #[mkAtom "by",tacSeq #[t]]
  let h:=b a
  let d:=b c
  let u:Syntax:=.node .none `Lean.Parser.Term.hole #[mkAtom "_"]
  let l<-`(tactic|lia (verbose:=true))
  let e(p:Name)(q:String):Array Syntax:=
   let w:=q.splitOn " "
   tacEx (Syntax.mkApp (mkIdent (.mkStr p w[0]!)) (w[1]!.toList.toArray.map λc=>⟨if c=='h' then h else if c=='d' then d else u⟩))
  let ns:="le_add_left_of_le d,le_trans hd,le_add_right uu,le_add_left uu,ge_of_not_lt h,lt_add_left ud,le_refl u,succ_pos u,le_of_lt h,lt_of_le_of_lt hd,lt_of_lt_of_le hd,le_of_eq h,zero_le u,le_of_lt_succ h,lt_succ_of_le h,lt_succ_of_lt h,lt_of_succ_le h,le_trans hh,lt_of_lt_of_le hh,lt_of_le_of_lt hh,lt_trans hh,sub_lt hd,sub_le uu,add_le_add_right hu,add_le_add_left hu,add_lt_add_right hu,add_lt_add_left hu,le_add_right_of_le h,le_add_left_of_le h,lt_add_right uh,lt_add_left uh,le_of_succ_le h,lt_of_not_le h,not_lt_of_le h,not_le_of_lt h,ne_of_lt h,ne_of_gt h,sub_add_cancel h,add_comm uu,add_assoc uuu,zero_add u,lt_add_one u,min_le_left uu,min_le_right uu".splitOn ","
  let is:="natCast_nonneg u,le_of_lt h,le_trans hd,lt_of_lt_of_le hd,lt_of_le_of_lt hd".splitOn ","
  return tacFst #[#[tacNd `withReducible #[mkAtom "with_reducible",tacSeq #[tacFst ((#[#[a]]++(ns.map (e `Nat)).toArray++(is.map (e `Int)).toArray).push (tacEx (Syntax.mkApp (mkIdent `Eq.symm) #[⟨(Syntax.mkApp (mkIdent `Nat.sub_add_cancel) #[⟨h⟩])⟩])))]]],#[c],#[l]]
end
local macro_rules (kind:=Lean.Parser.Tactic.simpAutoUnfold)
 |s=>tacSi s
local macro_rules (kind:=Lean.Parser.Tactic.dsimpAutoUnfold)
 |s=>tacDs s
local macro_rules (kind:=Lean.Parser.Tactic.tacticTrivial)
 |s=>tacTv s
local macro_rules (kind:=Lean.Parser.Tactic.lia)
 |s=>tacL s
local macro_rules (kind:=Lean.Parser.Tactic.obtain)
 |s=>tacO s
local macro_rules (kind:=Lean.Parser.Tactic.rintro)
 |s=>tacR s
local macro_rules (kind:=Lean.Parser.Tactic.rcases)
 |s=>tacC s
local macro_rules (kind:=Lean.Parser.Tactic.exact)
 |s=>tacX s
local macro_rules (kind:=Lean.Parser.Tactic.refine)
 |s=>tacX s
local macro_rules (kind:=Lean.Parser.Tactic.tacticHave__)
 |s=>tacH s
set_option bootstrap.genMatcherCode false
set_option bootstrap.genMatcherCode true
open Lean Parser.Command in
local macro_rules (kind:=Lean.Parser.Command.declaration)
 |s=>do
  let d:=s[1]
  if d.getKind==``definition&&s[0][4].getNumArgs==0 then
   let y:=d[2][1][0][1]
   if y.isIdent||y.isMissing||y.getKind==``Lean.Parser.Term.prop||[`List,`Option].contains y[0].getId then return s.setArg 0 (s[0].setArg 4 (mkNullNode #[.node .none ``«noncomputable» #[mkAtom "noncomputable "]]))
   return s.setArg 1 (.node .none ``«theorem» #[mkAtom "theorem ",d[1],.node .none ``declSig #[d[2][0],d[2][1][0]],d[3]])
  if d.getKind==``«abbrev» then return (s.setArg 1 (.node .none ``definition #[mkAtom "def ",d[1],d[2],d[3],mkNullNode])).setArg 0 (s[0].setArg 4 (mkNullNode #[.node .none ``«noncomputable» #[mkAtom "noncomputable "]]))
  Macro.throwUnsupported
set_option bootstrap.genMatcherCode false
open Lean in
local macro_rules (kind:=«term_<|>_»)
 |s=>do
  let a:Term:=⟨s[0]⟩
  let b:Term:=⟨s[2]⟩
  let e:=mkIdent `e
  let h:=mkIdent `h
  match s[0].isNatLit? with
  |none=>`(if h:($e).ctorIdx=$b then $a (motive_1:=λ_=>Bool) $e h $(mkIdent `f) else false)
  |some k=>do
   let u:Array Term:=.replicate k (<-`(_))
   `(let⟨q,g⟩:=$(mkIdent `bV) $h;$b (motive_1:=λt=>$e=t->_) $e q (λ$u* z=>⟨$u,*,z,by subst z;exact g⟩) rfl)
open Lean in
local macro_rules (kind:=Lean.Parser.Tactic.tacticLet__)
 |s=>return .node .none ``Lean.Parser.Tactic.tacticHave__ #[mkAtom "have",s[1],s[2]]
namespace OR
inductive PV where
 |aL
 |bl (b:Bool)
 |int (i:Int)
 |str (cs:List Nat)
 |af (xs:List PV)
 |ai (xs:List PV)
deriving Inhabited
mutual
noncomputable def PV.beq:PV->PV->Bool
 |.aL,.aL=>true
 |.bl a,.bl b=>a==b
 |.int a,.int b=>decide (a=b)
 |.str a,.str b=>decide (a=b)
 |.af a,.af b=>PV.my a b
 |.ai a,.ai b=>PV.my a b
 |_,_=>false
noncomputable def PV.my:List PV->List PV->Bool
 |[],[]=>true
 |a::r,b::s=>PV.beq a b&&PV.my r s
 |_,_=>false
end
mutual
theorem PV.eq_of_beq:∀{a b:PV},PV.beq a b=true->a=b
 |.aL,b,h=>by cases b<;>simp[PV.beq]at h<;>rfl
 |.bl a,b,h=>by cases b<;>simp[PV.beq]at h<;>rw[h]
 |.int a,b,h=>by cases b<;>simp[PV.beq]at h<;>rw[h]
 |.str a,b,h=>by cases b<;>simp[PV.beq]at h<;>rw[h]
 | .af a,b,h=>by
  cases b<;>simp only[PV.beq,eN]at h;rw[PV.CD h]
 | .ai a,b,h=>by
  cases b<;>simp only[PV.beq,eN]at h;rw[PV.CD h]
theorem PV.CD:∀{a b:List PV},PV.my a b=true->a=b
 |[],b,h=>by cases b<;>simp[PV.my]at h<;>rfl
 | x::r,b,h=>by
  cases b with
  |nil=>simp[PV.my]at h
  |cons y s=>
   simp only[PV.my,bP]at h;rw[PV.eq_of_beq h.1,PV.CD h.2]
end
mutual
theorem PV.Jp:∀(a:PV),PV.beq a a=true
 |.aL=>rfl
 |.bl _=>by simp[PV.beq]
 |.int _=>by simp[PV.beq]
 |.str _=>by simp[PV.beq]
 |.af a=>by rw[PV.beq];exact PV.Ct a
 |.ai a=>by rw[PV.beq];exact PV.Ct a
theorem PV.Ct:∀(a:List PV),PV.my a a=true
 |[]=>rfl
 |x::r=>by rw[PV.my,PV.Jp x,PV.Ct r];rfl
end
noncomputable instance:DecidableEq PV:=λa b=>if h:PV.beq a b=true then .isTrue (PV.eq_of_beq h)else .isFalse λe=>h (e▸PV.Jp a)
mutual
/-- == of the ad9 -/
noncomputable def aH:PV->PV->Bool
 |.aL,.aL=>true
 |.bl a,.bl b=>a==b
 |.bl a,.int i=>decide ((if a then 1 else 0)=i)
 |.int i,.bl a=>decide (i=(if a then 1 else 0))
 |.int a,.int b=>decide (a=b)
 |.str a,.str b=>decide (a=b)
 |.af a,.af b=>f_ a b
 |.ai a,.ai b=>f_ a b
 |_,_=>false
noncomputable def f_:List PV->List PV->Bool
 |[],[]=>true
 |a::r,b::s=>aH a b&&f_ r s
 |_,_=>false
end
mutual
/-- how deep a value ac3 -/
noncomputable def bM:PV->Nat
 |.af xs=>cC xs+1
 |.ai xs=>cC xs+1
 |_=>0
noncomputable def cC:List PV->Nat
 |[]=>0
 |x::r=>max (bM x) (cC r)
end
@[simp] def yS8:bM .aL=0:=by rw[bM]<;>simp
@[simp] def xk1{b}:bM (.bl b)=0:=by rw[bM]<;>simp
@[simp] def yS6{b}:bM (.int b)=0:=by rw[bM]<;>simp
@[simp] def yS9{b}:bM (.str b)=0:=by rw[bM]<;>simp
@[simp] def yT0{xs}:bM (.af xs)=cC xs+1:=by rw[bM]
@[simp] def yS7{xs}:bM (.ai xs)=cC xs+1:=by rw[bM]
@[simp] def yC7:cC []=0:=by rw[cC]
@[simp] def yq4{x r}:cC (x::r)=max (bM x) (cC r):=by rw[cC]
def eM(m n:Nat):Bool:=decide (m<=100) ||decide (n<=100)
@[simp] def xI4{n}:eM 0 n=true:=by simp[eM]
@[simp] def xI5{n}:eM n 0=true:=by simp[eM]
inductive aJ where
 |p (v:PV)
 |ref (n:Nat)
deriving Inhabited
inductive b6 where
 |ai (xs:List PV)
 |bB (av:List (PV×PV))
 |dG (av:List (PV×PV))
 |dead
deriving Inhabited
@[reducible] def ay:=List b6
@[reducible] def Env:=List (Option aJ)
inductive ax(O:Type) where
 |ok (a:O) (st:ay)
 |mB (cls:Nat) (args:List PV) (st:ay)
 |stuck
abbrev ax.bind{O β:Type}:ax O->(O->ay->ax β)->ax β
 |.ok a st,f=>f a st
 |.mB c as st,_=>.mB c as st
 |.stuck,_=>.stuck
variable{O β:Type}
@[simp] def ax.lb(a:O)(st:ay)(f:O->ay->ax β):(ax.ok a st).bind f=f a st:=rfl
@[simp] def ax.ab0(f:O->ay->ax β):(ax.stuck:ax O).bind f=.stuck:=rfl
@[simp] def ax.aa9(c as st)(f:O->ay->ax β):(ax.mB c as st:ax O).bind f=.mB c as st:=rfl
def aW(st:ay)(n:Nat):Option b6:=st[n]?
variable{st:ay}{n:Nat}{o:b6}
def t5(h:n<st.length):aW (st.set n o) n=aa o:=by unfold aW;simp[h]
def G2{m:Nat}(h:m≠n):aW (st.set n o) m=aW st m:=by unfold aW;simp[l8 h]
@[simp] def jj:aW (st++[o]) st.length=aa o:=by unfold aW;simp
def xh{r:ay}(h:n<st.length):aW (st++r) n=aW st n:=by unfold aW;rw[jv h]
def pj(h:aW st n=aa o):n<st.length:=(dU.mp h).1
abbrev view(st:ay):aJ->Option PV
 |.p v=>aa v
 | .ref n=>match aW st n with
  |some (.ai xs)=>aa (.ai xs)
  |_=>aj
@[simp] def ag9(st:ay)(v:PV):view st (.p v)=aa v:=rfl
abbrev ax.fY{β:Type}(r:ax aJ)(f:PV->ay->ax β):ax β:=r.bind λv st=>match view st v with
 |some x=>f x st
 |none=>.stuck
@[simp] def ax.Wd(v:PV)(st:ay)(f:PV->ay->ax β):(ax.ok (aJ.p v) st).fY f=f v st:=rfl
abbrev ax.bindB{β:Type}(r:ax aJ)(f:Bool->ay->ax β):ax β:=r.bind λv st=>match v with
 |.p (.bl b)=>f b st
 |_=>.stuck
@[simp] def ax.qa(b:Bool)(st:ay)(f:Bool->ay->ax β):(ax.ok (aJ.p (.bl b)) st).bindB f=f b st:=rfl
abbrev ax.cg{β:Type}(r:ax aJ)(f:PV->ay->ax β):ax β:=r.bind λv st=>match v with
 |.p x=>f x st
 |_=>.stuck
@[simp] def ax.sd(v:PV)(st:ay)(f:PV->ay->ax β):(ax.ok (aJ.p v) st).cg f=f v st:=rfl
inductive ke where |add |sub |mul |fdiv |mod |pow |shl |shr |band |subB |DP
deriving DecidableEq
inductive kg where |eq |ne |lt |le |gt |ge |isIn |ze |isNone |YG |Yx
deriving DecidableEq
inductive Ty where |int |str |bool |list |tuple
deriving DecidableEq
set_option genInjectivity false
inductive Bf where
 |len |mN (t:Ty)|all |any |Yy |DM |min2 |max2 |sum |toInt |toStr |repr |tuple |list |sorted |sL |abs |Zr |Za
deriving DecidableEq
inductive Mt where
 |find |upper |join |index |count |split |partition |startswith |endswith
 |append |extend |insert |pop |reverse |clear
deriving DecidableEq
inductive Tg where |name (i:Nat)|af (is:List Nat)
mutual
inductive E where
 |var (i:Nat)
 |ag (v:PV)
 |bin (op:ke) (a b:E)
 |neg (a:E)
 |not (a:E)
 |cmp (op:kg) (a b:E)
 |chain (op cR:kg) (a b c:E)
 |and (a b:E)
 |or (a b:E)
 |ite (c a b:E)
 |af (es:List E)
 |list (mt:Bool) (es:List E)
 |dict (ks:List PV) (es:List E)
 |ix (a b:E)
 |slice (a:E) (lo hi:Option E)
 |call (f:Nat) (es:List E)
 |blt (f:Bf) (es:List E)
 |cD (m:Mt) (o:E) (es:List E)
 |comp (mt:Bool) (bU:E) (tgt:Tg) (it:It) (cond:Option E) (bc:List Nat) (n:Nat)
 |freeze (e:E)
 |fK (e:E)
 |rev (e:E)
 |JJ (a b:E)
 |JG (o k d:E)
 |JN
 |ME (o k:E)
 |MG (neg:Bool) (k o:E)
 |JI (fs:List (List Nat)) (e:E)
 |Mw (e:E)
 |JS (l:List (List Nat×List Nat)) (e:E)
 |JH (e:E)
 |JK (neg:Bool) (k o:E)
inductive It where
 |of (e:E)
 |range (e:E)
 |zip (es:List E)
 |R_ (a b:E)
 |enum (e:E)
 |qe (e:E)
end
inductive S where
 |expr (e:E)
 |ret (e:E)
 |set (i:Nat) (e:E)
 |Mp (is:List Nat) (e:E)
 |mR (o i v:E)
 |MK (fs:List (List Nat)) (o k v:E)
 |aug (i:Nat) (op:ke) (e:E)
 |mw (i:Nat) (op:ke) (e:E)
 |ite (c:E) (a b:List S)
 |for (tgt:Tg) (it:It) (body:List S)
 |while (c:E) (body:List S)
 |pass
set_option genInjectivity true
inductive Flow where
 |next (env:Env)
 |ret (v:aJ)
@[irreducible] def SZ:Nat:=16777216
def fC(i:Int):Bool:=decide (-(2 ^ 64)<i/\i<2 ^ 64)
@[simp] abbrev qA:PV->PV->Option PV
 |.int i,.int j=>aa (.int (i+j))
 |.str a,.str b=>if a.length+b.length<=SZ then aa (.str (a++b))else aj
 |.af a,.af b=>if a.length+b.length<=SZ then aa (.af (a++b))else aj
 |.ai a,.ai b=>if a.length+b.length<=SZ then aa (.ai (a++b))else aj
 |_,_=>aj
@[simp] abbrev Cq:PV->PV->Option PV
 |.int i,.int j=>aa (.int (i-j))
 |_,_=>aj
@[simp] abbrev vZ:PV->PV->Option PV
 |.int i,.int j=>if fC i ||fC j then aa (.int (i*j))else aj
 |.str a,.int n=>if 0<=n/\n<=1000000/\a.length*n.toNat<=SZ then aa (.str (cG n.toNat a).flatten)else aj
 |.ai a,.int n=>if 0<=n/\n<=1000000/\a.length*n.toNat<=SZ then aa (.ai (cG n.toNat a).flatten)else aj
 |_,_=>aj
@[simp] abbrev EO:PV->PV->Option PV
 |.af a,.int n=>if 2<=n/\n<=1000/\1<=a.length/\a.length<=1000 then aa (.af (cG n.toNat a).flatten)else aj
 |_,_=>aj
@[simp] abbrev EN:PV->PV->Option PV
 |.int i,.int j=>if 0<j/\j<1000000000000000000000000000000 then aa (.int (i/j))else aj
 |_,_=>aj
@[simp] abbrev Co:PV->PV->Option PV
 |.int i,.int j=>if 0<j then aa (.int (i%j))else aj
 |_,_=>aj
@[simp] abbrev Cp:PV->PV->Option PV
 |.int i,.int j=>if 0<=j/\j<=1000000/\fC i then aa (.int (i ^ j.toNat))else aj
 |_,_=>aj
@[simp] abbrev Wb:PV->PV->Option PV
 |.int i,.int j=>if 0<=j/\j<=1000000/\fC i then aa (.int (i*2 ^ j.toNat))else aj
 |_,_=>aj
@[simp] abbrev Wc:PV->PV->Option PV
 |.int i,.int j=>if 0<=j then aa (.int (i/2 ^ j.toNat))else aj
 |_,_=>aj
@[simp] abbrev μ:PV->PV->Option PV
 |.int i,.int j=>if j=1/\0<=i then aa (.int (i%2))else aj
 |_,_=>aj
@[simp] abbrev ν:PV->PV->Option PV
 |.int i,.int j=>aa (.int (i-j))
 |.int i,.bl b=>aa (.int (i-if b then 1 else 0))
 |_,_=>aj
@[simp] def iu(op:ke)(x y:PV):Option PV:=match op with
 |.add=>qA x y
 |.sub=>Cq x y
 |.mul=>vZ x y
 |.fdiv=>EN x y
 |.mod=>Co x y
 |.pow=>Cp x y
 |.shl=>Wb x y
 |.shr=>Wc x y
 |.band=>μ x y
 |.subB=>ν x y
 |.DP=>EO x y
abbrev kM(b:List Nat):List Nat->Bool
 |[]=>b.isEmpty
 |x::r=>b.isPrefixOf (x::r) ||kM b r
abbrev findIn(b:List Nat):List Nat->Nat->Option Nat
 |[],k=>if b.isEmpty then aa k else aj
 |x::r,k=>if b.isPrefixOf (x::r)then aa k else findIn b r (k+1)
def ψ(b a:List Nat):Int:=match findIn b a 0 with
 |some k=>(k:Int)
 |none=>-1
abbrev zw:List Nat->List Nat->Bool
 |_,[]=>false
 |[],_::_=>true
 |x::r,y::s=>if x<y then true else if y<x then false else zw r s
abbrev eL:List PV->Option (List (List Nat))
 |[]=>aa []
 |.str c::r=>(eL r).map (c :: ·)
 |_=>aj
abbrev xR3:PV->PV->Option PV
 | .af a,.af b=>match eL a,eL b with
  |some x,aa y=>aa (.bl (decide (x<y)))
  |_,_=>aj
 |_,_=>aj
def gO(x:PV)(xs:List PV):Bool:=xs.any λy=>aH y x
@[simp] abbrev isIn:PV->PV->Option Bool
 |.str a,.str b=>aa (kM a b)
 |x,.af xs=>if eM (bM x) (cC xs)then aa (gO x xs)else aj
 |x,.ai xs=>if eM (bM x) (cC xs)then aa (gO x xs)else aj
 |_,_=>aj
@[simp] abbrev iQ(p:Int->Int->Bool):PV->PV->Option PV
 |.int i,.int j=>aa (.bl (p i j))
 |_,_=>aj
@[simp] abbrev z7(neg:Bool):PV->PV->Option PV
 |.aL,.aL=>aa (.bl (!neg))
 |_,.aL=>aa (.bl neg)
 |.bl a,.bl b=>aa (.bl ((a==b) != neg))
 |_,.bl _=>aa (.bl neg)
 |_,_=>aj
@[simp] def dI(op:kg)(x y:PV):Option PV:=match op with
 |.eq=>if eM (bM x) (bM y)then aa (.bl (aH x y))else aj
 |.ne=>if eM (bM x) (bM y)then aa (.bl (!aH x y))else aj
 |.lt=>iQ (λi j=>decide (i<j)) x y
 |.le=>iQ (λi j=>decide (i<=j)) x y
 |.gt=>iQ (λi j=>decide (j<i)) x y
 |.ge=>iQ (λi j=>decide (j<=i)) x y
 |.isIn=>(isIn x y).map .bl
 |.ze=>(isIn x y).map λb=>.bl (!b)
 |.isNone=>z7 false x y
 |.YG=>z7 true x y
 |.Yx=>xR3 x y
def aO(n:Nat)(i:Int):Option Nat:=if 0<=i then(if i<n then aa i.toNat else aj)else if -(n:Int)<=i then aa (i+n).toNat else aj
@[simp] abbrev lL:PV->PV->Option PV
 |.af xs,.int i=>(aO xs.length i).bind λj=>xs[j]?
 |.ai xs,.int i=>(aO xs.length i).bind λj=>xs[j]?
 |.str cs,.int i=>(aO cs.length i).bind λj=>(cs[j]?).map λc=>.str [c]
 |_,_=>aj
abbrev bo(n d:Nat):Option Int->Nat
 |none=>d
 |some i=>if 0<=i then min i.toNat n else(n+i).toNat
def cut{O:Type}(xs:List O)(lo hi:Option Int):List O:=(xs.drop (bo xs.length 0 lo)).take (bo xs.length xs.length hi-bo xs.length 0 lo)
@[simp] abbrev sliceOp:PV->Option Int->Option Int->Option PV
 |.af xs,lo,hi=>aa (.af (cut xs lo hi))
 |.ai xs,lo,hi=>aa (.ai (cut xs lo hi))
 |.str cs,lo,hi=>aa (.str (cut cs lo hi))
 |_,_,_=>aj
abbrev eJ(k:PV):List (PV×PV)->Option PV
 |[]=>aj
 |(k',v)::r=>if k'=k then aa v else eJ k r
def dC(k v:PV)(av:List (PV×PV)):List (PV×PV):=if(av.any λp=>decide (p.1=k))=true then av.map (λp=>if p.1=k then(p.1,v)else p)else av++[(k,v)]
@[simp] abbrev EC:Ty->PV->Bool
 |.int,.int _=>true
 |.int,.bl _=>true
 |.str,.str _=>true
 |.bool,.bl _=>true
 |.list,.ai _=>true
 |.tuple,.af _=>true
 |_,_=>false
abbrev j0:List PV->Option Bool
 |[]=>aa true
 |.bl b::r=>(j0 r).map (b && ·)
 |_=>aj
abbrev jo:List PV->Option (List Int)
 |[]=>aa []
 |.int i::r=>(jo r).map (i :: ·)
 |_=>aj
abbrev LF:Int->List Int->Int
 |m,[]=>m
 |m,x::r=>LF (if x<m then x else m) r
abbrev m_:Int->List Int->Int
 |m,[]=>m
 |m,x::r=>m_ (if m<x then x else m) r
abbrev cQ(o:Option PV)(st:ay):ax aJ:=match o with |some v=>.ok (.p v) st |none=>.stuck
@[simp] def yH0(v:PV)(st:ay):cQ (aa v) st=.ok (.p v) st:=rfl
@[simp] def xE1(st:ay):cQ aj st=.stuck:=rfl
def Ag:List Nat:=[84,114,117,101]
def Av:List Nat:=[70,97,108,115,101]
def lG(c:Nat):Bool:=decide (32<=c/\c<=126/\c≠39/\c≠92)
def fq(i:Int):List Nat:=(toString i).toList.map Hh
abbrev gP:List (List Nat)->List Nat
 |[]=>[]
 |[x]=>x
 |x::r=>x++[44,32]++gP r
def wU(ts:List (List Nat)):List Nat:=[40]++gP ts++(if ts.length=1 then[44,41]else[41])
def wN(ts:List (List Nat)):List Nat:=[91]++gP ts++[93]
mutual
/-- a value written -/
noncomputable def d5:PV->Option (List Nat)
 |.aL=>aa [78,111,110,101]
 |.bl true=>aa Ag
 |.bl false=>aa Av
 |.int i=>if i.natAbs.log2<1920 then aa (fq i)else aj
 |.str cs=>if cs.all lG then aa ([39]++cs++[39])else aj
 | .af xs=>match mS xs with
  |some ts=>aa (wU ts)
  |none=>aj
 | .ai xs=>match mS xs with
  |some ts=>aa (wN ts)
  |none=>aj
noncomputable def mS:List PV->Option (List (List Nat))
 |[]=>aa []
 | x::r=>match d5 x with
  | some t=>match mS r with
   |some ts=>aa (t::ts)
   |none=>aj
  |none=>aj
end
def xk(x:PV):Option (List Nat):=match d5 x with
 |some t=>if bM x<=100/\t.length<=SZ then aa t else aj
 |none=>aj
@[simp] abbrev qQ:PV->Option (List Nat)
 |.bl true=>aa Ag
 |.bl false=>aa Av
 |x=>xk x
@[simp] abbrev bI:PV->Option (List PV)
 |.af xs=>aa xs
 |.ai xs=>aa xs
 |.str cs=>aa (cs.map λc=>.str [c])
 |_=>aj
@[simp] abbrev Ew:PV->Option PV
 |.af xs=>aa (.int xs.length)
 |.ai xs=>aa (.int xs.length)
 |.str cs=>aa (.int cs.length)
 |_=>aj
@[simp] abbrev ny(f:List PV->Option PV):PV->Option PV
 |.ai xs=>f xs
 |_=>aj
@[simp] abbrev f1(f:PV->Option PV):List PV->Option PV
 |[x]=>f x
 |_=>aj
@[simp] abbrev f2(f:PV->PV->Option PV):List PV->Option PV
 |[x,y]=>f x y
 |_=>aj
@[simp] abbrev si(f:Int->Int->Int):PV->PV->Option PV
 |.int i,.int j=>aa (.int (f i j))
 |_,_=>aj
def jU(c:Nat):Bool:=decide (48<=c/\c<=57)
def Fs(cs:List Nat):Nat:=cs.foldl (λacc c=>acc*10+(c-48)) 0
def EJ(cs:List Nat):Option PV:=if cs≠[]/\cs.all jU=true/\cs.length<=640 then aa (.int (Fs cs:Nat))else aj
@[simp] abbrev Eu:PV->Option PV
 |.int i=>aa (.int i)
 |.bl b=>aa (.int (if b then 1 else 0))
 |.str cs=>EJ cs
 |_=>aj
@[simp] abbrev Od:PV->Option PV
 |.af xs=>aa (.af xs)
 |.ai xs=>aa (.af xs)
 |_=>aj
@[simp] abbrev χ:PV->Option PV
 |.af xs=>aa (.ai xs)
 |.ai xs=>aa (.ai xs)
 |_=>aj
abbrev Ez(i:Int):List Int->List Int
 |[]=>[i]
 |x::r=>if i<x then i::x::r else if x<i then x::Ez i r else x::r
abbrev EB(i:List Nat):List (List Nat)->List (List Nat)
 |[]=>[i]
 |x::r=>if zw i x then i::x::r else if zw x i then x::EB i r else x::r
def yD6(xs:List PV):Option PV:=match jo xs with
 |some l=>if l.length<4000/\(l.foldl (λd i=>Ez i d) []).length<64 then aa (.ai ((l.foldl (λd i=>Ez i d) []).map .int))else aj
 | none=>match eL xs with
  |some l=>if l.length<4000/\(l.foldl (λd i=>EB i d) []).length<64 then aa (.ai ((l.foldl (λd i=>EB i d) []).map .str))else aj
  |none=>aj
abbrev Ln(i:List Nat):List (List Nat)->List (List Nat)
 |[]=>[i]
 |x::r=>if zw i x then i::x::r else x::Ln i r
@[simp] abbrev j4:PV->Option (List PV)
 |.af xs=>aa xs
 |.ai xs=>aa xs
 |_=>aj
abbrev EA(i:List (List Nat)):List (List (List Nat))->List (List (List Nat))
 |[]=>[i]
 |x::r=>if i<x then i::x::r else x::EA i r
abbrev rowsOf:List PV->Option (List (List (List Nat)))
 |[]=>aa []
 | .af xs::r=>match eL xs with
  |some (y::ys)=>(rowsOf r).map ((y::ys) :: ·)
  |_=>aj
 |_=>aj
def Ml(r:List (List Nat)):PV:=.af (r.map .str)
def yU1(x:PV):Option PV:=match j4 x with
 | some xs=>match eL xs with
  |some l=>if l.length<64 then aa (.ai ((l.foldl (λd i=>Ln i d) []).map .str))else aj
  | none=>match rowsOf xs with
   |some l=>if l.length<64 then aa (.ai ((l.foldl (λd i=>EA i d) []).map Ml))else aj
   |none=>aj
 |none=>aj
def Wx(xs:List PV):Option PV:=match jo xs with
 |some (i::r)=>aa (.int (LF i r))
 |_=>aj
def v9(xs:List PV):Option PV:=match jo xs with
 |some (i::r)=>aa (.int (m_ i r))
 |_=>aj
@[simp] abbrev JP:PV->Option PV
 |.int i=>if i.natAbs.log2<1920 then aa (.str (fq i))else aj
 |.bl true=>aa (.str [84,114,117,101])
 |.bl false=>aa (.str [70,97,108,115,101])
 |_=>aj
abbrev iT:PV->Bool
 |.str _=>true
 |_=>false
@[simp] def xD9{s}:iT (.str s)=true:=rfl
abbrev nc:PV->Bool
 |.af xs=>xs.all iT
 |_=>false
@[simp] def xE9{xs}:nc (.af xs)=xs.all iT:=rfl
def fb(xs:List PV):List PV:=xs.foldl (λd x=>if x∈d then d else d++[x]) []
@[simp] abbrev rj:PV->Option PV
 |.af xs=>if xs.length<=75/\(xs.all iT=true\/xs.all nc=true)then aa (.int ((fb xs).length:Nat))else aj
 |_=>aj
@[simp] abbrev Ww:PV->Option PV
 |.int i=>aa (.int i.natAbs)
 |_=>aj
@[simp] def bfOp(f:Bf)(xs:List PV):Option PV:=match f with
 |.len=>f1 Ew xs
 |.mN t=>f1 (λv=>aa (.bl (EC t v))) xs
 |.all=>f1 (ny λl=>(j0 l).map .bl) xs
 |.Yy=>f1 (ny Wx) xs
 |.DM=>f1 (ny v9) xs
 |.min2=>f2 (si λi j=>if j<i then j else i) xs
 |.max2=>f2 (si λi j=>if i<j then j else i) xs
 |.sum=>f1 (ny λl=>(jo l).map λl=>.int l.sum) xs
 |.toInt=>f1 Eu xs
 |.toStr=>f1 JP xs
 |.repr=>f1 (λv=>(qQ v).map .str) xs
 |.tuple=>f1 Od xs
 |.list=>f1 χ xs
 |.Zr=>f1 (ny yD6) xs
 |.sL=>f1 rj xs
 |.Za=>f1 (ny λl=>aa (.ai l.reverse)) xs
 |.sorted=>f1 yU1 xs
 |.abs=>f1 Ww xs
 |_=>aj
def ZT(c:Nat):Nat:=if 97<=c/\c<=122 then c-32 else c
abbrev aZ(sep:List Nat):List (List Nat)->List Nat
 |[]=>[]
 |[x]=>x
 |x::r=>x++sep++aZ sep r
@[simp] abbrev NM:PV->List PV->Option PV
 |.str a,[.str b]=>aa (.int (ψ b a))
 |_,_=>aj
@[simp] abbrev xq5:PV->List PV->Option PV
 |.str a,[]=>if a.all (· < 128)then aa (.str (a.map ZT))else aj
 |_,_=>aj
@[simp] abbrev Aj:PV->List PV->Option PV
 | .str sep,[.ai xs]=>match eL xs with
  |some l=>if(l.map b7).sum+l.length*sep.length<=SZ then aa (.str (aZ sep l))else aj
  |none=>aj
 | .str sep,[.af xs]=>match eL xs with
  |some l=>if(l.map b7).sum+l.length*sep.length<=SZ then aa (.str (aZ sep l))else aj
  |none=>aj
 |_,_=>aj
abbrev c9(c:Nat):List Nat->List (List Nat)
 |[]=>[[]]
 | x::r=>if x=c then[]::c9 c r else match c9 c r with
  |p::ps=>(x::p)::ps
  |[]=>[[x]]
abbrev jW(c:Nat):List Nat->Option (List Nat×List Nat)
 |[]=>aj
 |x::r=>if x=c then aa ([],r)else(jW c r).map λp=>(x::p.1,p.2)
@[simp] abbrev Ay:PV->List PV->Option PV
 |.str a,[.str [c]]=>if a.length<SZ then aa (.ai ((c9 c a).map .str))else aj
 |_,_=>aj
@[simp] abbrev Ak:PV->List PV->Option PV
 | .str a,[.str [c]]=>match jW c a with
  |some p=>aa (.af [.str p.1,.str [c],.str p.2])
  |none=>aa (.af [.str a,.str [],.str []])
 |_,_=>aj
@[simp] abbrev Am:PV->List PV->Option PV
 |.str a,[.str b]=>aa (.bl (b.isPrefixOf a))
 |_,_=>aj
@[simp] abbrev Ai:PV->List PV->Option PV
 |.str a,[.str b]=>aa (.bl (b.isSuffixOf a))
 |_,_=>aj
abbrev Qi(x:PV):List PV->Option Nat
 |[]=>aj
 |y::r=>if aH y x then aa 0 else(Qi x r).map (· + 1)
def Oi(x:PV)(xs:List PV):Option PV:=if eM (bM x) (cC xs)then(Qi x xs).map λk=>.int (k:Int)else aj
@[simp] abbrev xq4:PV->List PV->Option PV
 |.ai xs,[x]=>Oi x xs
 |.af xs,[x]=>Oi x xs
 |_,_=>aj
@[simp] abbrev xq2:PV->List PV->Option PV
 |.ai xs,[x]=>if eM (bM x) (cC xs)then aa (.int ((xs.filter λy=>aH y x).length:Nat))else aj
 |.af xs,[x]=>if eM (bM x) (cC xs)then aa (.int ((xs.filter λy=>aH y x).length:Nat))else aj
 |_,_=>aj
@[simp] def YB(m:Mt)(o:PV)(xs:List PV):Option PV:=match m with
 |.find=>NM o xs
 |.upper=>xq5 o xs
 |.join=>Aj o xs
 |.index=>xq4 o xs
 |.count=>xq2 o xs
 |.split=>Ay o xs
 |.partition=>Ak o xs
 |.startswith=>Am o xs
 |.endswith=>Ai o xs
 |_=>aj
@[simp] abbrev iq:Tg->aJ->ay->Env->Option Env
 |.name i,v,_,env=>aa (env.set i (aa v))
 | .af is,v,st,env=>match view st v with
  |some (.af xs)=>if is.length=xs.length then aa ((is.zip xs).foldl (λe p=>e.set p.1 (aa (.p p.2))) env)else aj
  |_=>aj
abbrev iA(st:ay):Option (Nat×List PV)->Bool
 |none=>true
 |some (n,xs)=>decide (view st (.ref n)=aa (.ai xs))
@[simp] def nB(st:ay):iA st aj=true:=rfl
abbrev compLoop(fe:Env->ay->ax aJ)(fc:Option (Env->ay->ax aJ))(tgt:Tg)(cb:Option (Nat×List PV)):List PV->Env->ay->List PV->ax (List PV)
 |[],_,st,acc=>if iA st cb then .ok acc st else .stuck
 |x::r,env,st,acc=>
  if iA st cb then
   match iq tgt (.p x) st env with
   |none=>.stuck
   |some be=>(match fc with |none=>ax.ok (aJ.p (.bl true)) st |some f=>f be st).bindB λb aA=>
     if b then(fe be aA).cg λy aI=>compLoop fe fc tgt cb r be aI (acc++[y])
     else compLoop fe fc tgt cb r be aA acc
  else .stuck
abbrev kL(body:Env->ay->ax Flow)(tgt:Tg)(cb:Option (Nat×List PV)):List PV->Env->ay->ax Flow
 |[],env,st=>if iA st cb then .ok (.next env) st else .stuck
 |x::r,env,st=>
  if iA st cb then
   match iq tgt (.p x) st env with
   |none=>.stuck
   | some be=>(body be st).bind λf aA=>match f with
    |.next bz=>kL body tgt cb r bz aA
    |.ret v=>.ok (.ret v) aA
  else .stuck
abbrev nE(c:Env->ay->ax aJ)(body:Env->ay->ax Flow):Nat->Env->ay->ax Flow
 |0,_,_=>.stuck
 | k+1,env,st=>(c env st).bindB λb aA=>if b then(body env aA).bind λf aI=>match f with
   |.next bz=>nE c body k bz aI
   |.ret v=>.ok (.ret v) aI
  else .ok (.next env) aA
@[reducible] def a8:=Nat->List aJ->ay->ax aJ
@[simp] abbrev mk(mt:Bool)(xs:List PV)(st:ay):ax aJ:=if mt then .ok (.ref st.length) (st++[.ai xs])else .ok (.p (.ai xs)) st
@[simp] abbrev Oj(ks:List PV)(n:Nat)(xs:List PV)(st:ay):ax aJ:=match aW st n with
 |some (.bB [])=>.ok (.ref n) (st.set n (.bB ((ks.zip xs).foldl (λd p=>dC p.1 p.2 d) [])))
 |_=>.stuck
@[simp] def nJ(bc:List Nat)(n:Nat)(env:Env):Env:=bc.map (λi=>(env[i]?).join)++cG n aj
@[simp] abbrev EL:aJ->List PV->Option (Nat×List PV)
 |.ref n,xs=>aa (n,xs)
 |.p _,_=>aj
abbrev iU:List (List PV)->List PV
 |[a,b]=>(a.zip b).map λp=>.af [p.1,p.2]
 |[a,b,c]=>(a.zip (b.zip c)).map λp=>.af [p.1,p.2.1,p.2.2]
 |_=>[]
def q_(xs:List PV):List PV:=xs.zipIdx.map λp=>.af [.int p.2,p.1]
def nv(st:ay)(n:Nat):Option (List PV):=match aW st n with
 |some (.ai l)=>aa l
 |_=>aj
def ab1(st:ay)(n:Nat):Option (List (PV×PV)):=match aW st n with
 |some (.bB l)=>aa l
 |_=>aj
@[simp] abbrev iw(o:aJ)(st:ay)(f:List PV->Option (PV×List PV)):ax aJ:=match o with
 |.p _=>.stuck
 | .ref n=>match nv st n with
  | some l=>match f l with
   |some (x,l')=>.ok (.p x) (st.set n (.ai l'))
   |none=>.stuck
  |none=>.stuck
def jn(xs:List PV)(l:List PV):Option (PV×List PV):=match xs with
 |[x]=>if l.length<SZ then aa (.aL,l++[x])else aj
 |_=>aj
def Qf(xs:List PV)(l:List PV):Option (PV×List PV):=match xs with
 |[.ai ys]=>if l.length+ys.length<=SZ then aa (.aL,l++ys)else aj
 |[.af ys]=>if l.length+ys.length<=SZ then aa (.aL,l++ys)else aj
 |_=>aj
def wA(xs:List PV)(l:List PV):Option (PV×List PV):=match xs with
 |[]=>aa (.aL,l.reverse)
 |_=>aj
def xl7(xs:List PV)(_:List PV):Option (PV×List PV):=match xs with
 |[]=>aa (.aL,[])
 |_=>aj
def wK(xs:List PV)(l:List PV):Option (PV×List PV):=match xs with
 |[.int i,x]=>if 0<=i/\i<=(l.length:Int)/\l.length<SZ then aa (.aL,l.take i.toNat++x::l.drop i.toNat)else aj
 |_=>aj
def WE(xs:List PV)(l:List PV):Option (PV×List PV):=match xs with
 | []=>match l.getLast? with
  |some x=>aa (x,l.dropLast)
  |none=>aj
 |_=>aj
@[simp] abbrev jq(m:Mt)(o:aJ)(xs:List PV)(st:ay):ax aJ:=match m with
 |.append=>iw o st (jn xs)
 |.extend=>iw o st (Qf xs)
 |.reverse=>iw o st (wA xs)
 |.pop=>iw o st (WE xs)
 |.clear=>iw o st (xl7 xs)
 |.insert=>iw o st (wK xs)
 | m=>match view st o with
  |some v=>cQ (YB m v xs) st
  |none=>.stuck
@[simp] abbrev ixVal(o:aJ)(i:PV)(st:ay):ax aJ :=
 match o with
 |.p v=>cQ (lL v i) st
 | .ref n=>match aW st n with
  |some (.ai xs)=>cQ (lL (.ai xs) i) st
  |some (.bB av)=>cQ (eJ i av) st
  |_=>.stuck
@[simp] abbrev jV:PV->Bool
 |.int _=>true
 |.str _=>true
 |_=>false
@[simp] def zV(xs:List PV)(i v:PV):Option (List PV):=match i with
 |.int k=>(aO xs.length k).map λj=>xs.set j v
 |_=>aj
@[simp] abbrev Pz(o:aJ)(i v:PV)(st:ay):ax Unit :=
 match o with
 |.p _=>.stuck
 | .ref n=>match aW st n with
  | some (.ai xs)=>match zV xs i v with
   |some ys=>.ok () (st.set n (.ai ys))
   |none=>.stuck
  |some (.bB av)=>if av.length<1000000/\jV i=true then .ok () (st.set n (.bB (dC i v av)))else .stuck
  |_=>.stuck
@[simp] abbrev Qe(v:aJ)(st:ay):ax aJ :=
 match v with
 |.p x=>.ok (.p x) st
 | .ref n=>match aW st n with
  |some (.ai xs)=>.ok (.p (.ai xs)) (st.set n .dead)
  |_=>.stuck
@[simp] abbrev LJ(x y:PV)(st:ay):ax aJ:=match j4 x with
 | some ks=>match j4 y with
  |some vs=>if ks.all jV=true/\ks.length<=1000 then .ok (.ref st.length) (st++[.bB ((ks.zip vs).foldl (λd p=>dC p.1 p.2 d) [])])else .stuck
  |none=>.stuck
 |none=>.stuck
@[simp] abbrev NU(v:aJ)(st:ay):ax Unit:=match v with
 | .ref n=>match aW st n with
  |some (.bB _)=>.ok () st
  |_=>.stuck
 |.p _=>.stuck
@[simp] abbrev NB(o:aJ)(k x:PV)(st:ay):ax aJ:=match o with
 | .ref n=>match aW st n with
  |some (.bB av)=>if jV k=true then .ok (.p ((eJ k av).getD x)) st else .stuck
  |_=>.stuck
 |.p _=>.stuck
abbrev EG(fs:List (List Nat)):PV->Bool
 |.af (.str s::r)=>!(fs.contains s)&&r.all iT
 |_=>false
@[simp] def xF0{fs s r}:EG fs (.af (.str s::r))=(!(fs.contains s)&&r.all iT):=rfl
def z_(st:ay)(n:Nat):Option (List (PV×PV)):=match aW st n with
 |some (.dG l)=>aa l
 |_=>aj
@[simp] abbrev MR(o:aJ)(k:PV)(st:ay):ax aJ:=match o with
 |.p _=>.stuck
 | .ref n=>match z_ st n with
  |some av=>if nc k=true then cQ (eJ k av) st else .stuck
  |none=>.stuck
@[simp] abbrev MH(neg:Bool)(k:PV)(o:aJ)(st:ay):ax aJ:=match o with
 |.p _=>.stuck
 | .ref n=>match z_ st n with
  |some av=>if nc k=true then .ok (.p (.bl (neg.xor (eJ k av).isSome))) st else .stuck
  |none=>.stuck
@[simp] abbrev MS(fs:List (List Nat))(o:aJ)(k v:PV)(st:ay):ax Unit:=match o with
 |.p _=>.stuck
 | .ref n=>match z_ st n with
  |some av=>if av.length<1000000/\EG fs k=true then .ok () (st.set n (.dG (dC k v av)))else .stuck
  |none=>.stuck
abbrev EI:List PV->Option (List (PV×PV))
 |[]=>aa []
 |.af [a,b]::r=>(EI r).map ((a,b) :: ·)
 |_=>aj
@[simp] abbrev LH(fs:List (List Nat))(x:PV)(st:ay):ax aJ:=match x with
 | .af xs=>match EI xs with
  |some l=>if l.length<=1000/\(l.all λp=>EG fs p.1)=true then .ok (.ref st.length) (st++[.dG (l.foldl (λd p=>dC p.1 p.2 d) [])])else .stuck
  |none=>.stuck
 |_=>.stuck
@[simp] abbrev LG(x:PV)(st:ay):ax aJ:=match x with
 | .ai xs=>match EI xs with
  |some l=>if l.length<=1000/\(l.all λp=>jV p.1)=true then .ok (.ref st.length) (st++[.bB (l.foldl (λd p=>dC p.1 p.2 d) [])])else .stuck
  |none=>.stuck
 |_=>.stuck
@[simp] abbrev JL(neg:Bool)(k:PV)(o:aJ)(st:ay):ax aJ:=match o with
 |.p _=>.stuck
 | .ref n=>match aW st n with
  |some (.bB av)=>if jV k=true then .ok (.p (.bl (neg.xor (eJ k av).isSome))) st else .stuck
  |_=>.stuck
@[simp] abbrev Oh(l:List (List Nat×List Nat))(k:PV)(st:ay):ax aJ:=match k with
 | .str c=>(match l.lookup c with
  |some v=>.ok (.p (.str v)) st
  |none=>.stuck)
 |_=>.stuck
@[simp] abbrev NV(o:aJ)(st:ay):ax aJ:=match o with
 |.p _=>.stuck
 | .ref n=>match z_ st n with
  | some av=>(match rowsOf (av.map HX)with
   |some l=>if l.length<64/\(l.all λr=>r.all λc=>decide (c.length<=1000))=true then .ok (.p (.ai ((l.foldl (λd i=>EA i d) []).map Ml))) st else .stuck
   |none=>.stuck)
  |none=>.stuck
@[simp] abbrev Nf(x:PV)(st:ay):ax aJ:=match x with
 |.ai xs=>.ok (.ref st.length) (st++[.ai xs])
 |_=>.stuck
@[simp] abbrev NS:PV->Option PV
 |.af xs=>aa (.af xs.reverse)
 |_=>aj
abbrev kD(f:PV->Option PV)(v:aJ)(st:ay):ax aJ:=match view st v with
 |some x=>cQ (f x) st
 |none=>.stuck
@[simp] def xP4{f x st}:kD f (.p x) st=cQ (f x) st:=rfl
abbrev dR(f:PV->PV->Option PV)(v w:aJ)(st:ay):ax aJ:=match view st v with
 | some x=>match view st w with
  |some y=>cQ (f x y) st
  |none=>.stuck
 |none=>.stuck
@[simp] def xP5{f x y st}:dR f (.p x) (.p y) st=cQ (f x y) st:=rfl
abbrev bQ(st:ay):List aJ->Option (List PV)
 |[]=>aa []
 | v::r=>match view st v with
  | some x=>match bQ st r with
   |some xs=>aa (x::xs)
   |none=>aj
  |none=>aj
@[simp] def xB7{st}:bQ st []=aa []:=rfl
@[simp] def xT8{st x}:bQ st [.p x]=aa [x]:=rfl
@[simp] def xT9{st x y}:bQ st [.p x,.p y]=aa [x,y]:=rfl
abbrev cM(f:List PV->Option PV)(vs:List aJ)(st:ay):ax aJ:=match bQ st vs with
 |some xs=>cQ (f xs) st
 |none=>.stuck
@[simp] def ag0{f x st}:cM f [.p x] st=cQ (f [x]) st:=rfl
@[simp] def ag1{f x y st}:cM f [.p x,.p y] st=cQ (f [x,y]) st:=rfl
@[simp] abbrev Ni(op:ke)(x y:PV)(st:ay):ax aJ:=match x,y with
 |.int i,.int j=>cQ (iu op (.int i) (.int j)) st
 |_,_=>.stuck
@[simp] abbrev seen(v:aJ)(st:ay):ax Unit:=match view st v with
 |some _=>.ok () st
 |none=>.stuck
def Gs{v:aJ}{ao:ay}{u:Unit}(h:seen v st=.ok u ao):(∃x,view st v=aa x)/\ao=st:=by
 unfold seen at h;cases e:view st v with
 |none=>rw[e]at h;cases h
 |some x=>rw[e]at h;cases h;exact(⟨x,rfl⟩,rfl)
abbrev iR:List aJ->Option (List PV)
 |[]=>aa []
 | .p x::r=>match iR r with
  |some xs=>aa (x::xs)
  |none=>aj
 |.ref _::_=>aj
abbrev keeps:Mt->Bool
 |.append=>true
 |.insert=>true
 |_=>false
abbrev d8(m:Mt)(o:aJ)(vs:List aJ)(st:ay):ax aJ:=match(if keeps m then iR vs else bQ st vs)with
 |some xs=>jq m o xs st
 |none=>.stuck
@[simp] def yY6{m o st}:d8 m o [] st=jq m o [] st:=by unfold d8;cases m<;>rfl
@[simp] def xN5{m o x st}:d8 m o [.p x] st=jq m o [x] st:=by unfold d8;cases m<;>rfl
@[simp] def xN6{m o x y st}:d8 m o [.p x,.p y] st=jq m o [x,y] st:=by unfold d8;cases m<;>rfl
@[simp] abbrev jX(env:Env)(i:Nat)(st:ay):ax aJ:=match env[i]? with
 |some (aa v)=>.ok v st
 |_=>.stuck
@[simp] abbrev NN:PV->Option PV
 |.int i=>aa (.int (-i))
 |_=>aj
@[simp] abbrev walkOf(v:aJ)(st:ay):ax (List PV×Option (Nat×List PV)):=match view st v with
 | some x=>match bI x with
  |some xs=>.ok (xs,EL v xs) st
  |none=>.stuck
 |none=>.stuck
@[simp] abbrev Nd(x:PV)(st:ay):ax (List PV×Option (Nat×List PV)):=match x with
 |.int i=>if -1000000<=i/\i<=SZ then .ok ((cF i.toNat).map (λk:Nat=>PV.int (k:Int)),aj) st else .stuck
 |_=>.stuck
@[simp] abbrev walkZ(xs:List PV)(st:ay):ax (List PV×Option (Nat×List PV)):=match xs.mapM j4 with
 |some ls=>.ok (iU ls,aj) st
 |none=>.stuck
@[simp] abbrev OF(v:aJ)(y:PV)(st:ay):ax (List PV×Option (Nat×List PV)):=match view st v with
 | some x=>match j4 x with
  | some xs=>match j4 y with
   |some ys=>.ok (iU [xs,ys],EL v xs) st
   |none=>.stuck
  |none=>.stuck
 |none=>.stuck
@[simp] abbrev Nc(x:PV)(st:ay):ax (List PV×Option (Nat×List PV)):=match j4 x with
 |some xs=>.ok (q_ xs,aj) st
 |none=>.stuck
@[simp] abbrev MV(x:PV)(st:ay):ax (List PV×Option (Nat×List PV)):=match x with
 |.str cs=>.ok (q_ (cs.map λc=>.str [c]),aj) st
 |_=>.stuck
@[simp] abbrev ES(x:PV)(st:ay):ax (Option Int):=match x with
 |.int i=>.ok (aa i) st
 |_=>.stuck
mutual
noncomputable def az(C:a8):E->Env->ay->ax aJ
 |.var i,env,st=>jX env i st
 |.ag v,_,st=>.ok (.p v) st
 |.bin op a b,env,st=>(az C a env st).bind λx st=>(az C b env st).bind λy st=>dR (iu op) x y st
 |.neg a,env,st=>(az C a env st).fY λx st=>cQ (NN x) st
 |.not a,env,st=>(az C a env st).bindB λb st=>.ok (.p (.bl (!b))) st
 |.cmp op a b,env,st=>(az C a env st).bind λx st=>(az C b env st).bind λy st=>dR (dI op) x y st
 |.chain op cR a b c,env,st=>(az C a env st).bind λx st=>(az C b env st).bind λy st=>(dR (dI op) x y st).bindB λk st=>
   if k then(az C c env st).bind λz st=>dR (dI cR) y z st else .ok (.p (.bl false)) st
 |.and a b,env,st=>(az C a env st).bindB λk st=>if k then az C b env st else .ok (.p (.bl false)) st
 |.or a b,env,st=>(az C a env st).bindB λk st=>if k then .ok (.p (.bl true)) st else az C b env st
 |.ite c a b,env,st=>(az C c env st).bindB λk st=>if k then az C a env st else az C b env st
 |.af es,env,st=>(gX C es env st).bind λxs st=>.ok (.p (.af xs)) st
 |.list mt es,env,st=>(gX C es env st).bind λxs st=>mk mt xs st
 |.dict ks es,env,st=>(gX C es env (st++[.bB []])).bind (Oj ks st.length)
 |.ix a b,env,st=>(az C a env st).bind λo st=>(az C b env st).fY λi st=>ixVal o i st
 |.slice a lo hi,env,st=>(az C a env st).bind λx st=>(qf C lo env st).bind λl st=>(qf C hi env st).bind λh st=>kD (λx=>sliceOp x l h) x st
 |.call f es,env,st=>(fG C es env st).bind λvs st=>C f vs st
 |.blt f es,env,st=>(fG C es env st).bind λvs st=>cM (bfOp f) vs st
 |.cD m o es,env,st=>(az C o env st).bind λv st=>(seen v st).bind λ_ st=>(fG C es env st).bind λvs st=>d8 m v vs st
 |.comp mt bU tgt it cond bc n,env,st=>(iI C it env st).bind λp st=>
   (compLoop (az C bU) (match cond with |none=>aj |some c=>aa (az C c)) tgt p.2 p.1 (nJ bc n env) st []).bind λxs st=>mk mt xs st
 |.freeze e,env,st=>(az C e env st).bind Qe
 |.fK e,env,st=>(az C e env st).cg Nf
 |.rev e,env,st=>(az C e env st).bind λx st=>kD NS x st
 |.JJ a b,env,st=>(az C a env st).cg λx st=>(az C b env st).cg λy st=>LJ x y st
 |.JG o k d,env,st=>(az C o env st).bind λov st=>(NU ov st).bind λ_ st=>(az C k env st).cg λkx st=>(az C d env st).cg λx st=>NB ov kx x st
 |.JN,_,st=>.ok (.ref st.length) (st++[.dG []])
 |.ME o k,env,st=>(az C o env st).bind λov st=>(az C k env st).cg λkx st=>MR ov kx st
 |.MG neg k o,env,st=>(az C k env st).cg λkx st=>(az C o env st).bind λov st=>MH neg kx ov st
 |.JI fs e,env,st=>(az C e env st).cg λx st=>LH fs x st
 |.Mw e,env,st=>(az C e env st).bind NV
 |.JH e,env,st=>(az C e env st).cg λx st=>LG x st
 |.JK neg k o,env,st=>(az C k env st).cg λkx st=>(az C o env st).bind λov st=>JL neg kx ov st
 |.JS l e,env,st=>(az C e env st).cg λk st=>Oh l k st
/-- pure values,left to right -/
noncomputable def gX(C:a8):List E->Env->ay->ax (List PV)
 |[],_,st=>.ok [] st
 |e::r,env,st=>(az C e env st).cg λx st=>(gX C r env st).bind λxs st=>.ok (x::xs) st
/-- values as ag8 are -/
noncomputable def fG(C:a8):List E->Env->ay->ax (List aJ)
 |[],_,st=>.ok [] st
 |e::r,env,st=>(az C e env st).bind λx st=>(fG C r env st).bind λxs st=>.ok (x::xs) st
noncomputable def qf(C:a8):Option E->Env->ay->ax (Option Int)
 |none,_,st=>.ok aj st
 |some e,env,st=>(az C e env st).fY ES
/-- ZZ is walked,and the list MF ae2 mU as it is -/
noncomputable def iI(C:a8):It->Env->ay->ax (List PV×Option (Nat×List PV))
 |.of e,env,st=>(az C e env st).bind walkOf
 |.range e,env,st=>(az C e env st).fY Nd
 |.zip es,env,st=>(gX C es env st).bind walkZ
 |.R_ a b,env,st=>(az C a env st).bind λv st=>(az C b env st).cg λy st=>OF v y st
 |.enum e,env,st=>(az C e env st).cg Nc
 |.qe e,env,st=>(az C e env st).cg MV
end
@[simp] abbrev okN(o:Option Env)(st:ay):ax Flow:=match o with
 |some env=>.ok (.next env) st
 |none=>.stuck
mutual
noncomputable def f6(C:a8)(W:Nat):S->Env->ay->ax Flow
 |.expr e,env,st=>(az C e env st).bind λ_ st=>.ok (.next env) st
 |.ret e,env,st=>(az C e env st).bind λv st=>.ok (.ret v) st
 |.set i e,env,st=>(az C e env st).bind λv st=>.ok (.next (env.set i (aa v))) st
 |.Mp is e,env,st=>(az C e env st).bind λv st=>okN (iq (.af is) v st env) st
 |.mR o i v,env,st=>(az C v env st).cg λx st=>(az C o env st).bind λov st=>(az C i env st).fY λiv st=>(Pz ov iv x st).bind λ_ st=>.ok (.next env) st
 |.MK fs o k v,env,st=>(az C v env st).cg λx st=>(az C o env st).bind λov st=>(az C k env st).cg λkx st=>(MS fs ov kx x st).bind λ_ st=>.ok (.next env) st
 |.aug i op e,env,st=>(jX env i st).cg λx st=>(az C e env st).fY λy st=>(cQ (iu op x y) st).bind λv st=>.ok (.next (env.set i (aa v))) st
 |.mw i op e,env,st=>(jX env i st).cg λx st=>(az C e env st).fY λy st=>(Ni op x y st).bind λv st=>.ok (.next (env.set i (aa v))) st
 |.ite c a b,env,st=>(az C c env st).bindB λk st=>if k then b_ C W a env st else b_ C W b env st
 |.for tgt it body,env,st=>(iI C it env st).bind λp st=>kL (b_ C W body) tgt p.2 p.1 env st
 |.while c body,env,st=>nE (az C c) (b_ C W body) W env st
 |.pass,env,st=>.ok (.next env) st
noncomputable def b_(C:a8)(W:Nat):List S->Env->ay->ax Flow
 |[],env,st=>.ok (.next env) st
 | s::r,env,st=>(f6 C W s env st).bind λf st=>match f with
  |.next be=>b_ C W r be st
  |.ret v=>.ok (.ret v) st
end
structure FD where
 params:Nat
 slots:Nat
 body:List S
def ng(k:Nat)(v:aJ)(st:ay):ay:=match v with
 |.p _=>st.take k
 |.ref n=>if n<k then st.take k else st
abbrev a0(P:List FD)(W:Nat):Nat->a8
 |0=>λ_ _ _=>.stuck
 | d+1=>λf vs st=>match P[f]? with
  |none=>.stuck
  | some fd=>if vs.length=fd.params then
    (b_ (a0 P W d) W fd.body (vs.map aa++cG (fd.slots-fd.params) aj) st).bind λfl ao=>match fl with
     |.ret v=>.ok v (ng st.length v ao)
     |.next _=>.ok (.p .aL) (ao.take st.length)
   else .stuck
abbrev fV(C:a8)(bU:E)(cond:Option E)(tgt:Tg)(cb:Option (Nat×List PV))(xs:List PV)(env:Env)(st:ay)(acc:List PV):ax (List PV) :=
 compLoop (az C bU) (match cond with |none=>aj |some c=>aa (az C c)) tgt cb xs env st acc
abbrev lK(C:a8)(W:Nat)(body:List S)(tgt:Tg)(cb:Option (Nat×List PV))(xs:List PV)(env:Env)(st:ay):ax Flow:=kL (b_ C W body) tgt cb xs env st
abbrev ET(C:a8)(W:Nat)(c:E)(body:List S)(k:Nat)(env:Env)(st:ay):ax Flow:=nE (az C c) (b_ C W body) k env st
section
variable{C:a8}{W:Nat}{env:Env}{st:ay}
@[simp] def Ob{i}:az C (.var i) env st=jX env i st:=rfl
@[simp] def xo{v}:az C (.ag v) env st=.ok (.p v) st:=rfl
@[simp] def tL{op a b}:az C (.bin op a b) env st=(az C a env st).bind λx st=>(az C b env st).bind λy st=>dR (iu op) x y st:=rfl
@[simp] def xl0{a}:az C (.neg a) env st=(az C a env st).fY λx st=>cQ (NN x) st:=rfl
@[simp] def N_{a}:az C (.not a) env st=(az C a env st).bindB λb st=>.ok (.p (.bl (!b))) st:=rfl
@[simp] def N9{op a b}:az C (.cmp op a b) env st=(az C a env st).bind λx st=>(az C b env st).bind λy st=>dR (dI op) x y st:=rfl
@[simp] def yD3{op cR a b c}:az C (.chain op cR a b c) env st=(az C a env st).bind λx st=>(az C b env st).bind λy st=>(dR (dI op) x y st).bindB λk st =>
      if k then(az C c env st).bind λz st=>dR (dI cR) y z st else .ok (.p (.bl false)) st:=rfl
@[simp] def N8{a b}:az C (.and a b) env st=(az C a env st).bindB λk st=>if k then az C b env st else .ok (.p (.bl false)) st:=rfl
@[simp] def ND{a b}:az C (.or a b) env st=(az C a env st).bindB λk st=>if k then .ok (.p (.bl true)) st else az C b env st:=rfl
@[simp] def xk9{c a b}:az C (.ite c a b) env st=(az C c env st).bindB λk st=>if k then az C a env st else az C b env st:=rfl
@[simp] def Oa{es}:az C (.af es) env st=(gX C es env st).bind λxs st=>.ok (.p (.af xs)) st:=rfl
@[simp] def Qa{mt es}:az C (.list mt es) env st=(gX C es env st).bind λxs st=>mk mt xs st:=rfl
@[simp] def P_{ks es}:az C (.dict ks es) env st=(gX C es env (st++[.bB []])).bind (Oj ks st.length):=rfl
@[simp] def υ{a b}:az C (.ix a b) env st=(az C a env st).bind λo st=>(az C b env st).fY λi st=>ixVal o i st:=rfl
@[simp] def O1{a lo hi}:az C (.slice a lo hi) env st=(az C a env st).bind λx st=>(qf C lo env st).bind λl st=>(qf C hi env st).bind λh st=>kD (λx=>sliceOp x l h) x st:=rfl
@[simp] def P8{f es}:az C (.call f es) env st=(fG C es env st).bind λvs st=>C f vs st:=rfl
@[simp] def Ap{f es}:az C (.blt f es) env st=(fG C es env st).bind λvs st=>cM (bfOp f) vs st:=rfl
@[simp] def GK{m o es}:az C (.cD m o es) env st=(az C o env st).bind λv st=>(seen v st).bind λ_ st=>(fG C es env st).bind λvs st=>d8 m v vs st:=rfl
@[simp] def P9{mt bU tgt it cond bc n}:az C (.comp mt bU tgt it cond bc n) env st=(iI C it env st).bind λp st=>(fV C bU cond tgt p.2 p.1 (nJ bc n env) st []).bind λxs st=>mk mt xs st:=by cases cond<;>rfl
@[simp] def yr0{e}:az C (.freeze e) env st=(az C e env st).bind Qe:=rfl
@[simp] def Qb{e}:az C (.fK e) env st=(az C e env st).cg Nf:=rfl
@[simp] def ab7{e}:az C (.rev e) env st=(az C e env st).bind λx st=>kD NS x st:=rfl
@[simp] def xD2{a b}:az C (.JJ a b) env st=(az C a env st).cg λx st=>(az C b env st).cg λy st=>LJ x y st:=rfl
@[simp] def xJ3{o k d}:az C (.JG o k d) env st=(az C o env st).bind λov st=>(NU ov st).bind λ_ st=>(az C k env st).cg λkx st=>(az C d env st).cg λx st=>NB ov kx x st:=rfl
@[simp] def xD3:az C .JN env st=.ok (.ref st.length) (st++[.dG []]):=rfl
@[simp] def xJ5{o k}:az C (.ME o k) env st=(az C o env st).bind λov st=>(az C k env st).cg λkx st=>MR ov kx st:=rfl
@[simp] def ab8{neg k o}:az C (.MG neg k o) env st=(az C k env st).cg λkx st=>(az C o env st).bind λov st=>MH neg kx ov st:=rfl
@[simp] def xD1{fs e}:az C (.JI fs e) env st=(az C e env st).cg λx st=>LH fs x st:=rfl
@[simp] def xD4{l e}:az C (.JS l e) env st=(az C e env st).cg λk st=>Oh l k st:=rfl
@[simp] def xD5{e}:az C (.Mw e) env st=(az C e env st).bind NV:=rfl
@[simp] def xD0{e}:az C (.JH e) env st=(az C e env st).cg λx st=>LG x st:=rfl
@[simp] def ab6{neg k o}:az C (.JK neg k o) env st=(az C k env st).cg λkx st=>(az C o env st).bind λov st=>JL neg kx ov st:=rfl
@[simp] def xn:gX C [] env st=.ok [] st:=rfl
@[simp] def Bd{e r}:gX C (e::r) env st=(az C e env st).cg λx st=>(gX C r env st).bind λxs st=>.ok (x::xs) st:=rfl
@[simp] def rf:fG C [] env st=.ok [] st:=rfl
@[simp] def tU{e r}:fG C (e::r) env st=(az C e env st).bind λx st=>(fG C r env st).bind λxs st=>.ok (x::xs) st:=rfl
@[simp] def OZ:qf C aj env st=.ok aj st:=rfl
@[simp] def O0{e}:qf C (aa e) env st=(az C e env st).fY ES:=rfl
@[simp] def yT7{e}:iI C (.of e) env st=(az C e env st).bind walkOf:=rfl
@[simp] def yj9{e}:iI C (.range e) env st=(az C e env st).fY Nd:=rfl
@[simp] def yD2{es}:iI C (.zip es) env st=(gX C es env st).bind walkZ:=rfl
@[simp] def xk8{a b}:iI C (.R_ a b) env st=(az C a env st).bind λv st=>(az C b env st).cg λy st=>OF v y st:=rfl
@[simp] def xk7{e}:iI C (.enum e) env st=(az C e env st).cg Nc:=rfl
@[simp] def yj8{e}:iI C (.qe e) env st=(az C e env st).cg MV:=rfl
@[simp] def yT9{e}:f6 C W (.expr e) env st=(az C e env st).bind λ_ st=>.ok (.next env) st:=rfl
@[simp] def Fq{e}:f6 C W (.ret e) env st=(az C e env st).bind λv st=>.ok (.ret v) st:=rfl
@[simp] def Oc{i e}:f6 C W (.set i e) env st=(az C e env st).bind λv st=>.ok (.next (env.set i (aa v))) st:=rfl
@[simp] def xJ7{is e}:f6 C W (.Mp is e) env st=(az C e env st).bind λv st=>okN (iq (.af is) v st env) st:=rfl
@[simp] def yD4{o i v}:f6 C W (.mR o i v) env st=(az C v env st).cg λx st=>(az C o env st).bind λov st=>(az C i env st).fY λiv st=>(Pz ov iv x st).bind λ_ st=>.ok (.next env) st:=rfl
@[simp] def xJ8{fs o k v}:f6 C W (.MK fs o k v) env st=(az C v env st).cg λx st=>(az C o env st).bind λov st=>(az C k env st).cg λkx st=>(MS fs ov kx x st).bind λ_ st=>.ok (.next env) st:=rfl
@[simp] def ab9{i op e}:f6 C W (.aug i op e) env st=(jX env i st).cg λx st=>(az C e env st).fY λy st=>(cQ (iu op x y) st).bind λv st=>.ok (.next (env.set i (aa v))) st:=rfl
@[simp] def yT8{i op e}:f6 C W (.mw i op e) env st=(jX env i st).cg λx st=>(az C e env st).fY λy st=>(Ni op x y st).bind λv st=>.ok (.next (env.set i (aa v))) st:=rfl
@[simp] def Aq{c a b}:f6 C W (.ite c a b) env st=(az C c env st).bindB λk st=>if k then b_ C W a env st else b_ C W b env st:=rfl
@[simp] def xl2{tgt it body}:f6 C W (.for tgt it body) env st=(iI C it env st).bind λp st=>lK C W body tgt p.2 p.1 env st:=rfl
@[simp] def yD5{c body}:f6 C W (.while c body) env st=ET C W c body W env st:=rfl
@[simp] def xJ6:f6 C W .pass env st=.ok (.next env) st:=rfl
@[simp] def exs_nil:b_ C W [] env st=.ok (.next env) st:=rfl
abbrev qJ(C:a8)(W:Nat)(r:List S)(f:Flow)(st:ay):ax Flow:=match f with
 |.next be=>b_ C W r be st
 |.ret v=>.ok (.ret v) st
@[simp] def thenS_next{r be}:qJ C W r (.next be) st=b_ C W r be st:=rfl
@[simp] def yz7{r v}:qJ C W r (.ret v) st=.ok (.ret v) st:=rfl
@[simp] def exs_cons{s r}:b_ C W (s::r) env st=(f6 C W s env st).bind (qJ C W r):=rfl
def Bc{bU cond tgt acc}:fV C bU cond tgt aj [] env st acc=.ok acc st:=by unfold fV;rw[compLoop];simp
def O4{body tgt}:lK C W body tgt aj [] env st=.ok (.next env) st:=by unfold lK;rw[kL];simp
abbrev Ac(k:Nat)(fl:Flow)(ao:ay):ax aJ:=match fl with
 |.ret v=>.ok v (ng k v ao)
 |.next _=>.ok (.p .aL) (ao.take k)
@[simp] def FZ{k v ao}:Ac k (.ret v) ao=.ok v (ng k v ao):=rfl
@[simp] def xg1{k env ao}:Ac k (.next env) ao=.ok (.p .aL) (ao.take k):=rfl
def aS{P:List FD}{d f:Nat}{vs:List aJ}{fd:FD}(h:P[f]?=aa fd)(hl:vs.length=fd.params):
  a0 P W (d+1) f vs st=(b_ (a0 P W d) W fd.body (vs.map aa++cG (fd.slots-fd.params) aj) st).bind (Ac st.length):=by
 simp only[a0,h,hl,if_true];rfl
@[simp] def OA{k v}:ng k (.p v) st=st.take k:=rfl
@[simp] def xE8:xM (b7 st) st=st:=BA
end
def Bb{C:a8}{e:E}{tgt:Tg}{f:PV->PV}{st:ay}:∀(xs:List PV)(env:Env)(acc:List PV)(I:Env->Prop),
  I env->(∀x∈xs,∀env,I env->∃be,iq tgt (.p x) st env=aa be/\I be/\az C e be st=.ok (.p (f x)) st) ->
  fV C e aj tgt aj xs env st acc=.ok (acc++xs.map f) st
 |[],env,acc,_,_,_=>by simp[Bc]
 | x::r,env,acc,I,hI,h=>by
  let(be,h1,u4,h2):=h x (by simp) env hI;let ih:=Bb r be (acc++[f x]) I u4 λy hy=>h y (b5 _ hy);unfold fV at ih ⊢;rw[compLoop];simp only[nB,if_true,h1,ax.qa,h2,ax.sd];rw[ih];simp
def o_{O:Type}(p:O->Bool):∀xs:List O,j0 (xs.map λx=>PV.bl (p x))=aa (xs.all p)
 |[]=>rfl
 | x::r=>by
  rw[bJ,j0,o_ p r,ff];rfl
def O8{O:Type}(f:O->Int):∀xs:List O,jo (xs.map λx=>PV.int (f x))=aa (xs.map f)
 |[]=>rfl
 |x::r=>by rw[bJ,jo,O8 f r];rfl
def FW(c:Nat):∀xs:List Nat,kM [c] xs=decide (c∈xs)
 |[]=>by simp[kM]
 | x::r=>by
  rw[kM,FW c r];simp only[List.isPrefixOf,uh,bN];by_cases h:c=x<;>simp[h]
def PD:xM (b7 st) (st.set n o)=st.set n o:=by
 rw[kU (by simp)]
abbrev aK{O:Type}:ax O->(O->ay->Prop)->Prop
 |.ok a st,Q=>Q a st
 |.mB _ _ _,_=>False
 |.stuck,_=>False
variable{x:PV}
section
variable{O β:Type}
def nI{r:ax O}{Q:O->ay->Prop}:aK r Q↔∃a st,r=.ok a st/\Q a st:=by
 cases r with
 |ok a st=>exact(λh=>⟨a,st,rfl,h⟩,λ⟨_,_,e,h⟩=>by cases e;exact h)
 |mB _ _ _=>exact(ju,λ⟨_,_,e,_⟩=>(by cases e))
 |stuck=>exact(ju,λ⟨_,_,e,_⟩=>(by cases e))
@[simp] def sat_ok{a:O}{Q:O->ay->Prop}:aK (.ok a st) Q=Q a st:=rfl
@[simp] def aR{r:ax O}{f:O->ay->ax β}{Q:β->ay->Prop}:aK (r.bind f) Q=aK r λa st=>aK (f a st) Q:=by
 cases r<;>rfl
def aK.mono{r:ax O}{Q Q':O->ay->Prop}(h:aK r Q)(g:∀a st,Q a st->Q' a st):aK r Q':=by
 cases r with
 |ok a st=>exact g a st h
 |mB _ _ _=>exact h
 |stuck=>exact h
def xw1{r:ax O}{a:O}{Q:O->ay->Prop}(h:r=.ok a st)(q:Q a st):aK r Q:=by rw[h];exact q
abbrev Jj(v:aJ)(f:Bool->ay->ax β)(st:ay):ax β:=match v with
 |.p (.bl b)=>f b st
 |_=>.stuck
abbrev Jk(v:aJ)(f:PV->ay->ax β)(st:ay):ax β:=match v with
 |.p x=>f x st
 |_=>.stuck
abbrev Ck(v:aJ)(f:PV->ay->ax β)(st:ay):ax β:=match view st v with
 |some x=>f x st
 |none=>.stuck
@[simp] def aa6{b:Bool}{f:Bool->ay->ax β}:Jj (.p (.bl b)) f st=f b st:=rfl
@[simp] def aa7{f:PV->ay->ax β}:Jk (.p x) f st=f x st:=rfl
@[simp] def aa8{f:PV->ay->ax β}:Ck (.p x) f st=f x st:=rfl
@[simp] def xG1{f:PV->ay->ax β}:Ck (.ref n) f st=match view st (.ref n)with |some x=>f x st |none=>.stuck:=rfl
@[simp] def xv8{r:ax aJ}{f:Bool->ay->ax β}{Q:β->ay->Prop}:aK (r.bindB f) Q=aK r λv st=>aK (Jj v f st) Q:=by cases r<;>rfl
@[simp] def xv9{r:ax aJ}{f:PV->ay->ax β}{Q:β->ay->Prop}:aK (r.cg f) Q=aK r λv st=>aK (Jk v f st) Q:=by cases r<;>rfl
@[simp] def xw0{r:ax aJ}{f:PV->ay->ax β}{Q:β->ay->Prop}:aK (r.fY f) Q=aK r λv st=>aK (Ck v f st) Q:=by cases r<;>rfl
@[simp] def xR4{c:Prop}[Decidable c]{a b:ax O}{Q:O->ay->Prop}:aK (if c then a else b) Q↔(if c then aK a Q else aK b Q):=by split<;>rfl
@[simp] def xR5{o:Option PV}{Q:aJ->ay->Prop}:aK (cQ o st) Q↔∃x,o=aa x/\Q (.p x) st:=by
 cases o with
 |none=>exact(ju,λ⟨_,e,_⟩=>(by cases e))
 |some x=>exact(λh=>⟨x,rfl,h⟩,λ⟨_,e,q⟩=>(by cases e;exact q))
end
def t8{C:a8}{e:E}{cond:Option E}{tgt:Tg}(J:List PV->Env->ay->List PV->Prop):
  ∀(xs:List PV)(env:Env)(st:ay)(acc:List PV),J xs env st acc ->
  (∀x r env st acc,J (x::r) env st acc->∃be,iq tgt (.p x) st env=aa be /\
   aK (match cond with |none=>ax.ok (aJ.p (.bl true)) st |some c=>az C c be st) (λv aA=>∃b,v=.p (.bl b) /\
    if b=true then aK (az C e be aA) (λv aI=>∃y,v=.p y/\J r be aI (acc++[y]))else J r be aA acc)) ->
  aK (fV C e cond tgt aj xs env st acc) (λys ao=>∃be,J [] be ao ys)
 |[],env,st,acc,h,_=>by rw[Bc];exact(env,h)
 | x::r,env,st,acc,h,step=>by
  let(be,h1,hs):=step x r env st acc h;let(v,aA,h2,b,rfl,h3):=nI.mp hs;cases b with
  |true=>
   rw[if_pos rfl]at h3;let(_,aI,h4,y,rfl,h5):=nI.mp h3;let ih:=t8 (C:=C) (e:=e) (cond:=cond) (tgt:=tgt) J r be aI (acc++[y]) h5 step;unfold fV at ih ⊢;rw[compLoop];cases cond with
   |none=>cases h2;simpa only[nB,if_true,h1,ax.qa,h4,ax.sd]using ih
   |some c=>simpa only[nB,if_true,h1,h2,ax.qa,h4,ax.sd]using ih
  |false=>
   rw[if_neg (by simp)]at h3;let ih:=t8 (C:=C) (e:=e) (cond:=cond) (tgt:=tgt) J r be aA acc h3 step;unfold fV at ih ⊢;rw[compLoop];cases cond with
   |none=>cases h2
   |some c=>simpa only[nB,if_true,h1,h2,ax.qa,eN,if_false]using ih
def rn{C:a8}{W:Nat}{body:List S}{tgt:Tg}(J:List PV->Env->ay->Prop):∀(xs:List PV)(env:Env)(st:ay),
  J xs env st ->
  (∀x r env st,J (x::r) env st->∃be,iq tgt (.p x) st env=aa be/\aK (b_ C W body be st) (λf aI=>∃bz,f=.next bz/\J r bz aI)) ->
  aK (lK C W body tgt aj xs env st) (λf ao=>∃be,f=.next be/\J [] be ao)
 |[],env,st,h,_=>by rw[O4];exact(env,rfl,h)
 | x::r,env,st,h,step=>by
  let(be,h1,hs):=step x r env st h;let(_,aI,h2,bz,rfl,h3):=nI.mp hs;let ih:=rn (C:=C) (W:=W) (body:=body) (tgt:=tgt) J r bz aI h3 step;unfold lK at ih ⊢;rw[kL];simpa only[nB,if_true,h1,h2,ax.lb]using ih
def bC(h:n<=16777216):n<=SZ:=by unfold SZ;exact h
def iW(h:n<16777216):n<SZ:=by unfold SZ;exact h
def nK{n:Int}(h:n<=16777216):n<=(SZ:Int):=by unfold SZ;exact h
def tq(f:O->β)(xs:List O)(lo hi:Option Int):cut (xs.map f) lo hi=(cut xs lo hi).map f:=by
 unfold cut;simp
def xj(xs:List O)(r:Int)(h:0<=r):cut xs (aa r) aj=xs.drop r.toNat:=by
 simp only[cut,bo,if_pos h];rw[kU (by simp)];by_cases hr:r.toNat<=xs.length
 .rw[xS hr]
 .rw[HM (by omega),rF (by simp),rF (by omega)]
def qL(xs:List O)(r:Int)(h:0<=r):cut xs aj (aa r)=xs.take r.toNat:=by
 simp only[cut,bo,if_pos h,pF,HR];by_cases hr:r.toNat<=xs.length
 .rw[xS hr]
 .rw[HM (by omega),kU (by simp),kU (by omega)]
def uX(xs:List O)(a b:Int)(h:0<=a)(hb:0<=b)(hx:b<=xs.length):cut xs (aa a) (aa b)=(xs.drop a.toNat).take (b.toNat-a.toNat):=by
 simp only[cut,bo,if_pos h,if_pos hb];rw[xS (a:=b.toNat) (by omega)];by_cases hr:a.toNat<=xs.length
 .rw[xS hr]
 .rw[HM (by omega),rF (by simp),rF (by omega)];simp
variable{C:a8}{W:Nat}{env:Env}
def yk0{a b:List S}:b_ C W (a++b) env st=(b_ C W a env st).bind (qJ C W b):=by
 induction a generalizing env st with
 |nil=>simp
 |cons s r ih=>
  simp only[fD,exs_cons];cases f6 C W s env st with
  | ok f ao=>cases f with
   |next be=>simp only[ax.lb,thenS_next,ih]
   |ret v=>rfl
  |mB c as ao=>rfl
  |stuck=>rfl
def oZ(xs:List O)(i:Int)(h0:0<=i)(h1:i<xs.length):∃x,xs[i.toNat]?=aa x/\x∈xs/\aO xs.length i=aa i.toNat :=
 ⟨xs[i.toNat],bY (by omega),rH _,by unfold aO;rw[if_pos h0,if_pos h1]⟩
def uf(xs:List O)(r:Nat):(xs.drop r++xs.take r).Perm xs:=by
 let:=List.perm_append_comm (l₁:=xs.drop r) (l₂:=xs.take r)
 rwa [HH]at this
def fm{O:Type}{C:a8}{e:E}{tgt:Tg}(g f:O->PV){st:ay}(I:Env->Prop):∀(xs:List O)(env:Env)(acc:List PV),
  I env->(∀x∈xs,∀env,I env->∃be,iq tgt (.p (g x)) st env=aa be/\I be/\az C e be st=.ok (.p (f x)) st) ->
  fV C e aj tgt aj (xs.map g) env st acc=.ok (acc++xs.map f) st
 |[],env,acc,_,_=>by simp[Bc]
 | x::r,env,acc,hI,h=>by
  let(be,h1,u4,h2):=h x (by simp) env hI;let ih:=fm (C:=C) (e:=e) (tgt:=tgt) g f I r be (acc++[f x]) u4 λy hy=>h y (b5 _ hy);unfold fV at ih ⊢;rw[bJ,compLoop];simp only[nB,if_true,h1,ax.qa,h2,ax.sd];rw[ih];simp
def qT{O:Type}{C:a8}{e c:E}{tgt:Tg}(g:O->PV)(p:O->Bool)(f:O->PV){st:ay}(I:Env->Prop):∀(xs:List O)(env:Env)(acc:List PV),
  I env->(∀x∈xs,∀env,I env->∃be,iq tgt (.p (g x)) st env=aa be/\I be/\az C c be st=.ok (.p (.bl (p x))) st/\(p x=true->az C e be st=.ok (.p (f x)) st)) ->
  fV C e (aa c) tgt aj (xs.map g) env st acc=.ok (acc++(xs.filter p).map f) st
 |[],env,acc,_,_=>by simp[Bc]
 | x::r,env,acc,hI,h=>by
  let(be,h1,u4,h2,h3):=h x (by simp) env hI;let ih:=λacc=>qT (C:=C) (e:=e) (c:=c) (tgt:=tgt) g p f I r be acc u4 λy hy=>h y (b5 _ hy);unfold fV at ih ⊢;rw[bJ,compLoop];simp only[nB,if_true,h1,h2,ax.qa];cases hp:p x with
  |true=>simp only[if_true,h3 hp,ax.sd];rw[ih];simp[hp]
  |false=>simp only[eN,if_false];rw[ih];simp[hp]
def R9{C:a8}{W:Nat}{c:E}{body:List S}(J:Nat->Env->ay->Prop)(Q:Env->ay->Prop)(h0:∀env st,¬J 0 env st)
  (step:∀k env st,J (k+1) env st->aK (az C c env st) (λv aA=>∃b,v=.p (.bl b)/\if b=true then aK (b_ C W body env aA) (λf aI=>∃bz,f=.next bz/\J k bz aI)else Q env aA)) :
  ∀(k:Nat)(env:Env)(st:ay),J k env st->aK (ET C W c body k env st) (λf ao=>∃be,f=.next be/\Q be ao)
 |0,env,st,h=>absurd h (h0 env st)
 | k+1,env,st,h=>by
  let(v,aA,e1,b,rfl,h1):=nI.mp (step k env st h);unfold ET;rw[nE,e1,ax.qa];cases b with
  |false=>
   rw[if_neg (by simp)]at h1 ⊢;exact(_,rfl,h1)
  |true=>
   rw[if_pos rfl]at h1 ⊢;let(f,aI,e2,bz,rfl,h2):=nI.mp h1;rw[e2,ax.lb];exact R9 J Q h0 step k bz aI h2
def br{r:ax O}{x:O}(h:aK r λa s=>a=x/\s=st):r=.ok x st:=by
 let(a,s,e,rfl,rfl):=nI.mp h;exact e
variable{xs:List PV}
def eX{k:Nat}(h:aW st k=aa (.ai xs)):view st (.ref k)=aa (.ai xs):=by
 simp only[view,h]
def qW{k:Nat}(h:aW st k=aa (.ai xs)):nv st k=aa xs:=by
 simp only[nv,h]
def qX{S:ay}(h:n=S.length):aW (S++[o]) n=aa o:=by rw[h];exact jj
def aK.k0{r:ax O}{Q:O->ay->Prop}{F:β->O}{P:β->Prop}{R:ay->Prop}(h:aK r λv st=>(∃x,v=F x/\P x)/\R st)(k:∀x st,P x->R st->Q (F x) st):aK r Q:=by
 refine h.mono ?_;rintro _ st ⟨⟨x,rfl,p⟩,q⟩;exact k x st p q
def aK.k1{r:ax O}{Q:O->ay->Prop}{F:β->O}{P P':β->Prop}{R:ay->Prop}(h:aK r λv st=>(∃x,v=F x/\P x/\P' x)/\R st)(k:∀x st,P x->P' x->R st->Q (F x) st):aK r Q:=by
 refine h.mono ?_;rintro _ st ⟨⟨x,rfl,p,p'⟩,q⟩;exact k x st p p' q
variable{r:List S}{Q:Flow->ay->Prop}
def ar{s:S}(h:aK (f6 C W s env st) λa st=>aK (qJ C W r a st) Q):aK (b_ C W (s::r) env st) Q:=by
 rw[exs_cons,aR];exact h
def cu{i j:Nat}(h1:env[j]?=aa (aa (.p (.af (x::xs)))))
  (h:aK (b_ C W r (env.set i (aa (.p x))) st) Q):aK (b_ C W (.set i (.ix (.var j) (.ag (.int 0)))::r) env st) Q:=by
 rw[exs_cons,aR];let h0:(0:Int)<(xs.length:Int)+1:=by omega
 simp[-exs_cons,-thenS_next,h1,aO,h0];simp only[thenS_next];exact h
@[simp high] def xg5{v:aJ}:jX (aa v::env) 0 st=.ok v st:=rfl
@[simp high] def xg4{a:Option aJ}{i:Nat}:jX (a::env) (i+1) st=jX env i st:=rfl
@[simp] def xL8{v i:PV}:ixVal (.p v) i st=cQ (lL v i) st:=rfl
@[simp] def xn3{i:PV}:ixVal (.ref n) i st=match aW st n with |some (.ai xs)=>cQ (lL (.ai xs) i) st |some (.bB av)=>cQ (eJ i av) st |_=>.stuck:=rfl
@[simp] def xF2:walkOf (.p (.af xs)) st=.ok (xs,aj) st:=rfl
@[simp] def xF1:walkOf (.p (.ai xs)) st=.ok (xs,aj) st:=rfl
@[simp] def xg6:walkOf (.ref n) st=match view st (.ref n)with |some x=>(match bI x with |some xs=>.ok (xs,EL (.ref n) xs) st |none=>.stuck)|none=>.stuck:=rfl
@[simp high] def af0:cM (bfOp .len) [.p (.af xs)] st=.ok (.p (.int xs.length)) st:=rfl
@[simp high] def ae9:cM (bfOp .len) [.p (.ai xs)] st=.ok (.p (.int xs.length)) st:=rfl
@[simp high] def af3:cM (bfOp .tuple) [.p (.ai xs)] st=.ok (.p (.af xs)) st:=rfl
@[simp high] def af1:cM (bfOp .list) [.p (.af xs)] st=.ok (.p (.ai xs)) st:=rfl
@[simp 20000] def ad1:ixVal (.p (.af [x])) (.int 0) st=.ok (.p x) st:=rfl
variable{y:PV}
@[simp 20000] def ad2:ixVal (.p (.af [x,y])) (.int 0) st=.ok (.p x) st:=rfl
@[simp 20000] def ad3:ixVal (.p (.af [x,y])) (.int 1) st=.ok (.p y) st:=rfl
variable{z:PV}
@[simp 20000] def ad4:ixVal (.p (.af [x,y,z])) (.int 0) st=.ok (.p x) st:=rfl
@[simp 20000] def ad5:ixVal (.p (.af [x,y,z])) (.int 1) st=.ok (.p y) st:=rfl
@[simp 20000] def ad6:ixVal (.p (.af [x,y,z])) (.int 2) st=.ok (.p z) st:=rfl
@[simp high] def ab5{a b:List Nat}:dR (dI .eq) (.p (.str a)) (.p (.str b)) st=.ok (.p (.bl (decide (a=b)))) st:=rfl
@[simp high] def ae4{a b:Bool}:dR (dI .ne) (.p (.bl a)) (.p (.bl b)) st=.ok (.p (.bl (a != b))) st:=rfl
@[simp high] def ab3{a b:Bool}:dR (dI .eq) (.p (.bl a)) (.p (.bl b)) st=.ok (.p (.bl (a==b))) st:=rfl
@[simp high] def ae6{a b:List Nat}:dR (dI .ne) (.p (.str a)) (.p (.str b)) st=.ok (.p (.bl (!decide (a=b)))) st:=rfl
variable{b a:Int}
@[simp high] def ae5:dR (dI .ne) (.p (.int a)) (.p (.int b)) st=.ok (.p (.bl (!decide (a=b)))) st:=rfl
@[simp high] def ae0:dR (dI .lt) (.p (.int a)) (.p (.int b)) st=.ok (.p (.bl (decide (a<b)))) st:=rfl
@[simp high] def ac4:dR (dI .gt) (.p (.int a)) (.p (.int b)) st=.ok (.p (.bl (decide (b<a)))) st:=rfl
@[simp high] def ac2:dR (dI .ge) (.p (.int a)) (.p (.int b)) st=.ok (.p (.bl (decide (b<=a)))) st:=rfl
@[simp high] def ab4:dR (dI .eq) (.p (.int a)) (.p (.int b)) st=.ok (.p (.bl (decide (a=b)))) st:=rfl
@[simp high] def aa5:dR (iu .add) (.p (.int a)) (.p (.int b)) st=.ok (.p (.int (a+b))) st:=rfl
@[simp high] def ag6:dR (iu .sub) (.p (.int a)) (.p (.int b)) st=.ok (.p (.int (a-b))) st:=rfl
variable{c:E}
def aM{b:List S}(h1:az C c env st=.ok (.p (.bl false)) st)
  (h:aK (b_ C W r env st) Q):aK (b_ C W (.ite c b []::r) env st) Q:=by
 rw[exs_cons,aR,Aq,h1];exact h
def bH{b b2:List S}(h1:az C c env st=.ok (.p (.bl true)) st)
  (h:aK (b_ C W b env st) λf aA=>aK (qJ C W r f aA) Q):aK (b_ C W (.ite c b b2::r) env st) Q:=by
 rw[exs_cons,aR,Aq,h1];exact h
def AI{e:E}(h:aK (az C e env st) λv ao=>Q (.ret v) ao):aK (b_ C W (.ret e::r) env st) Q:=by
 rw[exs_cons,aR,Fq,aR];exact h
@[simp high] def xC8{mt:Bool}{bU:E}{tgt:Tg}{it:It}{bc:List Nat}:az C (.comp mt bU tgt it aj bc n) env st=(iI C it env st).bind λp st=>(fV C bU aj tgt p.2 p.1 (nJ bc n env) st []).bind λxs st=>mk mt xs st:=rfl
@[simp high] def xC9{mt:Bool}{bU:E}{tgt:Tg}{it:It}{bc:List Nat}:az C (.comp mt bU tgt it (aa c) bc n) env st=(iI C it env st).bind λp st=>(fV C bU (aa c) tgt p.2 p.1 (nJ bc n env) st []).bind λxs st=>mk mt xs st:=rfl
mutual
noncomputable def wt:PV->Nat
 |.aL=>4
 |.bl _=>5
 |.int _=>40
 |.str cs=>cs.length+2
 |.af xs=>3+de xs
 |.ai xs=>3+de xs
noncomputable def de:List PV->Nat
 |[]=>0
 |x::r=>wt x+2+de r
end
mutual
/-- ae8 to a bound,texts of plain signs -/
noncomputable def bT(B:Nat):PV->Bool
 |.int i=>decide (i.natAbs<=B)
 |.str cs=>cs.all lG
 |.af xs=>iP B xs
 |.ai xs=>iP B xs
 |_=>true
noncomputable def iP(B:Nat):List PV->Bool
 |[]=>true
 |x::r=>bT B x&&iP B r
end
@[simp] def ah3:wt .aL=4:=by rw[wt]
@[simp] def ah0{b}:wt (.bl b)=5:=by rw[wt]
@[simp] def ah1{b}:wt (.int b)=40:=by rw[wt]
@[simp] def ah4{b}:wt (.str b)=b.length+2:=by rw[wt]
@[simp] def ah5{b}:wt (.af b)=3+de b:=by rw[wt]
@[simp] def ah2{b}:wt (.ai b)=3+de b:=by rw[wt]
@[simp] def xU4:de []=0:=by rw[de]
@[simp] def xF3{x r}:de (x::r)=wt x+2+de r:=by rw[de]
@[simp] def xU3{a b}:de (a++b)=de a+de b:=by
 induction a with
 |nil=>simp
 |cons x r ih=>simp[ih];lia
def NX{a b:List PV}(h:a.Sublist b):de a<=de b:=by
 induction h with
 |slnil=>simp
 |cons x _ ih=>simp;lia
 |cons_cons x _ ih=>simp;lia
def wX(h:x∈xs):wt x+2<=de xs:=by
 induction xs with
 |nil=>cases h
 |cons y r ih=>
  rcases bN.mp h with rfl |h
  .simp
  .let:=ih h;simp;lia
@[simp] def xP3{B}:bT B .aL=true:=by rw[bT]<;>simp
@[simp] def af8{B b}:bT B (.bl b)=true:=by rw[bT]<;>simp
@[simp] def xP1{B i}:bT B (.int i)=decide (i.natAbs<=B):=by rw[bT]
@[simp] def AZ{B cs}:bT B (.str cs)=cs.all lG:=by rw[bT]
def Qw{B xs}:iP B xs=xs.all (bT B):=by
 induction xs with
 |nil=>rw[iP];rfl
 |cons x r ih=>rw[iP,ih];rfl
@[simp] def kN{B xs}:bT B (.af xs)=xs.all (bT B):=by rw[bT,Qw]
@[simp] def xP2{B xs}:bT B (.ai xs)=xs.all (bT B):=by rw[bT,Qw]
mutual
theorem sO{B B':Nat}(h:B<=B'):∀v,bT B v=true->bT B' v=true
 |.aL,_=>by simp
 |.bl _,_=>by simp
 |.int i,g=>by simp at g ⊢;lia
 |.str _,g=>by simpa using g
 |.af xs,g=>by rw[bT]at g ⊢;exact DS h xs g
 |.ai xs,g=>by rw[bT]at g ⊢;exact DS h xs g
theorem DS{B B':Nat}(h:B<=B'):∀v,iP B v=true->iP B' v=true
 |[],_=>by rw[iP]
 | x::r,g=>by
  rw[iP,bP]at g ⊢;exact(sO h x g.1,DS h r g.2)
end
def AU{d:Nat}:cC xs<=d↔∀x∈xs,bM x<=d:=by
 induction xs with
 |nil=>simp
 |cons x r ih=>simp[ih,Nat.max_le]
def yl1{i:Int}(h:i.natAbs<10 ^ 38):(fq i).length<=39:=by
 unfold fq;rw[cy,String.length_toList];let q:∀n:Nat,n<10 ^ 38->(BF n).length<=38:=λn hn=>by
  exact(Nat.length_repr_le_iff (by lia)).mpr hn
 cases i with
 |ofNat n=>
  show(BF n).length<=39;let:=q n h;lia
 |negSucc n=>
  let e:toString (Int.negSucc n) = "-" ++ BF (n+1):=rfl;rw[e,String.length_append];let:=q (n+1) h;let e1 : "-".length=1:=rfl;lia
def FX:∀ts:List (List Nat),(gP ts).length<=(ts.map λt=>t.length+2).sum
 |[]=>by simp[gP]
 |[x]=>by simp[gP]
 | x::y::r=>by
  let:=FX (y::r);rw[gP]
  .simp at this ⊢;lia
  .simp
mutual
theorem Mq{B:Nat}(hB:B<10 ^ 38):∀v,bT B v=true->∃t,d5 v=aa t/\t.length<=wt v
 |.aL,_=>⟨_,by rw[d5],by simp⟩
 |.bl true,_=>⟨_,by rw[d5],by simp[Ag]⟩
 |.bl false,_=>⟨_,by rw[d5],by simp[Av]⟩
 | .int i,h=>by
  simp at h;refine(fq i,?_,?_)
  .rw[d5,if_pos];by_cases h0:i.natAbs=0
   .rw[h0];decide
   .rw[HL h0];exact Nat.lt_of_le_of_lt h (ux hB (by decide +kernel))
  .let:=yl1 (i:=i) (by lia);simp;lia
 | .str cs,h=>by
  simp only[AZ]at h;exact(_,by rw[d5,if_pos h],by simp)
 | .af xs,h=>by
  rw[bT]at h;let(ts,h1,h2):=D5 hB xs h;refine(wU ts,by rw[d5,h1],?_);let:=FX ts;unfold wU;split<;>simp<;>lia
 | .ai xs,h=>by
  rw[bT]at h;let(ts,h1,h2):=D5 hB xs h;refine(wN ts,by rw[d5,h1],?_);let:=FX ts;unfold wN;simp;lia
theorem D5{B:Nat}(hB:B<10 ^ 38):∀v,iP B v=true->∃ts,mS v=aa ts/\(ts.map λt=>t.length+2).sum<=de v
 |[],_=>⟨[],by rw[mS],by simp⟩
 | x::r,h=>by
  rw[iP,bP]at h;let(t,h1,h2):=Mq hB x h.1;let(ts,h3,h4):=D5 hB r h.2;exact(t::ts,by rw[mS,h1,h3],by simp;lia)
end
def QC{B:Nat}{v:PV}(hB:B<10 ^ 38)(h:bT B v=true)(hd:bM v<=100)(hw:wt v<=16777216):∃t,qQ v=aa t:=by
 let(t,h1,h2):=Mq hB v h;let q:xk v=aa t:=by
  unfold xk;rw[h1];exact if_pos ⟨hd,bC (by lia)⟩
 cases v with
 |bl b=>cases b<;>exact(_,rfl)
 |_=>exact(t,q)
def zi(ns:List (List Nat))(s:List Nat):Int:=match ns with
 |[]=>-1
 |n::r=>if n=s then 0 else if zi r s=-1 then -1 else zi r s+1
@[reducible] def Nm:=List Nat
inductive Reach(ps:List (Nm×Nm)):Nm->Nm->Prop where
 |refl (a:Nm):Reach ps a a
 |step {a b c:Nm}:Reach ps a b->(b,c)∈ps->Reach ps a c
abbrev fU(s:Nm):List (Nm×Nm)->List Nm->List Nm
 |[],f=>f
 |p::r,f=>fU s r (if p.1=s/\p.2∉f then f++[p.2]else f)
def Ha{s:Nm}:∀{ps:List (Nm×Nm)}{f:List Nm},∃g,fU s ps f=f++g
 |[],f=>⟨[],by simp[fU]⟩
 | p::r,f=>by
  rw[fU];split
  .let(g,e):=Ha (s:=s) (ps:=r) (f:=f++[p.2]);exact(p.2::g,by rw[e];simp)
  .exact Ha
def tR{s x:Nm}:∀{ps:List (Nm×Nm)}{f:List Nm},x∈fU s ps f↔x∈f\/(s,x)∈ps
 |[],f=>by simp[fU]
 | p::r,f=>by
  let(a,b):=p;rw[fU,tR (ps:=r)];by_cases h:a=s/\b∉f
  .rw[if_pos h];simp only[d0,bN,iB,or_false,T6];let(rfl,h2):=h;constructor
   .rintro ((h |h)|h)
    .exact .inl h
    .exact .inr (.inl ⟨rfl,h⟩)
    .exact .inr (.inr h)
   .rintro (h |⟨_,h⟩|h)
    .exact .inl (.inl h)
    .exact .inl (.inr h)
    .exact .inr h
  .rw[if_neg h];simp only[bN,T6];constructor
   .rintro (h |h)
    .exact .inl h
    .exact .inr (.inr h)
   .rintro (h' |⟨rfl,rfl⟩|h')
    .exact .inl h'
    .left;by_cases hx:x∈f
     .exact hx
     .exact absurd ⟨rfl,hx⟩ h
    .exact .inr h'
def FL{s:Nm}:∀{ps:List (Nm×Nm)}{f:List Nm},f.Nodup->(fU s ps f).Nodup
 |[],f,h=>by simpa[fU]using h
 | p::r,f,h=>by
  rw[fU];split
  .rename_i hp
   refine FL ?_;rw[HD];refine(h,by simp,?_);intro a ha b hb e;let:b=p.2:=by simpa using hb
   subst this e;exact hp.2 ha
  .exact FL h
abbrev kh(ps:List (Nm×Nm)):Nat->List Nm->Nat->List Nm
 |0,f,_=>f
 | k+1,f,i=>match f[i]? with
  |some s=>kh ps k (fU s ps f) (i+1)
  |none=>f
def cY(ps:List (Nm×Nm))(n:Nm):List Nm:=kh ps 60 [n] 0
variable{f:List Nm}
def yv3{g:List Nm}(hf:f.Nodup)(h:∀x∈f,x∈g):f.length<=g.length:=by
 induction f generalizing g with
 |nil=>simp
 |cons a r ih=>
  rw[l6]at hf;let ha:=h a (by simp);let:=ih (g:=g.erase a) hf.2 λx hx=>by
   let cj:x≠a:=λe=>hf.1 (e▸hx);exact(Te cj).mpr (h x (b5 _ hx))
  rw[S8 ha]at this;let hg:0<g.length:=Hy ha;simp;lia
structure m4(ps:List (Nm×Nm))(n:Nm)(f:List Nm)(i:Nat):Prop where
 nd:f.Nodup
 here:n∈f
 ok:∀x∈f,Reach ps n x
 cl:∀j<i,∀a c,f[j]?=aa a->(a,c)∈ps->c∈f
 sub:∀x∈f,x∈n::ps.map ma
 le:i<=f.length
def m4.next{ps n f i s}(h:m4 ps n f i)(hs:f[i]?=aa s):m4 ps n (fU s ps f) (i+1):=by
 let(g,e):=Ha (s:=s) (ps:=ps) (f:=f);let vi:i<f.length:=(dU.mp hs).1;refine(FL h.nd,tR.mpr (.inl h.here),λx hx=>?_,λj hj a c ha Kb=>?_,λx hx=>?_,by rw[e];simp;lia)
 .rcases tR.mp hx with hx |hx
  .exact h.ok x hx
  .exact(h.ok s (eE hs)).step hx
 .let lx:f[j]?=aa a:=by
   rw[e,jv (by lia)]at ha;exact ha
  rcases Nat.lt_or_ge j i with cq |hge
  .exact tR.mpr (.inl (h.cl j cq a c lx Kb))
  .let:j=i:=by lia
   subst this;rw[hs]at lx;cases lx;exact tR.mpr (.inr Kb)
 .rcases tR.mp hx with hx |hx
  .exact h.sub x hx
  .exact b5 _ (bK.mpr ⟨_,hx,rfl⟩)
def m4.len{ps n f i}(h:m4 ps n f i):f.length<=ps.length+1:=by
 let:=yv3 h.nd h.sub;simpa using this
def GF{ps n}:∀(k:Nat)(f:List Nm)(i:Nat),m4 ps n f i->ps.length+1<i+k->∃j,m4 ps n (kh ps k f i) j/\(kh ps k f i).length<=j
 |0,f,i,h,hk=>⟨i,by rw[kh];exact h,by let:=h.len;rw[kh];lia⟩
 | k+1,f,i,h,hk=>by
  rw[kh];cases e:f[i]? with
  |none=>exact(i,h,by rw[List.getElem?_eq_none_iff]at e;exact e)
  |some s=>exact GF k _ (i+1) (h.next e) (by lia)
def EZ{ps n}:m4 ps n [n] 0:=by
 refine(by simp,by simp,?_,by lia,by simp,by simp);intro x hx;let:x=n:=by simpa using hx
 subst this;exact .refl _
variable{ps:List (Nm×Nm)}
def rz{n x:Nm}(hl:ps.length<=50):x∈cY ps n↔Reach ps n x:=by
 let(j,h,hj):=GF (ps:=ps) (n:=n) 60 [n] 0 EZ (by lia);constructor
 .exact h.ok x
 .intro r;show x∈kh ps 60 [n] 0;induction r with
  |refl=>exact h.here
  |step _ m ih=>
   let(k,hk,e):=gR ih;exact h.cl k (by lia) _ _ (by rw[bY hk,e]) m
def yZ2{n:Nm}(hl:ps.length<=50):(cY ps n).length<=ps.length+1:=by
 let(j,h,hj):=GF (ps:=ps) (n:=n) 60 [n] 0 EZ (by lia);exact h.len
def o9(ps:List (Nm×Nm))(f:List Nm):List Nm:=f++(ps.filter λp=>decide (p.1∈f)&&decide (p.2∉f)).map ma
abbrev ups(ps:List (Nm×Nm)):Nat->List Nm->List Nm
 |0,f=>f
 |k+1,f=>ups ps k (o9 ps f)
def Bh{ps f x}:x∈o9 ps f↔x∈f\/∃a∈f,(a,x)∈ps:=by
 unfold o9;rw[d0,bK];constructor
 .rintro (h |⟨p,hp,rfl⟩)
  .exact .inl h
  .rw[kS]at hp;simp at hp;exact .inr ⟨p.1,hp.2.1,hp.1⟩
 .rintro (h |⟨a,ha,hx⟩)
  .exact .inl h
  .by_cases hf:x∈f
   .exact .inl hf
   .exact .inr ⟨(a,x),kS.mpr ⟨hx,by simp[ha,hf]⟩,rfl⟩
def OD{ps n}:∀(k:Nat)(f:List Nm),(∀x∈f,Reach ps n x)->∀x∈ups ps k f,Reach ps n x
 |0,f,h=>h
 | k+1,f,h=>by
  rw[ups];refine OD k _ λx hx=>?_;rcases Bh.mp hx with hx |⟨a,ha,hx⟩
  .exact h x hx
  .exact(h a ha).step hx
def PH{ps}:∀(k:Nat)(f:List Nm) x,x∈f->x∈ups ps k f
 |0,f,x,h=>h
 |k+1,f,x,h=>PH k _ x (Bh.mpr (.inl h))
def rT(ps:List (Nm×Nm))(f:List Nm):Prop:=∀a∈f,∀c,(a,c)∈ps->c∈f
def ε{ps f}(h:rT ps f):o9 ps f=f:=by
 unfold o9;let:(ps.filter λp=>decide (p.1∈f)&&decide (p.2∉f))=[]:=by
  rw[Hs];intro p hp hc;simp at hc;exact hc.2 (h p.1 hc.1 p.2 hp)
 rw[this];simp
def NW{ps}:∀(k:Nat){f:List Nm},rT ps f->ups ps k f=f
 |0,f,_=>rfl
 |k+1,f,h=>by rw[ups,ε h];exact NW k h
def cnt(ns f:List Nm):Nat:=(ns.filter λn=>decide (n∈f)).length
variable{ns:List Nm}
def xj5:cnt ns f<=ns.length:=Bw _ _
def xj6{g:List Nm}{c:Nm}(h:∀x∈f,x∈g)(hc:c∈ns)(h1:c∉f)(h2:c∈g):cnt ns f+1<=cnt ns g:=by
 unfold cnt;induction ns with
 |nil=>cases hc
 |cons n r ih=>
  rw[pG,pG];by_cases e:n=c
  .subst e;rw[if_neg (by simpa using h1),if_pos (by simpa using h2)];let:(r.filter λn=>decide (n∈f)).length<=(r.filter λn=>decide (n∈g)).length:=by
    clear ih hc;induction r with
    |nil=>simp
    |cons m r sI=>
     rw[pG,pG];by_cases hm:m∈f
     .rw[if_pos (by simpa using hm),if_pos (by simpa using h m hm)];simp;exact sI
     .rw[if_neg (by simpa using hm)];split
      .simp;lia
      .exact sI
   simp;lia
  .let qi:c∈r:=by
    rcases bN.mp hc with h |h
    .exact absurd h.symm e
    .exact h
   let:=ih qi;by_cases hm:n∈f
   .rw[if_pos (by simpa using hm),if_pos (by simpa using h n hm)];simp;lia
   .rw[if_neg (by simpa using hm)];split
    .simp;lia
    .exact this
def OE{ps ns}(hp:∀p∈ps,p.2∈ns):∀(k:Nat)(f:List Nm),rT ps (ups ps k f)\/cnt ns f+k<=cnt ns (ups ps k f)
 |0,f=>.inr (bF _)
 | k+1,f=>by
  by_cases h:rT ps f
  .left;rw[NW (k+1) h];exact h
  .unfold rT at h;simp only[SJ]at h;let(a,ha,c,hc,Xa):=h;let h1:cnt ns f+1<=cnt ns (o9 ps f):=xj6 (λx hx=>Bh.mpr (.inl hx)) (hp _ hc) Xa (Bh.mpr (.inr ⟨a,ha,hc⟩));rw[ups];rcases OE hp k (o9 ps f)with h |h
   .exact .inl h
   .exact .inr (by lia)
def yY5{n x:Nm}(hp:∀p∈ps,p.2∈ns)(hn:n∈ns):x∈ups ps ns.length [n]↔Reach ps n x:=by
 let hc:rT ps (ups ps ns.length [n]):=by
  rcases OE hp ns.length [n]with h |h
  .exact h
  .let h1:=xj5 (ns:=ns) (f:=ups ps ns.length [n]);let h2:1<=cnt ns [n]:=by
    unfold cnt;exact Hy (kS.mpr ⟨hn,by simp⟩)
   lia
 constructor
 .exact OD _ _ (λx hx=>by rw[show x=n by simpa using hx];exact .refl _) x
 .intro r;induction r with
  |refl=>exact PH _ _ _ (by simp)
  |step _ m ih=>exact hc _ ih _ m
end OR
namespace L2
open PySem PySem.Spec PyProof.Rows
@[reducible] def Key:=Sum Int Str
abbrev tf:Key->ak->Bool
 |.inl k,v=>Vl k v
 |.inr x,v=>Vm x v
abbrev Yr(w:aY):Key->Int
 |.inl k=>hashInt k
 |.inr x=>hashStr w x
def lR:∀{k:Key}{v:ak},tf k v=true->(∃i t,k=rS i/\v=mh i t)\/(∃x t,k=n4 x/\v=yd x t)
 | .inl i,v,h=>by
  let(t,e):=Value.isInt_shape (k:=i) (v:=v) h;exact .inl ⟨i,t,rfl,e⟩
 | .inr x,v,h=>by
  let(t,e):=Value.isStrOf_shape (x:=x) (v:=v) h;exact .inr ⟨x,t,rfl,e⟩
def yt9(i:Int)(t:dt):tf (.inl i) (.int i t)=true:=by simp[tf,Vl]
def yu0(x:Str)(t:dt):tf (.inr x) (.str x t)=true:=by simp[tf,Vm]
def xp4(a b:Int):decide ((rS a:Key)=rS b)=(a==b):=by
 by_cases e:a=b
 .subst e;simp
 .let h:¬(rS a:Key)=rS b:=λq=>e (Sum.inl.inj q);rw[decide_eq_false h];exact(beq_eq_false_iff_ne.mpr e).symm
def xp7(a b:Str):decide ((n4 a:Key)=n4 b)=decide (a=b):=by
 by_cases e:a=b
 .subst e;simp
 .let h:¬(n4 a:Key)=n4 b:=λq=>e (Sum.inr.inj q);rw[decide_eq_false h,decide_eq_false e]
def xp5(a:Int)(b:Str):decide ((rS a:Key)=n4 b)=false:=decide_eq_false (λq=>nomatch q)
def xp6(a:Str)(b:Int):decide ((n4 a:Key)=rS b)=false:=decide_eq_false (λq=>nomatch q)
abbrev gp(prog:Program)(w:aY):U2 prog w Key where
 is:=tf
 hash:=Yr w
 inj:=λv a b ha hb=>by
  rcases lR ha with⟨i,t,rfl,rfl⟩|⟨x,t,rfl,rfl⟩
  .rcases lR hb with⟨j,u,rfl,e⟩|⟨y,u,rfl,e⟩
   .injection e with e1 _;rw[e1]
   .exact nomatch e
  .rcases lR hb with⟨j,u,rfl,e⟩|⟨y,u,rfl,e⟩
   .exact nomatch e
   .injection e with e1 _;rw[e1]
 byValue:=λk v h=>by
  rcases lR h with⟨i,t,rfl,rfl⟩|⟨x,t,rfl,rfl⟩<;>rfl
 pyHash:=λhv h=>by
  rcases lR hv with⟨i,t,rfl,rfl⟩|⟨x,t,rfl,rfl⟩
  .exact wpAny_pyHash_int h
  .exact wpAny_pyHash_str h
 eqBool:=λhu hv h=>by
  rcases lR hu with⟨i,t,rfl,rfl⟩|⟨x,t,rfl,rfl⟩
  .rcases lR hv with⟨j,u,rfl,rfl⟩|⟨y,u,rfl,rfl⟩
   .rw[xp4]at h;exact wpAny_eqBool_int h
   .rw[xp5]at h;exact SeqAt.EqAt.int_str i t y u _ _ _ _ h
  .rcases lR hv with⟨j,u,rfl,rfl⟩|⟨y,u,rfl,rfl⟩
   .rw[xp6]at h;exact SeqAt.EqAt.str_int x t j u _ _ _ _ h
   .rw[xp7]at h;exact wpAny_eqBool_str h
 «strs»:=λk x t v h=>by
  rcases lR h with⟨i,u,rfl,e⟩|⟨y,u,rfl,e⟩
  .exact nomatch e
  .injection e with e1 _;subst e1;cases v<;>rfl
def yb4(prog:Program)(w:aY)(i:Int)(t:dt):(gp prog w).is (.inl i) (.int i t)=true:=yt9 i t
def yb5(prog:Program)(w:aY)(x:Str)(t:dt):(gp prog w).is (.inr x) (.str x t)=true:=yu0 x t
inductive V where
 |aL |bl (b:Bool)|int (i:Int)|str (x:Str)|Cv (b:Array UInt8)|sj (b:UInt64)|ref (a:aq)|ty (n:String)
 deriving DecidableEq
end L2
set_option bootstrap.genMatcherCode true
local macro_rules
 |`(())=>`(by lia)
set_option bootstrap.genMatcherCode false
namespace L2
open PySem PySem.Spec PyProof.Rows
abbrev RelV:V->ak->Prop
 |.aL,u=>u=gA
 |.bl b,u=>u=gT b
 |.int i,u=>∃t,u=mh i t
 |.str x,u=>∃t,u=yd x t
 |.Cv b,u=>∃t,u=Value.bytes b t
 |.sj b,u=>∃t,u=Vk b t
 |.ref a,u=>u=b9 a
 |.ty n,u=>u=uD n
@[reducible] abbrev ba:List V->List ak->Prop:=cn RelV
variable{us:List ak}
def ba.length{xs:List V}(r:ba xs us):xs.length=us.length:=BO r
def ba.get:∀{xs:List V}{us:List ak}{i:Nat}{x:V},ba xs us->xs[i]?=aa x->∃u,us[i]?=aa u/\RelV x u
 |_,_,_,_,.nil,e=>by simp at e
 |_,_,0,_,.cons r _,e=>by simp at e;subst e;exact(_,rfl,r)
 | _,_,i+1,x,.cons _ t,e=>by
  let(u,h1,h2):=ba.get (i:=i) (x:=x) t (by simpa using e);exact(u,by simpa using h1,h2)
variable{u:ak}
def ba.set{x:V}(r:RelV x u):∀{xs:List V}{us:List ak}(i:Nat),ba xs us->ba (xs.set i x) (us.set i u)
 |_,_,_,.nil=>.nil
 |_,_,0,.cons _ t=>.cons r t
 |_,_,i+1,.cons q t=>.cons q (ba.set r i t)
def ba.append:∀{xs ys:List V}{us ws:List ak},ba xs us->ba ys ws->ba (xs++ys) (us++ws)
 |_,_,_,_,.nil,s=>s
 |_,_,_,_,.cons r t,s=>.cons r (ba.append t s)
def ba.take:∀{xs:List V}{us:List ak}(n:Nat),ba xs us->ba (xs.take n) (us.take n)
 |_,_,0,_=>.nil
 |_,_,_+1,.nil=>.nil
 |_,_,n+1,.cons r t=>.cons r (ba.take n t)
def ba.drop:∀{xs:List V}{us:List ak}(n:Nat),ba xs us->ba (xs.drop n) (us.drop n)
 |_,_,0,r=>r
 |_,_,_+1,.nil=>.nil
 |_,_,n+1,.cons _ t=>ba.drop n t
abbrev kG:Option V->Option ak->Prop
 |some v,aa u=>RelV v u
 |none,aj=>True
 |_,_=>False
abbrev KV{κ:Type}:List (κ×V)->List (κ×ak)->Prop:=cn λ(p:κ×V)(q:κ×ak)=>p.1=q.1/\RelV p.2 q.2
abbrev kV:Key->V
 |.inl i=>.int i
 |.inr x=>.str x
inductive HO where
 /-- a list -/
 |ai (xs:List V)
 /-- a tuple (never changes) -/
 |af (xs:List V)
 /-- a dict Z0 keys are ints and texts;one Z0 keys are tuples of ints and texts (the empty one is both) -/
 |dK (av:List (Key×V))|dT (av:List (List Key×V))
 /-- a set of ints: aw members,aw size -/
 |set (S:Int->Bool) (n:Nat)
 /-- an instance of the class at C,aw dict at dx,aw attributes -/
 |ins (C dx:aq) (fs:List (Str×V))
 /-- the dict of the instance at x -/
 |own (x:aq)
 /-- the dict of an exception -/
 |xd (fs:List (Str×V))
 /-- a bound method,f of x -/
 |met (f x:aq)
 /-- a range object lo,lo+1,.. below hi -/
 |D0 (lo hi:Int)
 /-- a ZM MF is known to the object (the ag4;a dict while a loop walks it): read,never written while it is so -/
 |iJ (o:aV) (u:HO)
 /-- a code af4 table -/
 |qx (ps:Array ak)
 /-- any other ZM,by ZZ is true of aw one object (a def of af9 own: aa4 a S n:=HO.ext λh=>..) -/
 |ext (φ:aT->Prop)
@[reducible] def Hp:=aq->Option HO
def upd(H:Hp)(a:aq)(o:HO):Hp:=λb=>if b=a then aa o else H b
variable{H:Hp}{a:aq}{o:HO}
def dZ:upd H a o a=aa o:=by unfold upd;rw[if_pos rfl]
variable{b:aq}
def cL(h:b≠a):upd H a o b=H b:=by unfold upd;rw[if_neg h]
def xc(h:H a=aa o)(h':H b=aj):a≠b:=by
 intro e;subst e;rw[h]at h';cases h'
def lX(h:aT)(a:aq)(aw:Array ak):Prop:=∃o,h.get? a=aa o/\o.cls=.type "tuple" /\ o.dict=aj/\∃n,o.data=.seq aw n
def lX.new(h:aT)(aw:Array ak):lX (h.push { cls:=.type "tuple", data:=.seq aw }) h.objs.size aw:=⟨_,dY _ rfl,rfl,rfl,_,rfl⟩
def Rd(H:Hp)(a:aq)(u:HO):Prop:=H a=aa u\/∃o,H a=aa (.iJ o u)
def Rd.past{u:HO}(h:b≠a)(r:Rd H b u):Rd (upd H a o) b u:=by
 unfold Rd;rw[cL h];exact r
def Rd.ne{u:HO}(r:Rd H b u)(h:H a=aj):b≠a:=by
 rintro rfl;rcases r with r |⟨_,r⟩<;>rw[h]at r<;>cases r
section
variable(P:Program)(w:aY)
abbrev dz(H:Hp)(h:aT)(a:aq):HO->Prop
 |.ai xs=>xs.length<=a9/\∃(aw:List ak)(n:Nat),ba xs aw/\h.get? a=aa { cls:=.type "list", data:=.seq aw.toArray n }
 |.af xs=>xs.length<=a9/\∃aw:List ak,ba xs aw/\lX h a aw.toArray
 |.dK av=>av.length<=a9/\(a==nX)=false/\∃vs,KV av vs/\h.DictOf (gp P w) a vs
 | .dT av=>av.length<=a9/\(a==nX)=false/\∃xs:List (List Key×aq×ak),
   cn (λ(p:List Key×V)(q:List Key×aq×ak)=>p.1=q.1/\Rd H q.2.1 (.af (p.1.map kV))/\RelV p.2 q.2.2) av xs /\
   ∃o es ep,h.get? a=aa o/\o.ExactDict/\o.data=.dict es ep/\es.toList=xs.map (entryOfKey (yi (gp P w)))/\(xs.map (·.1)).Nodup
 |.set S n=>h.SetOf (intKind P w) a S n
 | .ins C dx fs=>H dx=aa (.own a)/\fs.length<=1000/\dx≠a/\h.get? a=aa (Iz C dx) /\
   ∃mA,h.Ns1 dx mA/\(∀f,kG (fs.lookup f) (mA f))/\Vx mA (fs.map (·.1))
 |.own _=>∃o,h.get? a=aa o
 |.xd fs=>∃mA,h.Ns1 a mA/\∀f,kG (fs.lookup f) (mA f)
 |.D0 lo hi=>∃t u v,h.get? a=aa { cls:=.type "range", data:=.fields #[.int lo t,.int hi u,.int 1 v] }
 |.iJ o u=>h.get? a=aa o/\dz H h a u
 |.qx ps=>h.get? a=aa { cls:=.none,data:=.fields ps }
 |.met f x=>h.get? a=aa (IC (.ref f) (.ref x))
 |.ext φ=>φ h/\(∃o,h.get? a=aa o)/\∀h1 h2:aT,φ h1->(∀o,h1.get? a=aa o->h2.get? a=aa o)->φ h2
def cI(H:Hp)(h:aT):Prop:=∀a o,H a=aa o->dz P w H h a o
end
section
variable{P:Program}{w:aY}{H H':Hp}{h h':aT}{a:aq}{o:HO}
def dz.lt(x:dz P w H h a o):a<h.objs.size:=by
 cases o with
 |ai xs=>let(_,_,_,_,e):=x;exact b8 e
 |af xs=>let(_,_,_,_,e,_):=x;exact b8 e
 |dK av=>let(_,_,_,_,o,_,_,e,_):=x;exact b8 e
 |dT av=>let(_,_,_,_,o,_,_,e,_):=x;exact b8 e
 |set S n=>let(o,_,_,_,e,_):=x;exact b8 e
 |ins C dx fs=>let(_,_,_,e,_):=x;exact b8 e
 |own y=>let(_,e):=x;exact b8 e
 |xd fs=>obtain⟨_,⟨_,_,_,e,_⟩,_⟩:=x;exact b8 e
 |D0 lo hi=>let(_,_,_,e):=x;exact b8 e
 |iJ ob u=>let(e,_):=x;exact b8 e
 |qx ps=>exact b8 (show h.get? a=aa _ from x)
 |met f y=>exact b8 (show h.get? a=aa _ from x)
 |ext φ=>obtain⟨_,⟨_,e⟩,_⟩:=x;exact b8 e
def Paired.DL{O β:Type}{F G:O->β->Prop}:∀{l₁:List O}{l₂:List β},cn F l₁ l₂->(∀a b,F a b->G a b)->cn G l₁ l₂
 |_,_,.nil,_=>.nil
 |_,_,.cons r t,f=>.cons (f _ _ r) (Paired.DL t f)
def dz.mU(x:dz P w H h a o)(k:∀b u,(b=a\/H b=aa (.own a))->h.get? b=aa u->h'.get? b=aa u)
  (ho:∀b,H b=aa (.own a)->H' b=aa (.own a)) (ht:∀b xs,Rd H b (.af xs)->Rd H' b (.af xs)):dz P w H' h' a o:=by
 induction o with
 |ai xs=>let(z,aw,n,r,e):=x;exact(z,aw,n,r,k _ _ (.inl rfl) e)
 |af xs=>let(z,aw,r,ob,e,c):=x;exact(z,aw,r,ob,k _ _ (.inl rfl) e,c)
 |dK av=>let(z,y,vs,r,ob,es,ep,e,c):=x;exact(z,y,vs,r,ob,es,ep,k _ _ (.inl rfl) e,c)
 |dT av=>
  let(z,y,xs,r,ob,es,ep,e,c):=x;exact(z,y,xs,Paired.DL r λp q z=>⟨z.1,ht _ _ z.2.1,z.2.2⟩,ob,es,ep,k _ _ (.inl rfl) e,c)
 |set S n=>let(ob,es,ep,t,e,c):=x;exact(ob,es,ep,t,k _ _ (.inl rfl) e,c)
 |ins C dx fs=>
  obtain⟨d,z,ne,e,mA,⟨od,es,ep,e2,c⟩,r⟩:=x;exact(ho _ d,z,ne,k _ _ (.inl rfl) e,mA,⟨od,es,ep,k _ _ (.inr d) e2,c⟩,r)
 |own y=>let(ob,e):=x;exact(ob,k _ _ (.inl rfl) e)
 |xd fs=>obtain⟨mA,⟨od,es,ep,e,c⟩,r⟩:=x;exact(mA,⟨od,es,ep,k _ _ (.inl rfl) e,c⟩,r)
 |D0 lo hi=>let(t,u,v,e):=x;exact(t,u,v,k _ _ (.inl rfl) e)
 |iJ ob u ih=>let(e,q):=x;exact(k _ _ (.inl rfl) e,ih q)
 |qx ps=>
  let e:h.get? a=aa { cls:=.none,data:=.fields ps }:=x;show h'.get? a=aa { cls:=.none,data:=.fields ps };exact k a _ (.inl rfl) e
 |met f y=>
  let e:h.get? a=aa (IC (.ref f) (.ref y)):=x;show h'.get? a=aa (IC (.ref f) (.ref y));exact k a _ (.inl rfl) e
 |ext φ=>obtain⟨p,⟨o,e⟩,st⟩:=x;exact(st _ _ p λo q=>k _ _ (.inl rfl) q,⟨o,k _ _ (.inl rfl) e⟩,st)
def cI.lt(x:cI P w H h)(e:H a=aa o):a<h.objs.size:=(x a o e).lt
def cI.fresh(x:cI P w H h)(e:h.objs.size<=a):H a=aj:=by
 cases q:H a with
 |none=>rfl
 |some u=>exact absurd (gz (x.lt q) e) (kW _)
def cI.kept(x:cI P w H h)(k:∀b u,h.get? b=aa u->h'.get? b=aa u):cI P w H h':=λa o e =>
 (x a o e).mU (λb u _ q=>k b u q) (λ_ q=>q) λ_ _ q=>q
def cI.laid(x:cI P w H h)(k:∀b u,h.get? b=aa u->h'.get? b=aa u)(hp:h.objs.size<=a)(new:dz P w (upd H a o) h' a o):cI P w (upd H a o) h':=λb u e=>by
 let hn:=x.fresh hp;by_cases hb:b=a
 .subst hb;rw[dZ]at e;cases e;exact new
 .rw[cL hb]at e;exact(x b u e).mU (λc v _ q=>k c v q) (λc q=>by rw[cL (xc q hn)];exact q) λc xs q=>q.past (q.ne hn)
end
variable{P:Program}{w:aY}{h:aT}
def Rd.ok{u:HO}(r:Rd H a u)(x:cI P w H h):dz P w H h a u:=by
 rcases r with r |⟨o,r⟩
 .exact x a u r
 .let(_,q):=x a _ r;exact q
abbrev uR:Option HO->Prop
 |some (.ai _)=>True
 |some (.dK _)=>True
 |some (.dT _)=>True
 |some (.set _ _)=>True
 |some (.ins _ _ _)=>True
 |some (.ext _)=>True
 |_=>False
section
variable{P:Program}{w:aY}{H:Hp}{h h':aT}{x e:aq}{o':HO}
def cI.write(ok:cI P w H h)(mu:uR (H x))(he:e=x\/H e=aa (.own x))(k:∀b u,b≠e->h.get? b=aa u->h'.get? b=aa u)(sy:∃u,h'.get? e=aa u)
  (new:dz P w (upd H x o') h' x o'):cI P w (upd H x o') h':=λb u q=>by
 let LR:∀c y,H c=aa (.own y)->c≠x:=λc y r z=>by subst z;rw[r]at mu;exact mu
 let YI:∀c xs,Rd H c (.af xs)->c≠x:=λc xs r z=>by subst z;rcases r with r |⟨_,r⟩<;>rw[r]at mu<;>exact mu
 by_cases hb:b=x
 .subst hb;rw[dZ]at q;cases q;exact new
 .rw[cL hb]at q;by_cases mD:b=e
  .let q':H b=aa (.own x):=by
    rcases he with z |z
    .exact absurd (mD.trans z) hb
    .rw[mD];exact z
   rw[q]at q';cases q';let(v,hv):=sy;exact(v,by rw[mD];exact hv)
  .refine(ok b u q).mU (λc v hc r=>k c v ?_ r) (λc r=>by rw[cL (LR c b r)];exact r) λc xs r=>r.past (YI c xs r);rcases hc with rfl |hc
   .exact mD
   .rintro rfl;rcases he with z |z
    .exact LR c b hc z
    .rw[hc]at z;cases z;exact hb rfl
end
structure Un(fs ex:List aq)(H H':Hp)(h h':aT):Prop where
 keep:∀b o,h.get? b=aa o->H b=aj->b∉fs->b∉ex->h'.get? b=aa o
 slot:∀b o,h.get? b=aa o->H b=aj->b∈fs->b∉ex->∃sl,h'.get? b=aa { o with slots:=sl }
 free:∀b o,h.get? b=aa o->H b=aj->b∉ex->H' b=aj
 there:∀b o,h.get? b=aa o->b∉ex->∃o',h'.get? b=aa o'
 mY:∀b xs,H b=aa (.af xs)->H' b=aa (.af xs)
 lq:∀b o u,H b=aa (.iJ o u)->H' b=aa (.iJ o u)
 mV:∀b ps,H b=aa (.qx ps)->∃more,H' b=aa (.qx (ps++more))
section
variable{fs WC ex ex':List aq}{H H1 H2:Hp}{h h1 h2 h':aT}{a x e:aq}{o:HO}
def Un.any(u:Un fs ex H H1 h h1){ob:aV}(q:h.get? b=aa ob)(n:H b=aj)(hx:b∉ex):∃sl,h1.get? b=aa { ob with slots:=sl }:=by
 by_cases hb:b∈fs
 .exact u.slot b ob q n hb hx
 .exact(ob.slots,u.keep b ob q n hb hx)
def Un.kept(k:∀b u,h.get? b=aa u->h'.get? b=aa u):Un fs ex H H h h' :=
 ⟨λb ob q _ _ _=>k b ob q,λb ob q _ _ _=>⟨ob.slots,k b ob q⟩,λ_ _ _ n _=>n,λb ob q _=>⟨ob,k b ob q⟩,λ_ _ q=>q,λ_ _ _ q=>q,λ_ ps q=>⟨#[],by rw[q];simp⟩⟩
def Un.refl:Un fs ex H H h h:=Un.kept λ_ _ q=>q
def Un.laid(k:∀b u,h.get? b=aa u->h'.get? b=aa u)(hp:h.objs.size<=a)(hn:H a=aj):Un fs ex H (upd H a o) h h' where
 keep:=λb u q _ _ _=>k b u q
 slot:=λb u q _ _ _=>⟨u.slots,k b u q⟩
 free:=λb u q n _=>by rw[cL (eG (gz (b8 q) hp))];exact n
 there:=λb u q _=>⟨u,k b u q⟩
 mY:=λb xs q=>by rw[cL (xc q hn)];exact q
 lq:=λb u xs q=>by rw[cL (xc q hn)];exact q
 mV:=λb ps q=>⟨#[],by rw[cL (xc q hn),q];simp⟩
def Un.write(mu:uR (H x))(he:e=x\/H e=aa (.own x))(k:∀b u,b≠e->h.get? b=aa u->h'.get? b=aa u)(sy:∃u,h'.get? e=aa u):Un fs ex H (upd H x o) h h':=by
 let hx:∀b,H b=aj->b≠x:=λb n z=>by subst z;rw[n]at mu;exact mu
 let hb:∀b,H b=aj->b≠e:=λb n z=>by
  subst z;rcases he with r |r
  .exact hx b n r
  .rw[n]at r;cases r
 let hm:∀b u,H b=aa u->¬uR (aa u)->b≠x:=λb u q nm z=>by subst z;rw[q]at mu;exact nm mu
 refine(λb u q n _ _=>k b u (hb b n) q,λb u q n _ _=>⟨u.slots,k b u (hb b n) q⟩,λb u q n _=>by rw[cL (hx b n)];exact n,λb u q _=>?_,
  λb xs q=>by rw[cL (hm b _ q λz=>z)];exact q,λb u xs q=>by rw[cL (hm b _ q λz=>z)];exact q,λb ps q=>⟨#[],by rw[cL (hm b _ q λz=>z),q];simp⟩)
 by_cases mD:b=e
 .subst mD;exact sy
 .exact(u,k b u mD q)
end
def zH(h:aT)(H:Hp):List aq:=(cF h.objs.size).filter λa=>(H a).isSome
def m8(h:aT)(H:Hp):aT:=PySem.W.hideAll h (zH h H)
def ys1(h:aT)(H:Hp):(m8 h H).objs.size=h.objs.size:=PySem.W.hideAll_size _ _
def yE6{o:aV}(e:h.get? b=aa o)(n:H b=aj):(m8 h H).get? b=aa o :=
 PySem.W.hideAll_get _ e λhm=>by
  let q:(H b).isSome=true:=(kS.mp hm).2;rw[n]at q;simp at q
def yZ5{o:aV}(e:(m8 h H).get? b=aa o):h.get? b=aa o/\H b=aj:=by
 let e':h.get? b=aa o:=PySem.W.of_hideAll (zH h H) e;refine(e',?_);cases q:H b with
 |none=>rfl
 |some x=>
  let hm:b∈zH h H:=kS.mpr ⟨eF.mpr (b8 e'),by simp[q]⟩;let z:(m8 h H).get? b=aj:=PySem.W.hideAll_none (zH h H) hm;rw[z]at e;cases e
def yR0(g h:aT)(L:aq):List (aq×aV):=(cF h.objs.size).filterMap λa=>if a=L\/(g.get? a).isSome=true then aj else(h.get? a).map λo=>(a,o)
def cx(g h:aT)(L d:aq):List (aq×aV):=(yR0 g h L).filter λp=>decide (p.1≠d)
structure Mod(K:aQ)(mg:Str->Option ak)(base:aT):Prop where
 DG:K.In base
 glob:base.Ns fv mg
 blt:∃mb,base.Ns ID mb/\∀x:Str,x ≠ "__name__" ->mb x=gD x
 nolimit:base.NoLimit
set_option genInjectivity false in
structure Cx where
 prog:Program
 w:aY
 K:aQ
 mg:Str->Option ak
 base:aT
 A:bb
 N:List Str
 s₀:au
 H₀:Hp
 env:Env
 outer:List Env
 stack:List Env
 ex:List aq
 fn:Str->Bool
 calm:Bool
 pn:List (aq×aV)
 xe:ak->au->Prop
def jF(l:List Env):List aq:=l.filterMap (·.frame)
@[reducible] def Cx.fs(X:Cx):List aq:=jF X.outer
def n5(sc:cB)(x:Str):Prop:=sc.names.lookup x=aa .local\/sc.names.lookup x=aa .cell\/sc.names.lookup x=aa .free
def Loc(sc:cB)(x:Str):Prop:=sc.names.lookup x=aa .local\/sc.names.lookup x=aa .cell
def Look(env:Env)(h:aT)(m:Str->Option ak)(x:Str)(u:ak):Prop :=
 (env.kindOf x=aa .local/\m x=aa u)\/((env.kindOf x=aa .cell\/env.kindOf x=aa .free)/\∃c,env.cells.lookup x=aa c/\h.IsCell c (aa u))
structure Cx.Ok(X:Cx):Prop where
 mod:Mod X.K X.mg X.base
 kind:X.env.scope.kind=.function
 glob:X.env.globals=fv
 blt:X.env.builtins=ID
 above:X.s₀.heap.objs.size<=X.env.locals
 inj:∀x y c,X.env.cells.lookup x=aa c->X.env.cells.lookup y=aa c->x=y
 has:∀x,(X.env.kindOf x=aa .cell\/X.env.kindOf x=aa .free)->∃c,X.env.cells.lookup x=aa c
 uV:∀x c,X.fn x=true->X.env.cells.lookup x=aa c->X.s₀.heap.objs.size<=c
 hd:X.calm=true->X.A.handled=aj
 frames:X.A.frames=aa X.stack
 zt:X.stack=X.outer\/(X.stack=X.env::X.outer/\X.env.frame=aa X.env.locals)
 JO:∀b∈X.ex,b≠X.env.locals/\∀x c,X.env.cells.lookup x=aa c->c≠b
 bs:∀b o,X.base.get? b=aa o->X.s₀.heap.get? b=aa o/\X.H₀ b=aj
 n6:X.base.objs.size<=X.s₀.heap.objs.size
 vN:∀b o,X.base.get? b=aa o->b∉X.ex
 yx:∀b∈X.ex,b∉X.fs
 kl:X.s₀.heap.FunFrames X.base X.outer
 sq:∀b∈X.fs,X.H₀ b=aj
structure Inv(X:Cx)(ae:List (aq×aV))(Z:List (Option V))(H:Hp)(s:au):Prop where
 ok:X.Ok
 os:s.os=X.s₀.os
 bare:nO s.gens
 base:Un X.fs X.ex X.H₀ H X.s₀.heap s.heap
 loc:∃m,s.heap.Ns X.env.locals m/\∀(i:Nat)(x:Str)(v:V),X.N[i]?=aa x->Z[i]?=aa (aa v)->n5 X.env.scope x->∃u,RelV v u/\Look X.env s.heap m x u
 cell:∀x c,X.env.cells.lookup x=aa c->∃v,s.heap.IsCell c v
 free:H X.env.locals=aj
 lp:∀x c,X.env.cells.lookup x=aa c->H c=aj
 pin:∀p∈X.pn++ae,s.heap.get? p.1=aa p.2/\H p.1=aj/\p.1≠X.env.locals/\p.1∉X.fs/\∀v,p.2.data≠.cell v
 aF:cI X.prog X.w H s.heap
 len:Z.length=X.N.length
variable{x:Str}{t' i:Nat}{ch:List aq}{M:Model}{A:bb}{v:V}{Q:Unit->au->Prop}
section
variable{X:Cx}{ae:List (aq×aV)}{Z:List (Option V)}{H H':Hp}{s:au}{h':aT}
def Cx.Ok.zd(ok:X.Ok){o:aV}(e:X.base.get? b=aa o):b∉X.fs:=λhb=>by
 let:=(ok.kl.mem hb).1;rw[e]at this;cases this
def Inv.bs(I:Inv X ae Z H s):∀b o,X.base.get? b=aa o->s.heap.get? b=aa o/\H b=aj:=λb o e =>
 ⟨I.base.keep b o (I.ok.bs b o e).1 (I.ok.bs b o e).2 (I.ok.zd e) (I.ok.vN b o e),I.base.free b o (I.ok.bs b o e).1 (I.ok.bs b o e).2 (I.ok.vN b o e)⟩
def Inv.bk(I:Inv X ae Z H s):∀b o,X.base.get? b=aa o->s.heap.get? b=aa o:=λb o e=>(I.bs b o e).1
def Inv.mod(I:Inv X ae Z H s):Mod X.K X.mg X.base:=I.ok.mod
def Inv.eA(I:Inv X ae Z H s):X.K.In s.heap:=I.ok.mod.DG.keeps I.bk
def Inv.lt(I:Inv X ae Z H s):X.env.locals<s.heap.objs.size:=let⟨_,hn,_⟩:=I.loc;hn.lt
def Inv.sz(I:Inv X ae Z H s):X.s₀.heap.objs.size<=s.heap.objs.size:=df I.ok.above (uw I.lt)
def Inv.YE(I:Inv X ae Z H s)(h:s.heap.objs.size<=a):a∉X.fs:=λhb=>by
 let(_,o,ho,_):=I.ok.kl.mem hb;exact absurd (gz (b8 ho) (df I.sz h)) (kW _)
def Inv.qb(I:Inv X ae Z H s):∀x c,X.env.cells.lookup x=aa c->c≠X.env.locals:=λx c e z=>by
 let(v,o,ho,hd):=I.cell x c e;obtain⟨m,⟨o',es,ep,fy,iK,_⟩,_⟩:=I.loc;rw[z,fy]at ho;cases ho;rw[iK]at hd;cases hd
def Inv.kl(I:Inv X ae Z H s):s.heap.FunFrames X.base X.outer:=by
 let all:∀(l:List Env),(∀b∈jF l,b∈X.fs)->X.s₀.heap.FunFrames X.base l->s.heap.FunFrames X.base l:=by
  intro l;induction l with
  |nil=>intro _ _;trivial
  |cons env r ih=>
   intro hs hl;obtain⟨hk,⟨L,o,hf,hn,ho,hd⟩,hr⟩:=hl;let hL:L∈X.fs:=hs L (by unfold jF;rw[uj,hf];exact gy);let(sl,e):=I.base.slot L o ho (I.ok.sq L hL) hL λz=>I.ok.yx L z hL;exact(hk,⟨L,_,hf,hn,e,hd⟩,ih (λb hb=>hs b (by unfold jF;rw[uj,hf];exact b5 _ hb)) hr)
 exact all X.outer (λ_ hb=>hb) I.ok.kl
def Inv.stack(I:Inv X ae Z H s):s.heap.FunFrames X.base X.stack:=by
 rcases I.ok.zt with e |⟨e,hf⟩
 .rw[e];exact I.kl
 .rw[e];let(m,hn,_):=I.loc;refine .cons (by rw[I.ok.kind];decide) hf hn ?_ I.kl;exact Heap.get?_none_of_le (df I.ok.n6 I.ok.above)
def Inv.zu(I:Inv X ae Z H s):∀b∈jF X.stack,b∈X.env.locals::X.fs:=λb hb=>by
 rcases I.ok.zt with e |⟨e,hf⟩
 .rw[e]at hb;exact b5 _ hb
 .rw[e]at hb;unfold jF at hb;rw[uj,hf]at hb;exact hb
def Inv.Mx(I:Inv X ae Z H s):∀b∈jF X.stack,H b=aj:=λb hb=>by
 rcases bN.mp (I.zu b hb)with e |hb
 .rw[e];exact I.free
 .let(_,o,ho,_):=I.ok.kl.mem hb;exact I.base.free b o ho (I.ok.sq b hb) λz=>I.ok.yx b z hb
def Inv.step{g':Array pP}{d':Drawn}(I:Inv X ae Z H s)
  (jH:∀b∈ch,(b∈X.ex\/X.s₀.heap.objs.size<=b)/\b≠X.env.locals/\(∀x c,X.env.cells.lookup x=aa c->c≠b)/\∀p∈X.pn++ae,p.1≠b)
  (keep:∀b o,b≠X.env.locals->b∉X.fs->b∉ch->s.heap.get? b=aa o->H b=aj->h'.get? b=aa o)
  (slot:∀b o,b≠X.env.locals->b∈X.fs->b∉ch->s.heap.get? b=aa o->H b=aj->∃sl,h'.get? b=aa { o with slots:=sl }) (free:∀b o,b∉ch->s.heap.get? b=aa o->H b=aj->H' b=aj)
  (there:∀b o,b∉ch->s.heap.get? b=aa o->∃o',h'.get? b=aa o')
  (mY:∀b xs,H b=aa (.af xs)->H' b=aa (.af xs)) (lq:∀b o u,H b=aa (.iJ o u)->H' b=aa (.iJ o u)) (mV:∀b ps,H b=aa (.qx ps)->∃more,H' b=aa (.qx (ps++more)))
  (ns:∀m,s.heap.Ns X.env.locals m->h'.Ns X.env.locals m) (aF:cI X.prog X.w H' h') (hg:nO g') :
  Inv X ae Z H' { s with heap:=h',gens:=g',drawn:=d',toks:=t' }:=by
 let LO:∀b o,X.s₀.heap.get? b=aa o->b≠X.env.locals:=λb o e=>eG (gz (b8 e) I.ok.above);let zc:∀b o,X.s₀.heap.get? b=aa o->b∉X.ex->b∉ch:=λb o e hx hb=>by
  rcases(jH b hb).1 with z |z
  .exact hx z
  .exact absurd (gz (b8 e) z) (kW _)
 let cellK:∀x c,X.env.cells.lookup x=aa c->∀v,s.heap.IsCell c v->h'.IsCell c v:=λx c e v ⟨o,ho,hd⟩=>by
  let vJ:c∉ch:=λz=>(jH c z).2.2.1 x c e rfl;by_cases hc:c∈X.fs
  .let(sl,q):=slot c o (I.qb x c e) hc vJ ho (I.lp x c e);exact(_,q,hd)
  .exact(o,keep c o (I.qb x c e) hc vJ ho (I.lp x c e),hd)
 refine(I.ok,I.os,hg,⟨λb o e n hb hx=>?_,λb o e n hb hx=>?_,λb o e n hx=>?_,λb o e hx=>?_,λb xs e=>mY b xs (I.base.mY b xs e),λb o xs e=>lq b o xs (I.base.lq b o xs e),λb ps e=>?_⟩,?_,λx c e=>?_,?_,λx c e=>?_,λp hp=>?_,aF,I.len)
 .exact keep b o (LO b o e) hb (zc b o e hx) (I.base.keep b o e n hb hx) (I.base.free b o e n hx)
 .let(sl,e1):=I.base.slot b o e n hb hx;let(D7,e2):=slot b _ (LO b o e) hb (zc b o e hx) e1 (I.base.free b o e n hx);exact(D7,e2)
 .let(o',e1):=I.base.there b o e hx;exact free b o' (zc b o e hx) e1 (I.base.free b o e n hx)
 .let(o',e1):=I.base.there b o e hx;exact there b o' (zc b o e hx) e1
 .let(m1,e1):=I.base.mV b ps e;let(m2,e2):=mV b _ e1;exact(m1++m2,by rw[e2,Array.append_assoc])
 .let(m,hn,hl):=I.loc;refine(m,ns m hn,λi x v e1 e2 e3=>?_);let(u,r,l):=hl i x v e1 e2 e3;refine(u,r,?_);rcases l with l |⟨k,c,e,z⟩
  .exact .inl l
  .exact .inr ⟨k,c,e,cellK x c e _ z⟩
 .let(v,z):=I.cell x c e;exact(v,cellK x c e v z)
 .obtain⟨m,⟨o,_,_,ho,_⟩,_⟩:=I.loc;exact free _ o (λz=>(jH _ z).2.1 rfl) ho I.free
 .let(v,o,ho,hd):=I.cell x c e;exact free c o (λz=>(jH c z).2.2.1 x c e rfl) ho (I.lp x c e)
 .let(e,n,ne,nf,d):=I.pin p hp;let vJ:p.1∉ch:=λz=>(jH p.1 z).2.2.2 p hp rfl;exact(keep p.1 p.2 ne nf vJ e n,free p.1 p.2 vJ e n,ne,nf,d)
def Inv.un(I:Inv X ae Z H s)(u:Un X.fs [] H H' s.heap h')(aF:cI X.prog X.w H' h'):Inv X ae Z H' { s with heap:=h',toks:=t' }:=by
 obtain⟨m,⟨o,es,ep,ho,r⟩,_⟩:=id I.loc;let(sl,hL):=u.any ho I.free (by simp);exact I.step (g':=s.gens) (d':=s.drawn) (ch:=[]) (λ_ z=>nomatch z) (λb o _ hb _ e n=>u.keep b o e n hb (by simp)) (λb o _ hb _ e n=>u.slot b o e n hb (by simp)) (λb o _ e n=>u.free b o e n (by simp)) (λb o _ e=>u.there b o e (by simp)) u.mY u.lq u.mV (λm' hm=>by
  let(o',d_,CC,fy,r'):=hm;rw[ho]at fy;cases fy;exact(_,d_,CC,hL,r')) aF I.bare
def Inv.call{g':Array pP}{d':Drawn}(I:Inv X ae Z H s)(u:Un (jF X.stack) ch H H' s.heap h')(aF:cI X.prog X.w H' h')(hg:nO g')
  (jH:∀b∈ch,(b∈X.ex\/X.s₀.heap.objs.size<=b)/\b≠X.env.locals/\(∀x c,X.env.cells.lookup x=aa c->c≠b)/\∀p∈X.pn++ae,p.1≠b) :
  Inv X ae Z H' { s with heap:=h',gens:=g',drawn:=d',toks:=t' }:=by
 obtain⟨m,⟨o,es,ep,ho,r⟩,_⟩:=id I.loc;let(sl,hL):=u.any ho I.free λz=>(jH _ z).2.1 rfl;exact I.step (ch:=ch) jH (λb o hL hb hc e n=>u.keep b o e n (λz=>(bN.mp (I.zu b z)).elim hL hb) hc) (λb o _ _ hc e n=>u.any e n hc) (λb o hc e n=>u.free b o e n hc) (λb o hc e=>u.there b o e hc) u.mY u.lq u.mV (λm' hm=>by
  let(o',d_,CC,fy,r'):=hm;rw[ho]at fy;cases fy;exact(_,d_,CC,hL,r')) aF hg
def Inv.turned{it:aq}(I:Inv X ae Z H s)(k:∀b o,b≠it->s.heap.get? b=aa o->h'.get? b=aa o)(hn:H it=aj)(hL:it≠X.env.locals)
  (h1:it∈X.ex\/X.s₀.heap.objs.size<=it) (h2:∀x c,X.env.cells.lookup x=aa c->c≠it) (h3:∀p∈X.pn++ae,p.1≠it):Inv X ae Z H { s with heap:=h',toks:=t' }:=by
 let LP:∀b u,H b=aa u->b≠it:=λb u e z=>by rw[z,hn]at e;cases e
 refine I.step (g':=s.gens) (d':=s.drawn) (ch:=[it]) (λb hb=>?_) (λb o _ _ hc e _=>k b o (λz=>hc (by simp[z])) e) (λb o _ _ hc e _=>⟨o.slots,k b o (λz=>hc (by simp[z])) e⟩) (λ_ _ _ _ n=>n)
  (λb o hc e=>⟨o,k b o (λz=>hc (by simp[z])) e⟩) (λ_ _ e=>e) (λ_ _ _ e=>e) (λb ps e=>⟨#[],by rw[e];simp⟩) (λm hm=>?_) (λb u e=>?_) I.bare
 .let e:b=it:=by simpa using hb
  subst e;exact(h1,hL,h2,h3)
 .let(o,es,ep,ho,r):=hm;exact(o,es,ep,k _ o (l8 hL) ho,r)
 .refine(I.aF b u e).mU (λc v hc q=>k c v ?_ q) (λ_ q=>q) λ_ _ q=>q;rcases hc with z |z
  .rw[z];exact LP b u e
  .exact LP c _ z
def Inv.tok(I:Inv X ae Z H s)(t:Nat):Inv X ae Z H { s with toks:=t }:=I.un (h':=s.heap) (t':=t) Un.refl I.aF
def Inv.kept(I:Inv X ae Z H s)(k:∀b u,s.heap.get? b=aa u->h'.get? b=aa u):Inv X ae Z H { s with heap:=h',toks:=t' }:=I.un (Un.kept k) (I.aF.kept k)
def Inv.laid(I:Inv X ae Z H s)(k:∀b u,s.heap.get? b=aa u->h'.get? b=aa u)(hp:s.heap.objs.size<=a)(new:dz X.prog X.w (upd H a o) h' a o):
  Inv X ae Z (upd H a o) { s with heap:=h',toks:=t' }:=I.un (Un.laid k hp (I.aF.fresh hp)) (I.aF.laid k hp new)
def Inv.write{x e:aq}(I:Inv X ae Z H s)(mu:uR (H x))(he:e=x\/H e=aa (.own x))(k:∀b u,b≠e->s.heap.get? b=aa u->h'.get? b=aa u)(sy:∃u,h'.get? e=aa u)
  (new:dz X.prog X.w (upd H x o) h' x o):Inv X ae Z (upd H x o) { s with heap:=h',toks:=t' }:=I.un (Un.write mu he k sy) (I.aF.write mu he k sy new)
def Inv.L7{L6:List (aq×aV)}(I:Inv X ae Z H s)(h:∀p∈L6,s.heap.get? p.1=aa p.2/\H p.1=aj/\p.1≠X.env.locals/\p.1∉X.fs/\∀v,p.2.data≠.cell v):Inv X L6 Z H s :=
 ⟨I.ok,I.os,I.bare,I.base,I.loc,I.cell,I.free,I.lp,λp hp=>(d0.mp hp).elim (λz=>I.pin p (uv _ z)) (h p),I.aF,I.len⟩
def Ph{N:List Str}(hN:N.Nodup){j:Nat}(a:N[i]?=aa x)(b:N[j]?=aa x):i=j:=by
 let(h1,e1):=dU.mp a;let(h2,e2):=dU.mp b;exact(List.getElem_inj hN).mp (e1.trans e2.symm)
def R4{E:ak->au->Prop}(I:Inv X ae Z H s)(hN:X.N.Nodup)(hi:X.N[i]?=aa x)(hx:Loc X.env.scope x)(r:RelV v u)
  (h:∀s',Inv X ae (Z.set i (aa v)) H s'->(∃a,gS a s.heap s'.heap/\(a=X.env.locals\/X.env.cells.lookup x=aa a))->Q Unit.unit s') (hf:X.fn x=true\/X.env.scope.names.lookup x=aa .local):aG M A (storeName X.env x u) Q E s:=by
 let(m,hn,hl):=id I.loc;let Xd:(X.env.scope.kind == .class ||(X.env.scope.kind == .module&&X.env.locals != X.env.globals))=false:=by rw[I.ok.kind];rfl
 let Kq:i<Z.length:=by rw[I.len];exact(dU.mp hi).1
 let qb:=I.qb;let tracked:∀{a:aq}{h':aT},(∃o,s.heap.get? a=aa o/\H a=aj)->gS a s.heap h'->cI X.prog X.w H h':=λ{a h'} ha hs b ob e=>by
  let(_,_,Km):=ha;refine(I.aF b ob e).mU (λc w' hc q=>(hs.2 c ?_).trans q) (λ_ q=>q) λ_ _ q=>q;rintro rfl;rcases hc with rfl |hc
  .rw[Km]at e;cases e
  .rw[Km]at hc;cases hc
 rcases hx with hk |hk
 .refine wpAny_storeName_local hk hn (λh' De hs=>?_) Xd;let(oL,_,_,XF,_):=id hn;refine h _ ⟨I.ok,I.os,I.bare,⟨λb o e n hb hx=>?_,λb o e n hb hx=>?_,I.base.free,λb o e hx=>?_,I.base.mY,I.base.lq,I.base.mV⟩,⟨_,De,λj y v' e1 e2 e3=>?_⟩,λy c e=>?_,I.free,I.lp,λp hp=>?_,tracked ⟨oL,XF,I.free⟩ hs,by simpa using I.len⟩ ⟨_,hs,.inl rfl⟩
  .exact(hs.2 b (eG (gz (b8 e) I.ok.above))).trans (I.base.keep b o e n hb hx)
  .let(sl,e1):=I.base.slot b o e n hb hx;exact(sl,(hs.2 b (eG (gz (b8 e) I.ok.above))).trans e1)
  .let(o',e1):=I.base.there b o e hx;exact(o',(hs.2 b (eG (gz (b8 e) I.ok.above))).trans e1)
  .by_cases hj:j=i
   .subst hj;rw[hi]at e1;cases e1;rw[xD Kq]at e2;cases e2;exact(u,r,.inl ⟨hk,by simp⟩)
   .rw[xC (l8 hj)]at e2;let(u',r',q):=hl j y v' e1 e2 e3;refine(u',r',?_);rcases q with⟨k,e⟩|⟨k,c,e,z⟩
    .refine .inl ⟨k,?_⟩;let:y≠x:=λe=>hj (Ph hN e1 (e▸hi));simp[this,e]
    .exact .inr ⟨k,c,e,z.sameBut hs (qb y c e)⟩
  .let(w',z):=I.cell y c e;exact(w',z.sameBut hs (qb y c e))
  .let(e,n,ne,nf,d):=I.pin p hp;exact((hs.2 p.1 ne).trans e,n,ne,nf,d)
 .let C5:X.fn x=true:=by
   rcases hf with z |z
   .exact z
   .rw[z]at hk;cases hk
  let(c,hc):=I.ok.has x (.inl hk);let(w',z):=I.cell x c hc;refine wpAny_storeName_cell I.ok.kind hk hc z (λh' qi hs=>?_);let(oc,yM,XG):=id z;refine h { s with heap:=h' } ⟨I.ok,I.os,I.bare,⟨λb o e n hb hx=>?_,λb o e n hb hx=>?_,I.base.free,λb o e hx=>?_,I.base.mY,I.base.lq,I.base.mV⟩,⟨m,hn.sameBut hs (l8 (qb x c hc)),λj y v' e1 e2 e3=>?_⟩,λy c' e=>?_,I.free,I.lp,λp hp=>?_,tracked ⟨oc,yM,I.lp x c hc⟩ hs,by simpa using I.len⟩ ⟨c,hs,.inr hc⟩
  .exact(hs.2 b (eG (gz (b8 e) (I.ok.uV x c C5 hc)))).trans (I.base.keep b o e n hb hx)
  .let(sl,e1):=I.base.slot b o e n hb hx;exact(sl,(hs.2 b (eG (gz (b8 e) (I.ok.uV x c C5 hc)))).trans e1)
  .let(o',e1):=I.base.there b o e hx;exact(o',(hs.2 b (eG (gz (b8 e) (I.ok.uV x c C5 hc)))).trans e1)
  .by_cases hj:j=i
   .subst hj;rw[hi]at e1;cases e1;rw[xD Kq]at e2;cases e2;exact(u,r,.inr ⟨.inl hk,c,hc,qi⟩)
   .rw[xC (l8 hj)]at e2;let(u',r',q):=hl j y v' e1 e2 e3;refine(u',r',?_);rcases q with q |⟨k,c',e,z'⟩
    .exact .inl q
    .refine .inr ⟨k,c',e,z'.sameBut hs ?_⟩;rintro rfl;exact hj (Ph hN e1 (I.ok.inj _ _ _ e hc▸hi))
  .by_cases Kg:c'=c
   .subst Kg;exact(_,qi)
   .let(w2,z2):=I.cell y c' e;exact(w2,z2.sameBut hs Kg)
  .let(e,n,ne,nf,d):=I.pin p hp;refine((hs.2 p.1 ?_).trans e,n,ne,nf,d);intro q;rw[q,yM]at e;let q':oc=p.2:=dE e;exact d w' (by rw[<-q'];exact XG)
def Gv{E:ak->au->Prop}(I:Inv X ae Z H s)(hN:X.N.Nodup)(hi:X.N[i]?=aa x)(hx:Loc X.env.scope x)(r:RelV v u)
  (h:∀s',Inv X ae (Z.set i (aa v)) H s'->Q Unit.unit s') (hf:X.fn x=true\/X.env.scope.names.lookup x=aa .local):aG M A (storeName X.env x u) Q E s :=
 R4 I hN hi hx r (λs' I' _=>h s' I') hf
def Inv.Ju{s':au}(I:Inv X ae Z H s)(ho:s'.os=s.os)(u:Un (jF X.stack) ch H H' s.heap s'.heap)(aF:cI X.prog X.w H' s'.heap)(hg:nO s'.gens)
  (jH:∀b∈ch,(b∈X.ex\/X.s₀.heap.objs.size<=b)/\b≠X.env.locals/\(∀x c,X.env.cells.lookup x=aa c->c≠b)/\∀p∈X.pn++ae,p.1≠b):Inv X ae Z H' s':=by
 let(h',g',d',t',o'):=s';let e:o'=s.os:=ho;subst e;exact I.call (g':=g') (t':=t') (d':=d') u aF hg jH
end
@[reducible] def XK:=ak->Option aq->Hp->Prop
@[reducible] def St:=List (Option V)
@[reducible] def VK:=V->Hp->Prop
@[reducible] def TE:=St->Hp->VK->Prop
@[reducible] def TT:=St->Hp->(Bool->Hp->Prop)->Prop
@[reducible] def TA:=St->Hp->(List V->Hp->Prop)->Prop
set_option genInjectivity false in
structure v7 where
 nx:St->Hp->Prop
 rt:VK
 bk:St->Hp->Prop:=λ_ _=>False
 ct:St->Hp->Prop:=λ_ _=>False
@[reducible] def TS:=v7->St->Hp->Prop
def EP(X:Cx)(ae:List (aq×aV))(Z:St)(Q:VK)(u:ak)(s':au):Prop:=∃v H',Inv X ae Z H' s'/\RelV v u/\Q v H'
def TP(X:Cx)(ae:List (aq×aV))(Z:St)(Q:Bool->Hp->Prop)(b:Bool)(s':au):Prop:=∃H',Inv X ae Z H' s'/\Q b H'
def AP(X:Cx)(ae:List (aq×aV))(Z:St)(Q:List V->Hp->Prop)(us:List ak)(s':au):Prop:=∃vs H',Inv X ae Z H' s'/\ba vs us/\Q vs H'
def SP(X:Cx)(ae:List (aq×aV))(D:v7)(f:Flow)(s':au):Prop :=
 match f with
 |.next=>∃Z' H',Inv X ae Z' H' s'/\D.nx Z' H'
 |.brk=>∃Z' H',Inv X ae Z' H' s'/\D.bk Z' H'
 |.cont=>∃Z' H',Inv X ae Z' H' s'/\D.ct Z' H'
 |.ret u=>∃v Z' H',Inv X ae Z' H' s'/\RelV v u/\D.rt v H'
def PE(X:Cx)(e:Expr)(t:TE):Prop :=
 ∀(ae:List (aq×aV)) (s:au) (Z:St) (H:Hp) (Q:VK),Inv X ae Z H s->t Z H Q->aG (aN X.prog X.w) X.A (eval e X.env) (EP X ae Z Q) X.xe s
def PT(X:Cx)(e:Expr)(t:TT):Prop :=
 ∀(ae:List (aq×aV)) (s:au) (Z:St) (H:Hp) (Q:Bool->Hp->Prop),Inv X ae Z H s->t Z H Q->aG (aN X.prog X.w) X.A (isTrue e X.env (eval e X.env)) (TP X ae Z Q) X.xe s
def PW(X:Cx)(e:Expr)(t:TT):Prop :=
 ∀(whole:fh ak)(ae:List (aq×aV)) (s:au) (Z:St) (H:Hp) (Q:Bool->Hp->Prop),Inv X ae Z H s->t Z H Q->aG (aN X.prog X.w) X.A (isTrue e X.env whole) (TP X ae Z Q) X.xe s
variable{X:Cx}{e:Expr}
def PW.pt{t:TT}(h:PW X e t):PT X e t:=h _
def PA(X:Cx)(es:List Expr)(t:TA):Prop :=
 ∀(pos:aU)(ae:List (aq×aV)) (s:au) (Z:St) (H:Hp) (Q:List V->Hp->Prop),Inv X ae Z H s->t Z H Q->aG (aN X.prog X.w) X.A (spliced (dW pos (bA es X.env))) (AP X ae Z Q) X.xe s
def PS(X:Cx)(st:bW)(t:TS):Prop :=
 ∀(ae:List (aq×aV)) (s:au) (Z:St) (H:Hp) (D:v7),Inv X ae Z H s->t D Z H->aG (aN X.prog X.w) X.A (exec st X.env) (SP X ae D) X.xe s
def fF(X:Cx)(st:List bW)(t:TS):Prop :=
 ∀(ae:List (aq×aV)) (s:au) (Z:St) (H:Hp) (D:v7),Inv X ae Z H s->t D Z H->aG (aN X.prog X.w) X.A (execs st X.env) (SP X ae D) X.xe s
variable{s:au}
def bf{O:Type}{t:fh O}{Q Q':O->au->Prop}{E:ak->au->Prop}(h:aG M A t Q E s)(hQ:∀a s,Q a s->Q' a s):aG M A t Q' E s:=k7 h hQ λ_ _ x=>x
variable{ae:List (aq×aV)}{Z:St}{op:kZ}{t:TE}{c:Expr}
section
variable{X:Cx}
def bin{a b:Expr}{ta tb:TE}(ha:PE X a ta)(hb:PE X b tb){R:V->V->Hp->Prop}(I:Inv X ae Z H s)(h:ta Z H λx H1=>tb Z H1 λy H2=>R x y H2)
  {O:Type} {Q:O->au->Prop} {f:ak->ak->fh O}
  (hf:∀v u s2 x y H2,Inv X ae Z H2 s2->RelV x v->RelV y u->R x y H2->aG (aN X.prog X.w) X.A (f v u) Q X.xe s2) :
  aG (aN X.prog X.w) X.A (eval a X.env) (λv s₁=>aG (aN X.prog X.w) X.A (eval b X.env) (λu s₂=>aG (aN X.prog X.w) X.A (f v u) Q X.xe s₂) X.xe s₁) X.xe s:=by
 refine bf (ha ae s Z H _ I h) λv s1 h_=>?_;let(x,H1,I1,r1,q1):=h_;refine bf (hb ae s1 Z H1 _ I1 q1) λu s2 h_=>?_;let(y,H2,I2,r2,q2):=h_;exact hf v u s2 x y H2 I2 r1 r2 q2
def ZK(i:Nat):TE:=λZ H Q=>∃v,Z[i]?=aa (aa v)/\Q v H
def tC(v:V):TE:=λ_ H Q=>Q v H
def xt8{pos:aU}(hN:X.N[i]?=aa x)(hv:n5 X.env.scope x)(hd:(x==("__debug__" : Str))=false)(i_:(x==("__classdict__" : Str))=false):PE X (.Name x pos) (ZK i):=by
 intro ae s Z H Q I h;let(v,e,h):=h;let(m,hn,hl):=I.loc;let(u,r,l):=hl i x v hN e hv;let fin:EP X ae Z Q u s:=⟨v,H,I,r,h⟩;rcases l with⟨hk,hm⟩|⟨hk,c,hc,yC⟩
 .exact IU (VP I.ok.kind hk hn hm fin) hd
 .rcases hk with hk |hk
  .exact IU (VO I.ok.kind hk hc yC fin) hd
  .exact IU (wpAny_loadName_free I.ok.kind hk hc yC fin i_) hd
def Oo{i j pos}:PE X (.Constant (.int i) j pos) (tC (.int i)):=λ_ _ _ H _ I h=>wpAny_Constant_int ⟨.int i,H,I.tok _,⟨_,rfl⟩,h⟩
def xQ1{b j pos}:PE X (.Constant (.bool b) j pos) (tC (.bl b)):=λ_ _ _ H _ I h=>Constant_bool ⟨.bl b,H,I,rfl,h⟩
def xt3{j pos}:PE X (.Constant .none j pos) (tC .aL):=λ_ _ _ H _ I h=>Constant_none ⟨.aL,H,I,rfl,h⟩
def Oq{x j pos}:PE X (.Constant (.str x) j pos) (tC (.str x)):=λ_ _ _ H _ I h=>Calls.Constant_str ⟨.str x,H,I.tok _,⟨_,rfl⟩,h⟩
def Gl(X:Cx)(x:Str):Prop:=X.env.kindOf x=aa .globalImplicit
def Ff{E:ak->au->Prop}{pos:aU}{Q:ak->au->Prop}(I:Inv X ae Z H s)(hg:Gl X x)(hm:X.mg x=aa u)(h:Q u s)
  (hd:(x==("__debug__" : Str))=false):aG (aN X.prog X.w) X.A (eval (.Name x pos) X.env) Q E s :=
 Um I.ok.kind hg (Calls.loadGlobal_global (by rw[I.ok.glob];exact I.mod.glob.keeps I.bk) hm h) hd
def oR{E:ak->au->Prop}{pos:aU}{Q:ak->au->Prop}(I:Inv X ae Z H s)(hg:Gl X x)(hm:X.mg x=aj)(hv:gD x=aa u)(h:Q u s)
  (hn:x ≠ "__name__" := by decide) (hd:(x==("__debug__" : Str))=false:=by decide):aG (aN X.prog X.w) X.A (eval (.Name x pos) X.env) Q E s:=by
 let(mb,h1,h2):=I.mod.blt;exact Um I.ok.kind hg (Calls.loadGlobal_builtin (by rw[I.ok.glob];exact I.mod.glob.keeps I.bk) hm (by rw[I.ok.blt];exact h1.keeps I.bk) ((h2 x hn).trans hv) h) hd
def Fi{pos:aU}(hg:Gl X x)(hm:X.mg x=aa u)(r:RelV v u)(hd:(x==("__debug__" : Str))=false):PE X (.Name x pos) (tC v) :=
 λ_ _ _ H _ I h=>Ff I hg hm ⟨v,H,I,r,h⟩ hd
def xa2{pos:aU}(hg:Gl X x)(hm:X.mg x=aj)(hv:gD x=aa u)(r:RelV v u)(hn:x ≠ "__name__")(hd:(x==("__debug__" : Str))=false):PE X (.Name x pos) (tC v) :=
 λ_ _ _ H _ I h=>oR I hg hm hv ⟨v,H,I,r,h⟩ hn hd
variable{a b:Expr}{ta tb:TE}{pos:aU}
def PC(X:Cx)(op:kZ)(a b:Expr)(t:TE):Prop :=
 ∀(ae:List (aq×aV)) (s:au) (Z:St) (H:Hp) (Q:VK),Inv X ae Z H s->t Z H Q ->
  aG (aN X.prog X.w) X.A (eval a X.env) (λv s₁=>aG (aN X.prog X.w) X.A (eval b X.env) (λu s₂=>aG (aN X.prog X.w) X.A (compareOp op v u) (EP X ae Z Q) X.xe s₂) X.xe s₁) X.xe s
def xE0(b:Expr)(h:op≠.In)(h2:op≠.NotIn):nU op b=false:=by
 let e1:(op==CmpOp.In)=false:=by cases op<;>first |rfl |exact absurd rfl h
 let e2:(op==CmpOp.NotIn)=false:=by cases op<;>first |rfl |exact absurd rfl h2
 cases b<;>simp[nU,e1,e2]
def tB(t:TE):TT:=λZ H Q=>t Z H λx H1=>∃c,x=.bl c/\Q c H1
def ag2(h:PC X op a b t)(h1:nU op b=false):PT X (.Compare a [op] [b] pos) (tB t):=by
 intro ae s Z H Q I hw;refine VN (bf (h ae s Z H _ I hw) λv s1 h1=>bf h1 λu s2 h2=>bf h2 λc s3 ⟨x,H1,I1,r1,q1⟩=>?_) h1;let(d,rfl,q):=q1;cases r1;exact mn ⟨H1,I1,q⟩
def xv1(h:PE X e t)(he:∀whole,isTrue e X.env whole=(do let v <-whole;uJ e.pos;jA [v] (truthy v))):PT X e (tB t):=by
 intro ae s Z H Q I hw;refine isTrue_plain (bf (h ae s Z H _ I hw) λv s1 ⟨x,H1,I1,r1,q1⟩=>?_) (he _);let(d,rfl,q):=q1;cases r1;exact mn ⟨H1,I1,q⟩
variable{tA zz:TT}{cx:List Expr}
def Zv(t u:TT):TT:=λZ H Q=>t Z H λc H1=>if c=true then u Z H1 Q else Q false H1
def ZD(t u:TT):TT:=λZ H Q=>t Z H λc H1=>if c=true then Q true H1 else u Z H1 Q
def ZC(t:TT):TT:=λZ H Q=>t Z H λc H1=>Q (!c) H1
def xb7(ha:PT X a tA):PW X (.BoolOp .And [a] pos) tA:=by
 intro wh ae s Z H Q I h;refine isTrue_and (bf (ha ae s Z H Q I h) λc s1 e=>?_);cases c with
 |true=>exact isTrue_and_nil e
 |false=>exact e
def xv3(ha:PT X a tA):PW X (.BoolOp .Or [a] pos) tA:=by
 intro wh ae s Z H Q I h;refine isTrue_or (bf (ha ae s Z H Q I h) λc s1 e=>?_);cases c with
 |false=>exact isTrue_or_nil e
 |true=>exact e
def xv2(ha:PT X a tA)(hb:PW X (.BoolOp .And (b::cx) pos) zz):PW X (.BoolOp .And (a::b::cx) pos) (Zv tA zz):=by
 intro wh ae s Z H Q I h;refine isTrue_and (bf (ha ae s Z H _ I h) λc s1 h_=>?_);let(H1,I1,q1):=h_;cases c with
 |true=>exact hb wh ae s1 Z H1 Q I1 q1
 |false=>exact(H1,I1,q1)
def xQ8(ha:PT X a tA)(hb:PW X (.BoolOp .Or (b::cx) pos) zz):PW X (.BoolOp .Or (a::b::cx) pos) (ZD tA zz):=by
 intro wh ae s Z H Q I h;refine isTrue_or (bf (ha ae s Z H _ I h) λc s1 h_=>?_);let(H1,I1,q1):=h_;cases c with
 |true=>exact(H1,I1,q1)
 |false=>exact hb wh ae s1 Z H1 Q I1 q1
def xv0(ha:PT X a tA):PT X (.UnaryOp .Not a pos) (ZC tA):=by
 intro ae s Z H Q I h;exact isTrue_not (ha ae s Z H (λc H1=>Q (!c) H1) I h)
def xS6(ta tb:TE):TE:=λZ H Q=>ta Z H λx H1=>∃c,x=.bl c/\if c=true then tb Z H1 Q else Q (.bl false) H1
def ZE(ta tb:TE):TE:=λZ H Q=>ta Z H λx H1=>∃c,x=.bl c/\if c=true then Q (.bl true) H1 else tb Z H1 Q
def xT1(ta:TE):TE:=λZ H Q=>ta Z H λx H1=>∃c,x=.bl c/\Q (.bl (!c)) H1
def xt5{op}(h:PE X a t):PE X (.BoolOp op [a] pos) t:=λae s Z H Q I hw=>BoolOp_one (h ae s Z H Q I hw)
def xs9(ha:PE X a ta)(hb:PE X (.BoolOp .And (b::cx) pos) tb):PE X (.BoolOp .And (a::b::cx) pos) (xS6 ta tb):=by
 intro ae s Z H Q I h;refine BoolOp_and (bf (ha ae s Z H _ I h) λv s1 h_=>?_);let(x,H1,I1,r1,q1):=h_;let(c,rfl,q1):=q1;cases r1;refine mn ?_;cases c with
 |true=>exact hb ae s1 Z H1 Q I1 q1
 |false=>exact(.bl false,H1,I1,rfl,q1)
def xQ3(ha:PE X a ta)(hb:PE X (.BoolOp .Or (b::cx) pos) tb):PE X (.BoolOp .Or (a::b::cx) pos) (ZE ta tb):=by
 intro ae s Z H Q I h;refine BoolOp_or (bf (ha ae s Z H _ I h) λv s1 h_=>?_);let(x,H1,I1,r1,q1):=h_;let(c,rfl,q1):=q1;cases r1;refine mn ?_;cases c with
 |false=>exact hb ae s1 Z H1 Q I1 q1
 |true=>exact(.bl true,H1,I1,rfl,q1)
def xt4(ha:PE X a ta):PE X (.UnaryOp .Not a pos) (xT1 ta):=by
 intro ae s Z H Q I h;refine UnaryOp_ (bf (ha ae s Z H _ I h) λv s1 h_=>?_);let(x,H1,I1,r1,q1):=h_;let(c,rfl,q1):=q1;cases r1;exact not_of (mn ⟨.bl (!c),H1,I1,rfl,q1⟩)
def zD(t:TT)(ta tb:TE):TE:=λZ H Q=>t Z H λc H1=>if c=true then ta Z H1 Q else tb Z H1 Q
def yI2(hc:PT X c tA)(ha:PE X a ta)(hb:PE X b tb):PE X (.IfExp c a b pos) (zD tA ta tb):=by
 intro ae s Z H Q I h;refine wpAny_IfExp (bf (hc ae s Z H _ I h) λd s1 h_=>?_);let(H1,I1,q1):=h_;cases d with
 |true=>exact ha ae s1 Z H1 Q I1 q1
 |false=>exact hb ae s1 Z H1 Q I1 q1
end
def bL(K:aQ)(H:Hp)(a:aq)(xs:List V):Prop :=
 Rd H a (.ai xs) \/
  ∃(o:aV)(aw:Array ak)(n:Nat),K.lookup a=aa o/\o.cls=.type "list" /\ o.dict=aj/\o.data=.seq aw n/\aw.size<=a9/\ba xs aw.toList
def bR(K:aQ)(H:Hp)(a:aq)(xs:List V):Prop :=
 Rd H a (.af xs) \/
  ∃(o:aV)(aw:Array ak)(n:Nat),K.lookup a=aa o/\o.cls=.type "tuple" /\ o.dict=aj/\o.data=.seq aw n/\aw.size<=a9/\ba xs aw.toList
abbrev V7:ak->Option V
 |.none=>aa .aL
 |.bool b=>aa (.bl b)
 |.int i _=>aa (.int i)
 |.str x _=>aa (.str x)
 |.bytes b _=>aa (.Cv b)
 |.float b _=>aa (.sj b)
 |.ref a=>aa (.ref a)
 |.type n=>aa (.ty n)
 |_=>aj
def RelV.abs{x:V}(r:RelV x u):V7 u=aa x:=by
 cases x with
 |aL=>cases r;rfl
 |bl _=>cases r;rfl
 |int _=>let(t,rfl):=r;rfl
 |str _=>let(t,rfl):=r;rfl
 |Cv _=>let(t,rfl):=r;rfl
 |sj _=>let(t,rfl):=r;rfl
 |ref _=>cases r;rfl
 |ty _=>cases r;rfl
variable{y:V}
def RelV.inj{x:V}(r:RelV x u)(q:RelV y u):x=y:=dE (r.abs.symm.trans q.abs)
def ba.inj:∀{xs ys:List V}{us:List ak},ba xs us->ba ys us->xs=ys
 |_,_,_,.nil,.nil=>rfl
 |_,_,_,.cons r t,.cons r' t'=>by rw[r.inj r',ba.inj t t']
variable{K:aQ}
section
variable{X:Cx}{ae:List (aq×aV)}{Z:St}{H:Hp}{s:au}{a:aq}{xs ys:List V}
def bL.of(h:H a=aa (.ai xs)):bL K H a xs:=.inl (.inl h)
def bR.of(h:H a=aa (.af xs)):bR K H a xs:=.inl (.inl h)
def Inv.list(I:Inv X ae Z H s)(h:bL X.K H a xs):∃aw:List ak,ba xs aw/\PlainL s.heap a aw.toArray/\xs.length<=a9:=by
 rcases h with h |⟨o,aw,n,hk,hc,hd,hs,hz,r⟩
 .let(z,aw,n,r,e):=h.ok I.aF;exact(aw,r,⟨_,n,e,rfl,rfl,rfl⟩,z)
 .refine(aw.toList,r,⟨o,n,I.eA a o hk,hc,hd,by simpa using hs⟩,?_);let e:=r.length;simp only[jt]at e;lia
def Inv.tuple(I:Inv X ae Z H s)(h:bR X.K H a xs):∃aw:List ak,ba xs aw/\IsTup s.heap a aw.toArray/\xs.length<=a9:=by
 rcases h with h |⟨o,aw,n,hk,hc,_,hs,hz,r⟩
 .let(z,aw,r,ob,p1,p2,_,p3):=h.ok I.aF;exact(aw,r,⟨ob,p1,p2,p3⟩,z)
 .refine(aw.toList,r,⟨o,I.eA a o hk,hc,n,by simpa using hs⟩,?_);let e:=r.length;simp only[jt]at e;lia
def Inv.vG(I:Inv X ae Z H s)(h:bL X.K H a xs)(h':bL X.K H a ys):xs=ys:=by
 obtain⟨aw,r,⟨o,n,e,_,_,d⟩,_⟩:=I.list h;obtain⟨its',r',⟨o',n',e',_,_,d'⟩,_⟩:=I.list h';rw[e]at e';cases e';rw[d]at d';injection d' with d1 _;let:aw=its':=by simpa using congrArg pB d1
 subst this;exact r.inj r'
def Inv.Ed(I:Inv X ae Z H s)(h:bR X.K H a xs)(h':bR X.K H a ys):xs=ys:=by
 obtain⟨aw,r,⟨o,e,_,n,d⟩,_⟩:=I.tuple h;obtain⟨its',r',⟨o',e',_,n',d'⟩,_⟩:=I.tuple h';rw[e]at e';cases e';rw[d]at d';injection d' with d1 _;let:aw=its':=by simpa using congrArg pB d1
 subst this;exact r.inj r'
end
@[reducible] def Cx.lI(X:Cx)(E:ak->au->Prop):Cx:={ X with xe:=E }
@[reducible] def Cx.vO(X:Cx):Cx:=X.lI λ_ _=>False
def Cx.Ok.lI(ok:X.Ok)(E:ak->au->Prop):(X.lI E).Ok :=
 ⟨ok.mod,ok.kind,ok.glob,ok.blt,ok.above,ok.inj,ok.has,ok.uV,ok.hd,ok.frames,ok.zt,ok.JO,ok.bs,ok.n6,ok.vN,ok.yx,ok.kl,ok.sq⟩
theorem Cx.Ok.oK{E:ak->au->Prop}(ok:(X.lI E).Ok):X.Ok :=
 ⟨ok.mod,ok.kind,ok.glob,ok.blt,ok.above,ok.inj,ok.has,ok.uV,ok.hd,ok.frames,ok.zt,ok.JO,ok.bs,ok.n6,ok.vN,ok.yx,ok.kl,ok.sq⟩
section
variable{X:Cx}{ae:List (aq×aV)}{Z:St}{H:Hp}{s:au}{E:ak->au->Prop}
def Inv.lI(I:Inv X ae Z H s)(E:ak->au->Prop):Inv (X.lI E) ae Z H s:=⟨I.ok.lI E,I.os,I.bare,I.base,I.loc,I.cell,I.free,I.lp,I.pin,I.aF,I.len⟩
def Inv.oK(I:Inv (X.lI E) ae Z H s):Inv X ae Z H s:=⟨I.ok.oK,I.os,I.bare,I.base,I.loc,I.cell,I.free,I.lp,I.pin,I.aF,I.len⟩
def SP.oK{D:v7}{f:Flow}{s':au}(h:SP (X.lI E) ae D f s'):SP X ae D f s':=by
 cases f with
 |next=>let(Z',H',I,q):=h;exact(Z',H',I.oK,q)
 |brk=>let(Z',H',I,q):=h;exact(Z',H',I.oK,q)
 |cont=>let(Z',H',I,q):=h;exact(Z',H',I.oK,q)
 |ret u=>let(v,Z',H',I,r,q):=h;exact(v,Z',H',I.oK,r,q)
def fF.vO{st:List bW}{t:TS}(h:fF X.vO st t):fF X st t:=λae s Z H D I hw =>
 k7 (h ae s Z H D (I.lI _) hw) (λ_ _ q=>q.oK) λ_ _ z=>ju z
end
section
variable{X:Cx}{st:bW}{cx:List bW}{t u:TS}{e:Expr}{te:TE}{pos:aU}
def ZA:TS:=λD Z H=>D.nx Z H
def ZF(t u:TS):TS:=λD Z H=>t { D with nx:=u D } Z H
def xb3:fF X [] ZA:=λ_ _ Z H _ I h=>IV ⟨Z,H,I,h⟩
def yI8(h1:PS X st t)(h2:fF X cx u):fF X (st::cx) (ZF t u):=by
 intro ae s Z H D I h;refine wpAny_execs_cons (bf (h1 ae s Z H { D with nx:=u D } I h) λf s1 q=>?_)
 cases f with
 |next=>
  let(Z',H',I',q):=q;exact h2 ae s1 Z' H' D I' q
 |ret v=>exact q
 |brk=>exact q
 |cont=>exact q
def Inv.quiet(I:Inv X ae Z H s):interactive X.env=false:=by simp[interactive,I.ok.kind]
def xS8(te:TE):TS:=λD Z H=>te Z H λ_ H1=>D.nx Z H1
def xb1(he:PE X e te)(hs:pZ e aj pos.line X.env=pure false):PS X (.Expr e pos) (xS8 te):=by
 intro ae s Z H D I h;exact wpAny_Expr_any (bf (he ae s Z H _ I h) λv s1 ⟨x,H1,I1,r1,q1⟩=>⟨Z,H1,I1,q1⟩) I.quiet hs
def zF(te:TE):TS:=λD Z H=>te Z H D.rt
def xu8(he:PE X e te):PS X (.Return (aa e) pos) (zF te):=by
 intro ae s Z H D I h;exact wpAny_Return_some (bf (he ae s Z H _ I h) λv s1 ⟨x,H1,I1,r1,q1⟩=>⟨x,Z,H1,I1,r1,q1⟩)
def Zy(c:TT)(t u:TS):TS:=λD Z H=>c Z H λb H1=>if b=true then t D Z H1 else u D Z H1
def xQ7{a b:List bW}{tc:TT}(hc:PT X c tc)(ha:fF X a t)(hb:fF X b u):PS X (.If c a b pos) (Zy tc t u):=by
 intro ae s Z H D I h;refine wpAny_If (bf (hc ae s Z H _ I h) λd s1 h_=>?_);let(H1,I1,q1):=h_;cases d with
 |true=>exact ha ae s1 Z H1 D I1 q1
 |false=>exact hb ae s1 Z H1 D I1 q1
end
@[reducible] def TG:=V->St->Hp->(St->Hp->Prop)->Prop
@[reducible] def mv:=List V->St->Hp->(St->Hp->Prop)->Prop
def PG(X:Cx)(target:Expr)(t:TG):Prop :=
 ∀(ae:List (aq×aV)) (s:au) (Z:St) (H:Hp) (v:V) (u:ak) (Q:St->Hp->Prop),Inv X ae Z H s->RelV v u->t v Z H Q ->
  aG (aN X.prog X.w) X.A (assign target X.env u) (λ_ s'=>∃Z' H',Inv X ae Z' H' s'/\Q Z' H') X.xe s
def iF(X:Cx)(ts:List Expr)(t:mv):Prop :=
 ∀(ae:List (aq×aV)) (s:au) (Z:St) (H:Hp) (vs:List V) (us:List ak) (Q:St->Hp->Prop),Inv X ae Z H s->ba vs us->t vs Z H Q ->
  aG (aN X.prog X.w) X.A (assignInOrder ((i0 ts X.env).map (·.2)) us) (λ_ s'=>∃Z' H',Inv X ae Z' H' s'/\Q Z' H') X.xe s
@[reducible] def zY:=V->V->V->Hp->(Hp->Prop)->Prop
def oM(X:Cx)(t:zY):Prop :=
 ∀(ae:List (aq×aV)) (s:au) (Z:St) (H:Hp) (o i v:V) (ov iv u:ak) (Q:Hp->Prop),Inv X ae Z H s->RelV o ov->RelV i iv->RelV v u->t o i v H Q ->
  aG (aN X.prog X.w) X.A (setItem ov iv u) (λ_ s'=>∃H',Inv X ae Z H' s'/\Q H') X.xe s
@[reducible] def yo:=V->V->Hp->VK->Prop
def yn(X:Cx)(op:me)(t:yo):Prop :=
 ∀(ae:List (aq×aV)) (s:au) (Z:St) (H:Hp) (x y:V) (v u:ak) (Q:VK),Inv X ae Z H s->RelV x v->RelV y u->t x y H Q ->
  aG (aN X.prog X.w) X.A (inplaceOp op v u) (EP X ae Z Q) X.xe s
variable{tg:Expr}{te:TE}{body:List bW}
section
variable{X:Cx}{pos:aU}
def E8(i:Nat):TG:=λv Z H Q=>Q (Z.set i (aa v)) H
def Qy(hN:X.N.Nodup)(hi:X.N[i]?=aa x)(hx:Loc X.env.scope x)(hf:X.fn x=true\/X.env.scope.names.lookup x=aa .local):PG X (.Name x pos) (E8 i):=by
 intro ae s Z H v u Q I r h;exact VJ (Gv I hN hi hx r (λs' I'=>⟨_,H,I',h⟩) hf)
def WD:mv:=λvs Z H Q=>vs=[]/\Q Z H
def xK6(t:TG)(u:mv):mv:=λvs Z H Q=>∃v r,vs=v::r/\t v Z H λZ' H'=>u r Z' H' Q
def xa6:iF X [] WD:=by
 intro ae s Z H vs us Q I r h;let(e,h):=h;subst e;cases r;exact assignInOrder_nil ⟨Z,H,I,h⟩
def yI4{es:List Expr}{t:TG}{u:mv}(h1:PG X e t)(h2:iF X es u)
  (hs:(i0 (e::es) X.env).map (·.2)=assign e X.env::(i0 es X.env).map (·.2)):iF X (e::es) (xK6 t u):=by
 intro ae s Z H vs us Q I r h;let(v,vr,e1,h):=h;subst e1;cases r with
 |cons r rr=>
  rw[hs];refine assignInOrder_cons (bf (h1 ae s Z H _ _ _ I r h) λ_ s1 h_=>?_);let(σ1,H1,I1,q1):=h_;exact h2 ae s1 σ1 H1 _ _ Q I1 rr q1
def WH(K:aQ)(n:Nat)(t:mv):TG:=λv Z H Q=>∃a xs,v=.ref a/\bR K H a xs/\xs.length=n/\t xs Z H Q
def xu0{es:List Expr}{k:Nat}{t:mv}{n:Nat}(hc:X.calm=true)(h:iF X es t)
  (hn:(i0 es X.env).length=n) (jb:(i0 es X.env).findIdx? (·.1)=aj):PG X (.Tuple es k pos) (WH X.K n t):=by
 intro ae s Z H v u Q I r hw;let(a,xs,e1,hq,hl,hw):=hw;subst e1;cases r;let(aw,rv,ht,hz):=I.tuple hq;refine assign_Tuple_tuple (I.ok.hd hc) ht (by simp[hn,<-hl,rv.length]) jb λh' hx=>?_;let I1:Inv X ae Z H { s with heap:=h' }:=I.kept (t':=s.toks) λb o e=>hx b o (eG (b8 e)) e
 exact h ae _ Z H xs _ Q I1 (by simpa using rv) hw
def WG(to ti:TE)(t:zY):TG:=λv Z H Q=>to Z H λo H1=>ti Z H1 λi H2=>t o i v H2 λH3=>Q Z H3
def xt9{o i:Expr}{to ti:TE}{t:zY}(ho:PE X o to)(hi:PE X i ti)(hs:oM X t)
  (ha:∀v,assign (.Subscript o i pos) X.env v=(do
   let ov <-jA [v] (eval o X.env)
   let iv <-jA [v,ov] (eval i X.env)
   uJ pos
   jA [v,ov,iv] (setItem ov iv v)
   release [v,ov,iv] [])):PG X (.Subscript o i pos) (WG to ti t):=by
 intro ae s Z H v u Q I r h;rw[ha];refine aE (kc (bf (ho ae s Z H _ I h) λov s1 h_=>?_));let(x,H1,I1,r1,q1):=h_;refine aE (kc (bf (hi ae s1 Z H1 _ I1 q1) λiv s2 h_=>?_));let(y,H2,I2,r2,q2):=h_;refine aE (I0 (aE (kc (bf (hs ae s2 Z H2 x y v ov iv u _ I2 r1 r2 r q2) λ_ s3 h_=>?_))));let(H3,I3,q3):=h_;exact wpAny_release ⟨Z,H3,I3,q3⟩
def qw(te:TE)(g:TG):TS:=λD Z H=>te Z H λx H1=>g x Z H1 D.nx
def xu5{g:TG}(he:PE X e te)(hg:PG X tg g)(hs:IS [tg] e pos.line X.env=pure false)(hw:IQ [tg] e X.env=pure aj)
  (h1:(i0 [tg] X.env).map (·.2)=[assign tg X.env]):PS X (.Assign [tg] e pos) (qw te g):=by
 intro ae s Z H D I h;refine wpAny_Assign_stores (bf (he ae s Z H _ I h) λv s1 ⟨x,H1,I1,r1,q1⟩=>?_) hs hw;rw[h1];exact bf (hg ae s1 Z H1 x v _ I1 r1 q1) λ_ s2 q=>q
def xu9{dn:aU}(hN:X.N.Nodup)(hi:X.N[i]?=aa x)(hx:Loc X.env.scope x)(he:PE X e te)(hs:pZ e (aa (.Name x dn)) pos.line X.env=pure false)(hf:X.fn x=true\/X.env.scope.names.lookup x=aa .local):
  PS X (.Assign [.Name x dn] e pos) (qw te (E8 i)):=by
 intro ae s Z H D I h;refine wpAny_Assign_Name (bf (he ae s Z H _ I h) λv s1 ⟨y,H1,I1,r1,q1⟩=>?_) hs;exact Gv I1 hN hi hx r1 (λs2 I2=>⟨_,H1,I2,q1⟩) hf
def zy(i:Nat)(te:TE)(ti:yo):TS:=λD Z H=>∃x,Z[i]?=aa (aa x)/\te Z H λy H1=>ti x y H1 λz H2=>D.nx (Z.set i (aa z)) H2
def xu6{op:me}{ti:yo}{dn:aU}(hN:X.N.Nodup)(hi:X.N[i]?=aa x)(hx:Loc X.env.scope x)(he:PE X e te)(ho:yn X op ti)(hf:X.fn x=true\/X.env.scope.names.lookup x=aa .local):
  PS X (.AugAssign (.Name x dn) op e pos) (zy i te ti):=by
 intro ae s Z H D I h;let(v,e1,h):=h;let(m,hn,hl):=I.loc;let ZV:n5 X.env.scope x:=by rcases hx with k |k;exact .inl k;exact .inr (.inl k)
 let(u,r,l):=hl i x v hi e1 ZV;refine wpAny_AugAssign_Name ?_;let go:aG (aN X.prog X.w) X.A (eval e X.env) (λw s₂=>aG (aN X.prog X.w) X.A (inplaceOp op u w) (λr s₃=>aG (aN X.prog X.w) X.A (storeName X.env x r) (λ_=>SP X ae D .next) X.xe s₃) X.xe s₂) X.xe s:=by
  refine bf (he ae s Z H _ I h) λw s1 h_=>?_;let(y,H1,I1,r1,q1):=h_;refine bf (ho ae s1 Z H1 v y u w _ I1 r r1 q1) λz s2 h_=>?_;let(zv,H2,I2,r2,q2):=h_;exact Gv I2 hN hi hx r2 (λs3 I3=>⟨_,H2,I3,q2⟩) hf
 rcases l with⟨hk,hm⟩|⟨hk,c,hc,yC⟩
 .exact VP I.ok.kind hk hn hm go
 .rcases hk with hk |hk
  .exact VO I.ok.kind hk hc yC go
  .rcases hx with k |k
   .let:X.env.scope.names.lookup x=aa .free:=hk;rw[k]at this;cases this
   .let:X.env.scope.names.lookup x=aa .free:=hk;rw[k]at this;cases this
def Lp(f:Int->Int->Int):yo:=λx y H Q=>∃i j,x=.int i/\y=.int j/\Q (.int (f i j)) H
def xm8:yn X .Add (Lp λi j=>i+j):=by
 intro ae s Z H x y v u Q I r1 r2 h;let(i,j,e1,e2,q):=h;subst e1;subst e2;let(t,rfl):=r1;let(t',rfl):=r2;exact iadd_int ⟨.int _,H,I.tok _,⟨_,rfl⟩,q⟩
def xm9:yn X .Sub (Lp λi j=>i-j):=by
 intro ae s Z H x y v u Q I r1 r2 h;let(i,j,e1,e2,q):=h;subst e1;subst e2;let(t,rfl):=r1;let(t',rfl):=r2;exact isub_int ⟨.int _,H,I.tok _,⟨_,rfl⟩,q⟩
def Z9(c:TT)(tb:TS):TS:=λD Z H=>∃W:Nat->St->Hp->Prop,(∃m,W m Z H)/\∀m Z H,W m Z H ->
 c Z H λb H1=>if b=true then ∃N:St->Hp->Prop,(∀Z' H',N Z' H'->∃m',m'<m/\W m' Z' H')/\tb { D with nx:=N,ct:=N,bk:=D.nx } Z H1 else D.nx Z H1
def yI7{tc:TT}{tb:TS}(hp:PassesOwn (aN X.prog X.w) X.A X.env X.xe)(hc:PT X c tc)(hb:fF X body tb):PS X (.While c body [] pos) (Z9 tc tb):=by
 intro ae s Z H D I h;obtain⟨W,⟨m0,w0⟩,turn⟩:=h;refine wpAny_While (codeAny_whileLoop (λn s'=>∃Z' H',Inv X ae Z' H' s'/\W n Z' H') ?_ m0 ⟨Z,H,I,w0⟩);rintro n s1 ⟨σ1,H1,I1,w1⟩;refine rR hp (bf (hc ae s1 σ1 H1 _ I1 (turn n σ1 H1 w1)) λb s2 h_=>?_);let(H2,I2,q2):=h_;cases b with
 |true=>
  let(N,hN,q2):=q2;rw[if_pos rfl];refine rR hp (bf (hb ae s2 σ1 H2 _ I2 q2) λf s3 q3=>?_);cases f with
  |next=>
   let(σ3,H3,I3,n3):=q3;let(m',hm,w3):=hN σ3 H3 n3;exact(m',hm,σ3,H3,I3,w3)
  |cont=>
   let(σ3,H3,I3,n3):=q3;let(m',hm,w3):=hN σ3 H3 n3;exact(m',hm,σ3,H3,I3,w3)
  |brk=>exact q3
  |ret v=>exact q3
 |false=>
  rw[if_neg nL];exact IV ⟨σ1,H2,I2,q2⟩
end
set_option genInjectivity false in
structure It where
 go:Nat->Hp->Prop
 qK:Nat->Hp->V->Hp->Prop
 stop:Nat->Hp->Prop
def hG(X:Cx)(ae:List (aq×aV))(H:Hp)(b:aq):Prop :=
 H b=aj/\b≠X.env.locals/\b∉X.fs/\(b∈X.ex\/X.s₀.heap.objs.size<=b)/\(∀x c,X.env.cells.lookup x=aa c->c≠b)/\∀p∈X.pn++ae,p.1≠b
variable{H':Hp}
def Inv.sk(I:Inv X ae Z H s)(hb:s.heap.objs.size<=b)(hn:H' b=aj):hG X ae H' b:=by
 refine(hn,j8 (gz I.lt hb),I.YE hb,.inr (df I.sz hb),λx c e z=>?_,λp hp z=>?_)
 .let(v,q):=I.cell x c e;exact absurd (gz q.lt (by rw[z];exact hb)) (kW _)
 .exact absurd (gz (b8 (I.pin p hp).1) (by rw[z];exact hb)) (kW _)
structure qB(P:Program)(w:aY)(K:aQ)(tg:Expr)(J:It)(fp:List aq)(it:aq)(tn:Nat->aT->Prop):Prop where
 mem:it∈fp
 obj:∀i h,tn i h->∀b∈fp,∃o,h.get? b=aa o/\∀v,o.data≠.cell v
 keep:∀i h h',tn i h->(∀b∈fp,∀o,h.get? b=aa o->h'.get? b=aa o)->tn i h'
 item:∀(X:Cx),X.prog=P->X.w=w->X.K=K->X.calm=true->∀(i:Nat)(ae:List (aq×aV)) (s:au) (Z:St) (H:Hp) (E:ak->au->Prop),Inv X ae Z H s->(∀b∈fp,hG X ae H b)->tn i s.heap->J.go i H ->
  aG (aN P w) X.A (pyNext (.ref it)) (λr s1=>∃u,r=aa u /\
   aG (aN P w) X.A (BZ tg (.ref it) u) (λ_ s2=>∃x H',Inv X ae Z H' s2/\RelV x u/\J.qK i H x H'/\tn (i+1) s2.heap/\∀b∈fp,H' b=aj) E s1) E s
 done:∀(X:Cx),X.prog=P->X.w=w->X.K=K->X.calm=true->∀(i:Nat)(ae:List (aq×aV)) (s:au) (Z:St) (H:Hp) (E:ak->au->Prop),Inv X ae Z H s->(∀b∈fp,hG X ae H b)->tn i s.heap->J.stop i H ->
  aG (aN P w) X.A (pyNext (.ref it)) (λr s1=>r=aj/\Inv X ae Z H s1) E s
 self:∀(A:bb)(i:Nat)(s:au)(Q:ak->au->Prop)(E:ak->au->Prop),tn i s.heap->Q (.ref it) s->aG (aN P w) A (pyIter (.ref it)) Q E s
@[reducible] def TI:=St->Hp->(It->Hp->Prop)->Prop
def Je(X:Cx)(ae:List (aq×aV))(Z:St)(tg:Expr)(R:It->Hp->Prop)(DE:ak)(s2:au):Prop :=
 ∃(it:aq)(fp:List aq)(tn:Nat->aT->Prop)(J:It)(H':Hp),DE=.ref it/\Inv X ae Z H' s2/\qB X.prog X.w X.K tg J fp it tn/\tn 0 s2.heap/\(∀b∈fp,hG X ae H' b)/\R J H'
def PI(X:Cx)(tg iter:Expr)(wi:TI):Prop :=
 ∀(ae:List (aq×aV)) (s:au) (Z:St) (H:Hp) (R:It->Hp->Prop),Inv X ae Z H s->wi Z H R ->
  aG (aN X.prog X.w) X.A (eval iter X.env) (λv s1=>aG (aN X.prog X.w) X.A (pyIter v) (Je X ae Z tg R) X.xe s1) X.xe s
def Aa{E:ak->au->Prop}{it:aq}{o:aV}{n:String}{vs:Array ak}(ho:s.heap.get? it=aa o)(hc:o.cls=.type n)(hd:o.data=.fields vs)
    (hn:["enumerate","zip","dict_itemiterator","dict_reverseitemiterator","odict_iterator","itertools.zip_longest","itertools.pairwise"].contains n=false) (hQ:Q Unit.unit s):aG M A (BZ tg (.ref it) u) Q E s:=by
  unfold BZ
  cases tg<;>first
    |exact aX hQ
    | (cases u<;>first
        |exact aX hQ
        | (refine aE (wpAny_load ho ?_)
           rw[hc,hd];show aG M A (if(["enumerate","zip","dict_itemiterator","dict_reverseitemiterator","odict_iterator","itertools.zip_longest","itertools.pairwise"].contains n&&vs[0]?==aa (uI _))=true then _ else _) Q E s
           rw[if_neg (by intro h;rw[hn,pD]at h;cases h)];exact aX hQ))
def Jc(K:aQ)(a:aq):It :=
 ⟨λi H=>∃xs x,bL K H a xs/\xs[i]?=aa x,λi H x H'=>H'=H/\∀xs,bL K H a xs->xs[i]?=aa x,λi H=>∃xs,bL K H a xs/\xs.length<=i⟩
def Ca(K:aQ)(a:aq):It :=
 ⟨λi H=>∃xs x,bR K H a xs/\xs[i]?=aa x,λi H x H'=>H'=H/\∀xs,bR K H a xs->xs[i]?=aa x,λi H=>∃xs,bR K H a xs/\xs.length<=i⟩
def uP(lo:Int)(n:Nat):It:=⟨λi _=>i<n,λi H x H'=>H'=H/\x=.int (lo+i),λi _=>n<=i⟩
def yz9(a it:aq):qB P w K tg (Jc K a) [it] it (λi h=>h.IsListIter it a i) where
 mem:=by simp
 obj:=λi h st b hb=>by
  let e:b=it:=by simpa using hb
  subst e;let(o,e,c,d):=st;exact(o,e,λv z=>by rw[d]at z;cases z)
 keep:=λi h h' st k=>st.at λo e=>k it (by simp) o e
 item:=by
  intro X hP hw hK hc i ae s Z H E I hf st hg;subst hP hw hK;let(xs,x,hq,hx):=hg;let(aw,rv,p,hz):=I.list hq;let(u,hu,ru):=rv.get hx;let(f0,f1,f2,f3,f4,f5):=hf it (by simp);refine wpAny_pyNext_list_item st p.isList (x:=u) (by simpa using hu) λh' ao sb=>?_;let I1:Inv X ae Z H { s with heap:=h' }:=I.turned (t':=s.toks) (λb o hb e=>(sb.2 b hb).trans e) f0 f1 f3 f4 f5
  let(o,e,c,d):=id ao;exact(u,rfl,Aa (s:={ s with heap:=h' }) e c d (by decide) ⟨x,H,I1,ru,⟨rfl,λys hy=>by rw[I.vG hy hq];exact hx⟩,ao,λb hb=>(hf b hb).1⟩)
 done:=by
  intro X hP hw hK hc i ae s Z H E I hf st hg;subst hP hw hK;let(xs,hq,hx):=hg;let(aw,rv,p,hz):=I.list hq;let(f0,f1,f2,f3,f4,f5):=hf it (by simp);let hl:=rv.length;exact wpAny_pyNext_list_end (I.ok.hd hc) st p.isList (by simp;lia) λh' eb=>⟨rfl,I.turned (t':=s.toks) (λb o hb e=>eb b o hb e) f0 f1 f3 f4 f5⟩
 self:=λ_ _ _ _ _ st h=>wpAny_pyIter_listiter st h
def yn3(a it:aq):qB P w K tg (Ca K a) [it] it (λi h=>h.IsTupleIter it a i) where
 mem:=by simp
 obj:=λi h st b hb=>by
  let e:b=it:=by simpa using hb
  subst e;let(o,e,c,d):=st;exact(o,e,λv z=>by rw[d]at z;cases z)
 keep:=λi h h' st k=>st.at λo e=>k it (by simp) o e
 item:=by
  intro X hP hw hK hc i ae s Z H E I hf st hg;subst hP hw hK;let(xs,x,hq,hx):=hg;let(aw,rv,p,hz):=I.tuple hq;let(u,hu,ru):=rv.get hx;let(f0,f1,f2,f3,f4,f5):=hf it (by simp);refine wpAny_pyNext_tuple_item st (show s.heap.IsTuple a aw.toArray from p) (x:=u) (by simpa using hu) λh' ao sb=>?_;let I1:Inv X ae Z H { s with heap:=h' }:=I.turned (t':=s.toks) (λb o hb e=>(sb.2 b hb).trans e) f0 f1 f3 f4 f5
  let(o,e,c,d):=id ao;exact(u,rfl,Aa (s:={ s with heap:=h' }) e c d (by decide) ⟨x,H,I1,ru,⟨rfl,λys hy=>by rw[I.Ed hy hq];exact hx⟩,ao,λb hb=>(hf b hb).1⟩)
 done:=by
  intro X hP hw hK hc i ae s Z H E I hf st hg;subst hP hw hK;let(xs,hq,hx):=hg;let(aw,rv,p,hz):=I.tuple hq;let(f0,f1,f2,f3,f4,f5):=hf it (by simp);let hl:=rv.length;exact wpAny_pyNext_tuple_end (I.ok.hd hc) st (show s.heap.IsTuple a aw.toArray from p) (by simp;lia) λh' eb=>⟨rfl,I.turned (t':=s.toks) (λb o hb e=>eb b o hb e) f0 f1 f3 f4 f5⟩
 self:=λ_ _ _ _ _ st h=>wpAny_pyIter_tupleiter st h
def yn2(it:aq)(lo:Int)(n:Nat):qB P w K tg (uP lo n) [it] it (λi h=>IsRangeIter h it (lo+(i:Nat)*1) ((n:Int)-(i:Nat)) 1) where
 mem:=by simp
 obj:=λi h st b hb=>by
  let e:b=it:=by simpa using hb
  subst e;exact(_,st,λv z=>by
   let z':Data.fields _=Data.cell v:=z;cases z')
 keep:=λi h h' st k=>k it (by simp) _ st
 item:=by
  intro X hP hw hK hc i ae s Z H E I hf st hg;subst hP hw hK;let(f0,f1,f2,f3,f4,f5):=hf it (by simp);let W:=Walks.range (prog:=X.prog) (w:=X.w) (I.ok.hd hc) it lo 1 n;refine W.item i s _ _ hg st λv h' tk hv ao kk=>?_;let(t,rfl):=hv;let I1:Inv X ae Z H { s with heap:=h',toks:=tk }:=I.turned (λb o hb e=>kk b o (by simpa using hb) e) f0 f1 f3 f4 f5
  refine(_,rfl,Aa (s:={ s with heap:=h',toks:=tk }) (n := "range_iterator") ao rfl rfl (by decide) ⟨.int (lo+i),H,I1,⟨t,?_⟩,⟨rfl,rfl⟩,ao,λb hb=>(hf b hb).1⟩)
  rw[Int.mul_one]
 done:=by
  intro X hP hw hK hc i ae s Z H E I hf st hg;subst hP hw hK;let(f0,f1,f2,f3,f4,f5):=hf it (by simp);exact wpAny_pyNext_range_end (I.ok.hd hc) st (by let:n<=i:=hg;lia) λh' eb=>⟨rfl,I.turned (t':=s.toks) (λb o hb e=>eb b o hb e) f0 f1 f3 f4 f5⟩
 self:=λ_ _ _ _ _ st h=>wpAny_pyIter_rangeiter st h
variable{fp:List aq}
section
variable{X:Cx}{tg:Expr}
def DB(K:aQ)(tl:TE):TI:=λZ H R=>tl Z H λx H1=>∃a,x=.ref a/\(∃xs,bR K H1 a xs)/\R (Ca K a) H1
def yJ2{R:It->Hp->Prop}{E:ak->au->Prop}{lo hi:Int}{t u v:dt}{tk:Nat}(I:Inv X ae Z H s)(h1:-(2 ^ 62)<=lo)(h2:lo<2 ^ 62)(h3:-(2 ^ 62)<=hi)(h4:hi<2 ^ 62)
  (q:R (uP lo (hi-lo).toNat) H):aG (aN X.prog X.w) X.A (pyIter (.ref s.heap.objs.size)) (Je X ae Z tg R) E { s with heap:=s.heap.push { cls:=.type "range", data:=.fields #[.int lo t,.int hi u,.int 1 v] },toks:=tk }:=by
 refine wpAny_pyIter_range (IsRange.new ..) (small_one h1 h2 h3 h4) ?_;let I1:Inv X ae Z H { s with heap:=s.heap.push { cls:=.type "range", data:=.fields #[.int lo t,.int hi u,.int 1 v] },toks:=tk }:=I.kept λb o e=>cv _ e
 refine((s.heap.push { cls:=.type "range", data:=.fields #[.int lo t,.int hi u,.int 1 v] }).objs.size,[(s.heap.push { cls:=.type "range", data:=.fields #[.int lo t,.int hi u,.int 1 v] }).objs.size],_,_,H,rfl,
  I1.kept (t':=tk) λb o e=>cv _ e,yn2 _ lo (hi-lo).toNat,?_,λb hb=>?_,q)
 .let e1:lo+((0:Nat):Int)*1=lo:=by simp
  let e2:(((hi-lo).toNat:Nat):Int)-((0:Nat):Int)=Builtin.Range.rangeSize lo hi 1:=by rw[rangeSize_one];split<;>lia
  show IsRangeIter _ _ (lo+((0:Nat):Int)*1) ((((hi-lo).toNat:Nat):Int)-((0:Nat):Int)) 1;rw[e1,e2];exact dY _ rfl
 .let e:b=(s.heap.push { cls:=.type "range", data:=.fields #[.int lo t,.int hi u,.int 1 v] }).objs.size:=by simpa using hb
  subst e;exact I1.sk (bF _) (I1.aF.fresh (bF _))
def xL1(ta:TA):TI:=λZ H R=>ta Z H λvs H1=>∃j:Int,vs=[.int j]/\-(2 ^ 62)<=j/\j<2 ^ 62/\R (uP 0 j.toNat) H1
def yw5{a:Expr}{ta:TA}{p pos:aU}(hg:Gl X "range")(hm:X.mg "range" = aj)(ha:PA X [a] ta)(hs:bA [a] X.env=[(false,eval a X.env)]):PI X tg (.Call (.Name "range" p) [a] [] pos) (xL1 ta):=by
 intro ae s Z H R I h;refine Call_ (oR I hg hm boot_range (xW (bf (ha pos ae s Z H _ I h) λus s1 ⟨vs,H1,I1,r1,q1⟩=>?_) hs rfl));let(j,e,q1,q2,q):=q1;subst e;cases r1 with
 |cons r rr=>
  cases rr;let(t,rfl):=r;exact call_range_1 (yJ2 I1 () () q1 q2 (by simpa using q))
def zC(wi:TI)(g:TG)(tb:TS):TS:=λD Z H=>wi Z H λJ H1=>∃W:Nat->Nat->St->Hp->Prop,(∃m,W 0 m Z H1)/\∀i m Z H,W i m Z H ->
 (J.stop i H/\D.nx Z H)\/(J.go i H/\∃N:St->Hp->Prop,(∀Z' H',N Z' H'->∃m',m'<m/\W (i+1) m' Z' H')/\∀x H',J.qK i H x H'->g x Z H' λσ2 H2=>tb { D with nx:=N,ct:=N,bk:=D.nx } σ2 H2)
def wR(fp:List aq)(h:aT):List (aq×aV):=fp.filterMap λb=>(h.get? b).map λo=>(b,o)
def Ba{o:aV}(hb:b∈fp)(e:h.get? b=aa o):(b,o)∈wR fp h:=HC.mpr ⟨b,hb,by rw[e];rfl⟩
def yv5{p:aq×aV}(hp:p∈wR fp h):p.1∈fp/\h.get? p.1=aa p.2:=by
 let(b,hb,e):=HC.mp hp;cases q:h.get? b with
 |none=>rw[q]at e;cases e
 |some o=>
  rw[q]at e;let e':(b,o)=p:=dE e;subst e';exact(hb,q)
def Inv.pinned(I:Inv X ae Z H s)(hf:∀b∈fp,hG X ae H b)(ho:∀b∈fp,∃o,s.heap.get? b=aa o/\∀v,o.data≠.cell v):Inv X (ae++wR fp s.heap) Z H s :=
 I.L7 λp hp=>(d0.mp hp).elim (λz=>I.pin p (kR _ z)) λz=>by
  let(hb,e):=yv5 z;let(f0,f1,f2,_):=hf p.1 hb;let(o,e',d):=ho p.1 hb;rw[e]at e';cases e';exact(e,f0,f1,f2,d)
def Inv.vX{pl:List (aq×aV)}(I:Inv X (ae++pl) Z H s):Inv X ae Z H s:=I.L7 λp hp=>I.pin p (kR _ (uv _ hp))
def xu7{iter:Expr}{wi:TI}{g:TG}{tb:TS}{pos:aU}(hp:PassesOwn (aN X.prog X.w) X.A X.env X.xe)(hc:X.calm=true)(hi:PI X tg iter wi)(hg:PG X tg g)(hb:fF X body tb)
  (hs:∀x,BW iter X.env x=pure x):PS X (.For tg iter body [] pos) (zC wi g tb):=by
 intro ae s Z H D I h;refine wpAny_For (bf (hi ae s Z H _ I h) λv s1 h1=>bf h1 λDE s2 h2=>?_) hs;obtain⟨it,fp,tn,J,H2,e,I2,T,aI,f2,W,⟨m0,w0⟩,turn⟩:=h2;subst e;let D8:∀{H':Hp},(∀b∈fp,H' b=aj)->∀b∈fp,hG X ae H' b:=λhn b hb=>⟨hn b hb,(f2 b hb).2⟩;refine codeAny_forLoop_any (λn s'=>∃i Z' H',Inv X ae Z' H' s'/\tn i s'.heap/\(∀b∈fp,H' b=aj)/\W i n Z' H') ?_ m0 ⟨0,Z,H2,I2,aI,λb hb=>(f2 b hb).1,w0⟩;rintro n s3 ⟨i,σ3,H3,I3,cK,JQ,w3⟩;rcases turn i n σ3 H3 w3 with⟨stop,qn⟩|⟨go,N,hN,step⟩
 .refine rR hp (bf (T.done X rfl rfl rfl hc i ae s3 σ3 H3 X.xe I3 (D8 JQ) cK stop) λr s4 h_=>?_)
  let(hr,I4):=h_;subst hr;exact IV ⟨σ3,H3,I4,qn⟩
 .refine rR hp (bf (T.item X rfl rfl rfl hc i ae s3 σ3 H3 X.xe I3 (D8 JQ) cK go) λr s4 h_=>?_);let(u,hr,h4):=h_;subst hr;refine rR hp (bf h4 λ_ s5 h_=>?_);let(x,H5,I5,r5,y5,jM,yy):=h_;let VZ:=I5.pinned (D8 yy) (T.obj _ _ jM);refine rR hp (bf (hg _ s5 σ3 H5 x u _ VZ r5 (step x H5 y5)) λ_ s6 h_=>?_);let(σ6,H6,I6,q6):=h_;refine rR hp (bf (hb _ s6 σ6 H6 _ I6 q6) λf s7 q7=>?_);let again:∀{σ7:St}{H7:Hp},Inv X (ae++wR fp s5.heap) σ7 H7 s7->N σ7 H7->∃m,m<n/\∃i Z' H',Inv X ae Z' H' s7/\tn i s7.heap/\(∀b∈fp,H' b=aj)/\W i m Z' H':=λ{σ7 H7} I7 n7=>by
   let(m',hm,w7):=hN σ7 H7 n7;refine(m',hm,i+1,σ7,H7,I7.vX,T.keep _ _ _ jM λb hb o e=>(I7.pin (b,o) (kR _ (kR _ (Ba hb e)))).1,λb hb=>?_,w7);let(o,e,d):=T.obj _ _ jM b hb;exact(I7.pin (b,o) (kR _ (kR _ (Ba hb e)))).2.1
  cases f with
  |next=>let(σ7,H7,I7,n7):=q7;exact again I7 n7
  |cont=>let(σ7,H7,I7,n7):=q7;exact again I7 n7
  |brk=>let(σ7,H7,I7,q7):=q7;exact(σ7,H7,I7.vX,q7)
  |ret v=>let(x7,σ7,H7,I7,r7,q7):=q7;exact(x7,σ7,H7,I7.vX,r7,q7)
end
@[reducible] def R2:=V->V->Hp->VK->Prop
def dy(X:Cx)(f:ak->ak->fh ak)(r:R2):Prop :=
 ∀(ae:List (aq×aV)) (s:au) (Z:St) (H:Hp) (x y:V) (v u:ak) (Q:VK),Inv X ae Z H s->RelV x v->RelV y u->r x y H Q ->
  aG (aN X.prog X.w) X.A (f v u) (EP X ae Z Q) X.xe s
def Ci(X:Cx)(f:ak->fh ak)(r:V->Hp->VK->Prop):Prop :=
 ∀(ae:List (aq×aV)) (s:au) (Z:St) (H:Hp) (x:V) (v:ak) (Q:VK),Inv X ae Z H s->RelV x v->r x H Q ->
  aG (aN X.prog X.w) X.A (f v) (EP X ae Z Q) X.xe s
def nj(X:Cx)(f:ak)(r:List V->Hp->VK->Prop):Prop :=
 ∀(ae:List (aq×aV)) (s:au) (Z:St) (H:Hp) (xs:List V) (us:List ak) (Q:VK),Inv X ae Z H s->ba xs us->r xs H Q ->
  aG (aN X.prog X.w) X.A (call f us) (EP X ae Z Q) X.xe s
def zE(r:R2)(ta tb:TE):TE:=λZ H Q=>ta Z H λx H1=>tb Z H1 λy H2=>r x y H2 Q
def ZJ(r:V->Hp->VK->Prop)(ta:TE):TE:=λZ H Q=>ta Z H λx H1=>r x H1 Q
def rI(C:Int->Int->Prop)(g:Int->Int->V):R2:=λx y H Q=>∃i j,x=.int i/\y=.int j/\C i j/\Q (g i j) H
def mP(g:Int->Int->V):R2:=λx y H Q=>∃i j,x=.int i/\y=.int j/\Q (g i j) H
abbrev rU(g:Int->V):V->Hp->VK->Prop:=λx H Q=>∃i,x=.int i/\Q (g i) H
variable{r:R2}{f:ak->ak->fh ak}
section
variable{X:Cx}{a b c:Expr}{ta tb tc:TE}{pos:aU}
def En(ha:PE X a ta)(hb:PE X b tb){R:V->V->Hp->Prop}(I:Inv X ae Z H s)
  (h:ta Z H λx H1=>tb Z H1 λy H2=>R x y H2) {Q:ak->au->Prop} {f:ak->ak->fh ak}
  (hf:∀v u s2 x y H2,Inv X ae Z H2 s2->RelV x v->RelV y u->R x y H2->aG (aN X.prog X.w) X.A (f v u) Q X.xe s2) :
  aG (aN X.prog X.w) X.A (eval a X.env) (λv s₁=>aG (aN X.prog X.w) X.A (eval b X.env) (λu s₂=>aG (aN X.prog X.w) X.A (f v u) Q X.xe s₂) X.xe s₁) X.xe s:=by
 refine bf (ha ae s Z H _ I h) λv s1 h_=>?_;let(x,H1,I1,r1,q1):=h_;refine bf (hb ae s1 Z H1 _ I1 q1) λu s2 h_=>?_;let(y,H2,I2,r2,q2):=h_;exact hf v u s2 x y H2 I2 r1 r2 q2
def NR{op:me}(ho:dy X (binaryOp op) r)(ha:PE X a ta)(hb:PE X b tb):PE X (.BinOp a op b pos) (zE r ta tb):=by
 intro ae s Z H Q I h;exact wpAny_BinOp (En ha hb I h λv u s2 x y H2 I2 rx ry q=>ho ae s2 Z H2 x y v u Q I2 rx ry q)
def xQ4{op:UnaryOp}{r:V->Hp->VK->Prop}(ho:Ci X (unaryOp op) r)(ha:PE X a ta):PE X (.UnaryOp op a pos) (ZJ r ta):=by
 intro ae s Z H Q I h;exact UnaryOp_ (bf (ha ae s Z H _ I h) λv s1 ⟨x,H1,I1,r1,q1⟩=>ho ae s1 Z H1 x v Q I1 r1 q1)
def vR{C:Int->Int->Prop}{g:Int->Int->Int}
  (nW:∀(i j:Int)(t u:dt)(s:au)(Q:ak->au->Prop)(E:ak->au->Prop),C i j->Q (.int (g i j) s.toks) { s with toks:=s.toks+1 }->aG (aN X.prog X.w) X.A (f (.int i t) (.int j u)) Q E s) :
  dy X f (rI C λi j=>.int (g i j)):=by
 intro ae s Z H x y v u Q I rx ry h;let(i,j,rfl,rfl,hc,q):=h;let(t,rfl):=rx;let(t',rfl):=ry;exact nW i j t t' s _ _ hc ⟨.int (g i j),H,I.tok _,⟨_,rfl⟩,q⟩
def L3{g:Int->Int->Int}
  (nW:∀(i j:Int)(t u:dt)(s:au)(Q:ak->au->Prop)(E:ak->au->Prop),Q (.int (g i j) s.toks) { s with toks:=s.toks+1 }->aG (aN X.prog X.w) X.A (f (.int i t) (.int j u)) Q E s) :
  dy X f (mP λi j=>.int (g i j)):=by
 intro ae s Z H x y v u Q I rx ry h;let(i,j,rfl,rfl,q):=h;let(t,rfl):=rx;let(t',rfl):=ry;exact nW i j t t' s _ _ ⟨.int (g i j),H,I.tok _,⟨_,rfl⟩,q⟩
def zR{g:Int->Int->Bool}
  (nW:∀(i j:Int)(t u:dt)(s:au)(Q:ak->au->Prop)(E:ak->au->Prop),Q (.bool (g i j)) s->aG (aN X.prog X.w) X.A (f (.int i t) (.int j u)) Q E s) :
  dy X f (mP λi j=>.bl (g i j)):=by
 intro ae s Z H x y v u Q I rx ry h;let(i,j,rfl,rfl,q):=h;let(t,rfl):=rx;let(t',rfl):=ry;exact nW i j t t' s _ _ ⟨.bl (g i j),H,I,rfl,q⟩
def VW(i j:Int):Prop:=0<j/\j<1073741824
def VX(i j:Int):Prop:=0<=j/\j<=1000000/\i.natAbs<2 ^ 64
def Ej(i j:Int):Prop:=(-(2 ^ 64)<i/\i<2 ^ 64)\/(-(2 ^ 64)<j/\j<2 ^ 64)
def Ej.ok{i j:Int}(h:Ej i j):IntMulOk i j:=by
 rcases h with⟨h1,h2⟩|⟨h1,h2⟩
 .exact .of_left (intBits_le_64 h1 h2)
 .exact .of_right (intBits_le_64 h1 h2)
def xs1:dy X (binaryOp .Add) (mP λi j=>.int (i+j)):=L3 λ_ _ _ _ _ _ _ q=>add_int q
def xs6:dy X (binaryOp .Sub) (mP λi j=>.int (i-j)):=L3 λ_ _ _ _ _ _ _ q=>sub_int q
def xs4:dy X (binaryOp .Mult) (rI Ej λi j=>.int (i*j)):=vR λ_ _ _ _ _ _ _ hc q=>mul_int q hc.ok
def xP6:dy X (binaryOp .FloorDiv) (rI VW λi j=>.int (i/j)):=vR λi j _ _ _ _ _ hc q=>by
 let h1:(0:Int)<j:=hc.1;let h2:j<1073741824:=hc.2;exact floordiv_int () (by rw[SK i ()];exact q) (.inl (PyProof.noPylong_small ()))
def xs3:dy X (binaryOp .Mod) (rI (λ_ j=>0<j) λi j=>.int (i%j)):=vR λi j _ _ _ _ _ hc q=>by
 let h1:(0:Int)<j:=hc;exact mod_int' () (by rw[Int.fmod_eq_emod_of_nonneg i ()];exact q)
def xs5:dy X (binaryOp .Pow) (rI VX λi j=>.int (i ^ j.toNat)):=vR λ_ _ _ _ _ _ _ hc q=>pow_int_small hc.1 hc.2.1 hc.2.2 q
def ZS{f:ak->fh ak}{g:Int->Int}
  (nW:∀(i:Int)(t:dt)(s:au)(Q:ak->au->Prop)(E:ak->au->Prop),Q (.int (g i) s.toks) { s with toks:=s.toks+1 }->aG (aN X.prog X.w) X.A (f (.int i t)) Q E s) :
  Ci X f (rU λi=>.int (g i)):=by
 intro ae s Z H x v Q I rx h;let(i,rfl,q):=h;let(t,rfl):=rx;exact nW i t s _ _ ⟨.int (g i),H,I.tok _,⟨_,rfl⟩,q⟩
def Z_:Ci X (unaryOp .USub) (rU λi=>.int (-i)):=ZS λ_ _ _ _ _ q=>neg_int q
def Of{Q:VK}{k k':Bool}(I:Inv X ae Z H s)(q:Q (.bl k) H)(e:k=k'):EP X ae Z Q (.bool k') s:=by
 subst e;exact(.bl k,H,I,rfl,q)
def xQ0:dy X (compareOp .Lt) (mP λi j=>.bl (decide (i<j))):=zR λ_ _ _ _ _ _ _ q=>lt_int q
def xP9:dy X (compareOp .LtE) (mP λi j=>.bl (decide (i<=j))):=zR λ_ _ _ _ _ _ _ q=>le_int q
def xP8:dy X (compareOp .Gt) (mP λi j=>.bl (decide (j<i))):=zR λ_ _ _ _ _ _ _ q=>gt_int q
def xP7:dy X (compareOp .GtE) (mP λi j=>.bl (decide (j<=i))):=zR λ_ _ _ _ _ _ _ q=>ge_int q
def yw0:dy X (compareOp .In) (λx y H Q=>∃i j,x=.str i/\y=.str j/\Q (.bl (!(Builtin.Str.occurrences j i 0 j.length 1).isEmpty)) H):=by
 intro ae s Z H x y v u Q I rx ry h;let(i,j,rfl,rfl,q):=h;let(t,rfl):=rx;let(t',rfl):=ry;exact in_str (Of I q rfl)
def xs2:dy X (compareOp .Is) (λx y H Q=>y=.aL/\Q (.bl (decide (x=.aL))) H):=by
 intro ae s Z H x y v u Q I rx ry h;let(rfl,q):=h;cases ry;refine is_none_gen (Of I q ?_)
 cases x<;>first
  |(cases rx;rfl)
  |(let(t,rfl):=rx;rfl)
def xa4(ho:dy X (compareOp op) r)(ha:PE X a ta)(hb:PE X b tb)(hm:nU op b=false):PE X (.Compare a [op] [b] pos) (zE r ta tb):=by
 intro ae s Z H Q I h;exact wpAny_Compare1 (En ha hb I h λv u s2 x y H2 I2 rx ry q=>ho ae s2 Z H2 x y v u Q I2 rx ry q) hm
def MQ(t:TE):TT:=λZ H Q=>t Z H λx H'=>∃k,x=.bl k/\Q k H'
def xb4(ho:dy X (compareOp op) r)(ha:PE X a ta)(hb:PE X b tb)(hm:nU op b=false):PT X (.Compare a [op] [b] pos) (MQ (zE r ta tb)):=by
 intro ae s Z H Q I h;refine VN (bf (ha ae s Z H _ I h) λv s1 ⟨x,H1,I1,r1,q1⟩=>bf (hb ae s1 Z H1 _ I1 q1) λu s2 ⟨y,H2,I2,r2,q2⟩ =>
  bf (ho ae s2 Z H2 x y v u _ I2 r1 r2 q2) λc s3 ⟨z,H3,I3,r3,k,e,q3⟩=>?_) hm
 subst e;cases r3;exact mn ⟨H3,I3,q3⟩
def Fx(r r':R2)(ta tb tc:TE):TE:=λZ H Q=>ta Z H λx H1=>tb Z H1 λy H2=>r x y H2 λz H3=>∃k,z=.bl k /\
 (if k=true then tc Z H3 λw' H4=>r' y w' H4 Q else Q (.bl false) H3)
def yH8{cR:kZ}{r':R2}(ho:dy X (compareOp op) r)(fy:dy X (compareOp cR) r')(ha:PE X a ta)(hb:PE X b tb)(hc:PE X c tc)
  (hm:uG [op,cR] [b,c]=false):PE X (.Compare a [op,cR] [b,c] pos) (Fx r r' ta tb tc):=by
 intro ae s Z H Q I h;refine Compare_chain (bf (ha ae s Z H _ I h) λv s1 ⟨x,H1,I1,r1,q1⟩=>chain_link (bf (hb ae s1 Z H1 _ I1 q1) λu s2 ⟨y,H2,I2,r2,q2⟩ =>
  bf (ho ae s2 Z H2 x y v u _ I2 r1 r2 q2) λd s3 ⟨z,H3,I3,r3,k,e,q3⟩=>?_)) hm
 subst e;cases r3;refine mn ?_;cases k with
 |false=>exact ite_ff ⟨.bl false,H3,I3,rfl,q3⟩
 |true=>exact ite_tt (chain_last (bf (hc ae s3 Z H3 _ I3 q3) λw' s4 ⟨z',H4,I4,r4,q4⟩=>fy ae s4 Z H4 y z' u w' Q I4 r2 r4 q4))
def yI9{cR:kZ}{r':R2}(ho:dy X (compareOp op) r)(fy:dy X (compareOp cR) r')(ha:PE X a ta)(hb:PE X b tb)(hc:PE X c tc)
  (hm:uG [op,cR] [b,c]=false):PT X (.Compare a [op,cR] [b,c] pos) (MQ (Fx r r' ta tb tc)):=by
 intro ae s Z H Q I h;refine isTrue_chain (bf (ha ae s Z H _ I h) λv s1 ⟨x,H1,I1,r1,q1⟩=>test_link (bf (hb ae s1 Z H1 _ I1 q1) λu s2 ⟨y,H2,I2,r2,q2⟩ =>
  bf (ho ae s2 Z H2 x y v u _ I2 r1 r2 q2) λd s3 ⟨z,H3,I3,r3,k,e,q3⟩=>?_)) hm
 subst e;cases r3;refine mn ?_;cases k with
 |false=>
  let(k',e',q'):=q3;cases e';exact ite_ff ⟨H3,I3,q'⟩
 |true=>
  refine ite_tt (test_last (bf (hc ae s3 Z H3 _ I3 q3) λw' s4 ⟨z',H4,I4,r4,q4⟩=>bf (fy ae s4 Z H4 y z' u w' _ I4 r2 r4 q4) λd' s5 h_=>?_));let(z2,H5,I5,r5,k2,e2,q5):=h_;subst e2;cases r5;exact mn ⟨H5,I5,q5⟩
def tM:(a9:Nat)<2 ^ 63:=by rw[mj];decide
def ym6:dy X (binaryOp .Add) (λx y H Q=>∃i j,x=.str i/\y=.str j/\i.length+j.length<=a9/\Q (.str (i++j)) H):=by
 intro ae s Z H x y v u Q I rx ry h;let(i,j,rfl,rfl,hz,q):=h;let(t,rfl):=rx;let(t',rfl):=ry;exact add_str (λt' tk=>⟨.str (i++j),H,I.tok _,⟨_,rfl⟩,q⟩) hz
def wg{x:V}(r:ba [x] us):∃u,us=[u]/\RelV x u:=by
 cases r with
 |cons r1 r2=>cases r2;exact(_,rfl,r1)
def xT7{x:V}(r:ba [x,y] us):∃u w',us=[u,w']/\RelV x u/\RelV y w':=by
 cases r with
 |cons r1 r2=>
  cases r2 with
  |cons r3 r4=>cases r4;exact(_,_,rfl,r1,r3)
def yo7(hc:X.calm=true):nj X (.builtin "max") (λxs H Q=>∃i j,xs=[.int i,.int j]/\Q (.int (if j > i then j else i)) H):=by
 intro ae s Z H xs us Q I r h;let(i,j,rfl,q):=h;obtain⟨u,w',rfl,⟨t,rfl⟩,⟨t',rfl⟩⟩:=xT7 r;refine max_two_ints (I.ok.hd hc) λh' tk k=>⟨_,H,I.kept k,?_,q⟩;by_cases hj:j > i
 .rw[if_pos hj,if_pos hj];exact(_,rfl)
 .rw[if_neg hj,if_neg hj];exact(_,rfl)
def RD:nj X (.type "int") (λxs H Q=>(∃i,xs=[.int i]/\Q (.int i) H)\/∃k,xs=[.bl k]/\Q (.int (if k then 1 else 0)) H):=by
 intro ae s Z H xs us Q I r h;rcases h with⟨i,rfl,q⟩|⟨k,rfl,q⟩
 .let(u,rfl,t,rfl):=wg r;exact call_int_int ⟨.int i,H,I,⟨_,rfl⟩,q⟩
 .let(u,rfl,r1):=wg r;cases r1;exact call_int_bool ⟨.int (if k then 1 else 0),H,I.tok _,⟨_,rfl⟩,q⟩
end
structure El(h:aT)(x dx C:aq)(mA:Str->Option ak):Prop where
 obj:h.get? x=aa (Iz C dx)
 ns:h.Ns1 dx mA
 ne:dx≠x
def yu4{dx:aq}{mA:Str->Option ak}(n:h.Ns1 dx mA):∃od,h.get? dx=aa od/\∀name,IB name od=aa (mA name):=by
 let(o,es,ep,ho,hd,hk,_,hm):=n;refine(o,ho,λname=>?_);let e:=hm name;unfold nsFind findBy at e;rw[<-Array.find?_toList]at e;unfold IB;rw[hd];dsimp only;split
 .rename_i y q
  rw[q]at e;exact congrArg aa e
 .rename_i q
  rw[q]at e;let a:es.toList.any (·.refKey)=false:=by
   rw[List.any_eq_false];intro y hy;let(z,t,sE):=hk y (Sy.mp hy);simp[DictEntry.refKey,sE]
  let a':¬es.toList.any (·.refKey)=true:=by rw[a];exact nL
  rw[if_neg a'];exact congrArg aa e
def El.look{x dx C:aq}{mA:Str->Option ak}(I:El h x dx C mA):∃od,PySem.W.InstAt h x (Iz C dx) C (aa od)/\∀name,IB name od=aa (mA name) :=
 let⟨od,ho,hl⟩:=yu4 I.ns
 ⟨od,⟨I.obj,rfl,rfl,ho⟩,hl⟩
section
variable{prog:Program}{w:aY}{A:bb}{E:ak->au->Prop}{s:au}{K:aQ}{x dx C f:aq}{mA:Str->Option ak}{name:Str}{v:ak}
end
def kG.some_of{o:Option ak}(r:kG (aa v) o):∃u,o=aa u/\RelV v u:=by
 cases o with
 |none=>exact(show False from r).elim
 |some u=>exact(u,rfl,r)
section
variable{P:Program}{w:aY}{H H':Hp}{h h':aT}{a C dx:aq}{fs WC:List (Str×V)}
def yW2(aF:cI P w H h)(e:H a=aa (.ins C dx fs)):∃mA,El h a dx C mA/\(∀f,kG (fs.lookup f) (mA f))/\Vx mA (fs.map (·.1))/\fs.length<=1000/\H dx=aa (.own a):=by
 let(d,z,ne,ob,mA,n,r,q):=(show dz P w H h a (.ins C dx fs)from aF a _ e);exact(mA,⟨ob,n,ne⟩,r,q,z,d)
end
structure B9(K:aQ)(C:aq):Prop where
 pg:Vw K C Iy=true
 hd:PySem.W.hasDictIn K C=true
 po:PySem.W.plainOver K C=true
 sa:Vt K (.ref C) "__setattr__" = aa (aa (.builtin "object.__setattr__"))
def B9.get{C:aq}(c:B9 K C)(f:Str):Vw K C f=true:=c.pg
section
variable{X:Cx}{ae:List (aq×aV)}{Z:St}{H:Hp}{s:au}{a C dx:aq}{fs:List (Str×V)}{f:Str}{v:V}{A:bb}{E:ak->au->Prop}
end
section
variable{X:Cx}{o e value:Expr}{f:Str}{pos dn mW:aU}{ta tv:TE}
end
section
variable{X:Cx}{ae:List (aq×aV)}{Z:St}{H:Hp}{s:au}{A:bb}{E:ak->au->Prop}{Q:ak->au->Prop}{c:ak}{b:Bool}
inductive jN(K:aQ)(H:Hp):V->ak->Prop where
 |aL:jN K H .aL (.type "NoneType")
 |bl (x:Bool):jN K H (.bl x) (.type "bool")
 |int (i:Int):jN K H (.int i) (.type "int")
 |str (x:Str):jN K H (.str x) (.type "str")
 |sj (x:UInt64):jN K H (.sj x) (.type "float")
 |ai {a:aq} {xs:List V} (e:H a=aa (.ai xs)):jN K H (.ref a) (.type "list")
 |iJ {a:aq} {o:aV} {xs:List V} (e:H a=aa (.iJ o (.ai xs))):jN K H (.ref a) (.type "list")
 |af {a:aq} {xs:List V} (e:H a=aa (.af xs)):jN K H (.ref a) (.type "tuple")
 |dK {a:aq} {av:List (Key×V)} (e:H a=aa (.dK av)):jN K H (.ref a) (.type "dict")
 |dT {a:aq} {av:List (List Key×V)} (e:H a=aa (.dT av)):jN K H (.ref a) (.type "dict")
 | ins {a C dx:aq} {fs:List (Str×V)} (e:H a=aa (.ins C dx fs)) (cl:B9 K C) (ha:Vt K (.ref C) "__class__" = aa (aa (.builtin "object.__class__")))
   (hn:PySem.W.specialIn K (.builtin "object.__class__") "__get__" = aa (aa (.builtin "getset_descriptor.__get__"))) (vz:PySem.W.takesIn K (.builtin "object.__class__")=aa true)
   (hm:PySem.W.mroIn K C (.type "object")=aa true):jN K H (.ref a) (.ref C)
def Be{x:V}{t:ak}(I:Inv X ae Z H s)(rx:RelV x u)(ty:jN X.K H x t)(e:PySem.W.kitOne X.K t c=aa b)(h:∀tk,Q (.bool b) { s with toks:=tk }):
  aG (aN X.prog X.w) A (call (.builtin "isinstance") [u,c]) Q E s:=by
 cases ty with
 |aL=>cases(show u=gA from rx);exact jy PySem.W.kitx_none I.eA jB e (λz=>nomatch z) h
 |bl y=>cases(show u=gT y from rx);exact jy PySem.W.kitx_bool I.eA jB e (λz=>nomatch z) h
 |int i=>let(t,q):=(show ∃t,u=mh i t from rx);cases q;exact jy PySem.W.kitx_int I.eA jB e (λz=>nomatch z) h
 |str y=>let(t,q):=(show ∃t,u=yd y t from rx);cases q;exact jy PySem.W.kitx_str I.eA jB e (λz=>nomatch z) h
 |sj y=>let(t,q):=(show ∃t,u=Vk y t from rx);cases q;exact jy PySem.W.kitx_float I.eA jB e (λz=>nomatch z) h
 |@ai a xs ea=>
  cases(show u=b9 a from rx);let(_,_,n,_,h1):=(show dz X.prog X.w H s.heap a (.ai xs)from I.aF a _ ea);exact jy IA I.eA ⟨_,h1,rfl⟩ e (λz=>nomatch z) h
 |@iJ a ob xs ea=>
  cases(show u=b9 a from rx);let(_,_,_,n,_,h1):=(show dz X.prog X.w H s.heap a (.iJ ob (.ai xs))from I.aF a _ ea);exact jy IA I.eA ⟨_,h1,rfl⟩ e (λz=>nomatch z) h
 |@af a xs ea=>
  cases(show u=b9 a from rx);let(_,_,_,p):=(show dz X.prog X.w H s.heap a (.af xs)from I.aF a _ ea);let(o,h1,h2,_):=p;exact jy Vv I.eA ⟨o,h1,h2⟩ e (λz=>nomatch z) h
 |@dK a av ea=>
  cases(show u=b9 a from rx);let(_,_,vs,_,p):=(show dz X.prog X.w H s.heap a (.dK av)from I.aF a _ ea);let(o,es,ep,h1,h2,_):=p;exact jy Vu I.eA ⟨o,h1,h2.1⟩ e (λz=>nomatch z) h
 |@dT a av ea=>
  cases(show u=b9 a from rx);let(_,_,xs,_,o,es,ep,h1,h2,_):=(show dz X.prog X.w H s.heap a (.dT av)from I.aF a _ ea);exact jy Vu I.eA ⟨o,h1,h2.1⟩ e (λz=>nomatch z) h
 |@ins a C dx fs ea cl ha hn vz hm=>
  cases(show u=b9 a from rx);let(mA,OOO,_):=yW2 I.aF ea;let(od,J,_):=OOO.look;exact jy (PySem.W.kitx_own (cl.get _) cl.hd ha hn vz hm) I.eA J e (λz=>nomatch z) h
end
structure gf(k:Nat)(A:bb):Prop where
 hd:A.handled=aj
 dp:A.depth+3*k+5<recursionLimit
 un:A.units+16*k+200<c8
 gd:A.guards=aa []
def gf.deeper{k:Nat}(r:gf (k+1) A)(env:Env):gf k (A.deeper env) :=
 ⟨r.hd,by let:=r.dp;show A.depth+1+3*k+5<_;lia,by let:=r.un;show A.units+3+16*k+200<_;lia,r.gd⟩
def gf.depth{k:Nat}(r:gf k A):A.depth<recursionLimit:=by let:=r.dp;lia
def MA:TA:=λ_ H Q=>Q [] H
def xS7(ta:TE)(tr:TA):TA:=λZ H Q=>ta Z H λx H1=>tr Z H1 λxs H2=>Q (x::xs) H2
section
variable{X:Cx}{e:Expr}{es:List Expr}{te:TE}{t:TA}{pos:aU}
def Om:PA X [] MA:=λ_ _ _ _ H Q I h=>Uq ⟨[],H,I,.nil,h⟩
def Fh(ha:PE X e te)(hr:PA X es t)(hs:bA (e::es) X.env=(false,eval e X.env)::bA es X.env):PA X (e::es) (xS7 te t):=by
 intro pos ae s Z H Q I h;rw[hs];show aG _ _ (spliced ((false,eval e X.env)::dW pos (bA es X.env))) _ _ s;refine Up (bf (ha ae s Z H _ I h) λu s1 h_=>?_);let(x,H1,I1,r1,q1):=h_;exact bf (hr pos ae s1 Z H1 _ I1 q1) λus s2 ⟨xs,H2,I2,r2,q2⟩=>⟨x::xs,H2,I2,.cons r1 r2,q2⟩
def zG(t:TA):TE:=λZ H Q=>t Z H λxs H1=>xs.length<=a9/\∀p,H1 p=aj->Q (.ref p) (upd H1 p (.af xs))
def Zz(t:TA):TE:=λZ H Q=>t Z H λxs H1=>xs.length<=a9/\∀p,H1 p=aj->Q (.ref p) (upd H1 p (.ai xs))
def xt7{x1}(h:PA X es t):PE X (.Tuple es x1 pos) (zG t):=by
 intro ae s Z H Q I hq;refine wpAny_Tuple_spliced (bf (h pos ae s Z H _ I hq) λus s1 ⟨xs,H1,I1,r,z,q⟩=>⟨by rw[<-r.length];exact z,?_⟩);let hf:H1 s1.heap.objs.size=aj:=I1.aF.fresh (bF _);refine(.ref s1.heap.objs.size,upd H1 s1.heap.objs.size (.af xs),I1.laid (t':=s1.toks) (λb u e=>cv _ e) (bF _) ?_,rfl,q _ hf);exact(z,us,r,⟨_,dY _ rfl,rfl,rfl,_,rfl⟩)
def xt2(h:PA X es t):PE X (.List es pos) (Zz t):=by
 intro ae s Z H Q I hq;refine VI (bf (h pos ae s Z H _ I hq) λus s1 ⟨xs,H1,I1,r,z,q⟩=>⟨by rw[<-r.length];exact z,?_⟩);let hf:H1 s1.heap.objs.size=aj:=I1.aF.fresh (bF _);refine(.ref s1.heap.objs.size,upd H1 s1.heap.objs.size (.ai xs),I1.laid (t':=s1.toks) (λb u e=>cv _ e) (bF _) ?_,rfl,q _ hf);exact(z,us,0,r,dY _ rfl)
end
@[reducible] def Sp:=List V->Hp->VK->XK->Prop
@[reducible] def kf:=List Env->Hp->au->XK->ak->au->Prop
structure zL(P:Program)(w:aY)(K:aQ)(mg:Str->Option ak)(base:aT)(A:bb)(outer:List Env)(s:au)(H:Hp):Prop where
 frames:A.frames=aa outer
 mod:Mod K mg base
 bs:∀b o,base.get? b=aa o->s.heap.get? b=aa o/\H b=aj
 n6:base.objs.size<=s.heap.objs.size
 kl:s.heap.FunFrames base outer
 sq:∀b∈jF outer,H b=aj
 aF:cI P w H s.heap
 bare:nO s.gens
def CE(outer:List Env)(P:Program)(w:aY)(H:Hp)(s:au)(Q:VK)(u:ak)(s':au):Prop :=
 ∃v H',s'.os=s.os/\nO s'.gens/\Un (jF outer) [] H H' s.heap s'.heap/\cI P w H' s'.heap/\RelV v u/\Q v H'
def CR(CX:kf)(outer:List Env)(P:Program)(w:aY)(H:Hp)(s:au)(Q:VK)(E:XK)(r:Result)(s':au):Prop :=
 match r with
 |.ok (.ret u)=>CE outer P w H s Q u s'
 |.ok _=>False
 |.error e=>CX outer H s E e s'
structure gc(P:Program)(w:aY)(K:aQ)(mg:Str->Option ak)(base:aT)(CX:kf)(k:Nat)(f:aq)(fd:j_)(ps:List Str)(sp:Sp):Prop where
 len:∀vs H Q E,sp vs H Q E->vs.length=ps.length
 run:∀(A:bb)(outer:List Env)(s:au)(H:Hp)(args:Args)(us:List ak)(vs:List V) (Q:VK) (E:XK),gf k A->zL P w K mg base A outer s H->uz s fd args (ps.zip us)->ba vs us->sp vs H Q E ->
  nV (aN P w) A (.call (.ref f) args) (CR CX outer P w H s Q E) s
section
variable{X:Cx}{ae:List (aq×aV)}{Z:St}{H:Hp}{s s':au}
def Inv.Wr(I:Inv X ae Z H s):zL X.prog X.w X.K X.mg X.base X.A X.stack s H :=
 ⟨I.ok.frames,I.ok.mod,I.bs,df I.ok.n6 I.sz,I.stack,I.Mx,I.aF,I.bare⟩
def Inv.after{Q:VK}(I:Inv X ae Z H s)(h:CE X.stack X.prog X.w H s Q u s'):EP X ae Z Q u s':=by
 let(v,H',os,bare,un,aF,r,q):=h;let(hh,g,d,t,YT):=s';obtain rfl:YT=s.os:=os;exact(v,H',I.call (h':=hh) (g':=g) (d':=d) (t':=t) (ch:=[]) un aF bare (λb z=>absurd z (by simp)),r,q)
end
def MP(sp:Sp)(lh:List V)(E:XK)(t:TA):TE:=λZ H Q=>t Z H λvs H1=>sp (vs++lh) H1 Q E
def Binds(K:aQ)(fd:j_)(ps:List Str)(ds:List ak):Prop :=
 ∀(s:au)(us:List ak),K.In s.heap->(us++ds).length=ps.length->uz s fd ⟨us,[]⟩ (ps.zip (us++ds))
def Binds.all{fd:j_}{ps:List Str}(h:∀us:List ak,us.length=ps.length->ye fd ⟨us,[]⟩=pure (ps.zip us)):Binds K fd ps []:=λs us _ hl=>by
 rw[lZ]at hl ⊢;exact .of_eq (h us hl)
def An(CX:kf)(X:Cx)(E:XK):Prop:=∀(ae:List (aq×aV)) (Z:St) (H:Hp) (s:au) (e:ak) (s':au),Inv X ae Z H s->CX X.stack H s E e s'->X.xe e s'
section
variable{X:Cx}{CX:kf}{k:Nat}{f C:aq}{fd:j_}{ps:List Str}{sp:Sp}{lh:List V}{ds:List ak}{E:XK}{x m:Str}{p pos fw:aU}{e o:Expr}{es:List Expr}{ta:TE}{t:TA}
def Ov{Q:VK}{vs:List V}(F:gc X.prog X.w X.K X.mg X.base CX k f fd ps sp)(hr:gf k X.A)(hb:Binds X.K fd ps ds)(hd:ba lh ds)(hx:An CX X E)
  (I:Inv X ae Z H s) (r:ba vs us) (h:sp (vs++lh) H Q E):aG (aN X.prog X.w) X.A (call (.ref f) us) (EP X ae Z Q) X.xe s:=by
 let r2:ba (vs++lh) (us++ds):=r.append hd;let hl:(us++ds).length=ps.length:=by rw[<-r2.length];exact F.len _ _ _ _ h
 refine wpAny_call (yf (F.run X.A X.stack s H ⟨us,[]⟩ (us++ds) (vs++lh) Q E hr I.Wr (hb s us I.eA hl) r2 h) λr s' hq=>?_);cases r with
 |error e=>exact hx ae Z H s e s' I hq
 |ok fl=>
  cases fl with
  |ret u=>exact I.after hq
  |next=>exact ju hq
  |brk=>exact ju hq
  |cont=>exact ju hq
def xa3(F:gc X.prog X.w X.K X.mg X.base CX k f fd ps sp)(hr:gf k X.A)(hg:Gl X x)(hm:X.mg x=aa (.ref f))(hk:pU X.K (.ref f)=true)(hb:Binds X.K fd ps ds)(hd:ba lh ds)(hx:An CX X E)
  (ha:PA X (e::es) t) (gY:(x==("__debug__" : Str))=false) (he:bA (e::es) X.env=(false,eval e X.env)::bA es X.env) (dH:(dW pos (bA es X.env)).any (·.1)=false) :
  PE X (.Call (.Name x p) (e::es) [] pos) (MP sp lh E t):=by
 intro ae s Z H Q I h;refine p6 (Ff I hg hm ?_ gY);refine PySem.W.callWith_K (h₀:=X.base) I.ok.mod.DG hk (bf (ha pos ae s Z H _ I h) λus s1 ⟨vs,H1,I1,r,q⟩=>⟨I1.eA,?_⟩) he dH;exact Ov F hr hb hd hx I1 r q
def yH7(F:gc X.prog X.w X.K X.mg X.base CX k f fd ps sp)(hr:gf k X.A)(hg:Gl X x)(hm:X.mg x=aa (.ref f))(hk:pU X.K (.ref f)=true)(hb:Binds X.K fd ps ds)(hd:ba lh ds)(hx:An CX X E)
  (gY:(x==("__debug__" : Str))=false):PE X (.Call (.Name x p) [] [] pos) (MP sp lh E MA):=by
 intro ae s Z H Q I h;refine p6 (Ff I hg hm ?_ gY);exact PySem.W.callWith_K0 I.eA hk (Ov (us:=[]) F hr hb hd hx I .nil h)
end
section
variable{X:Cx}{CX:kf}{k:Nat}{f C:aq}{fd:j_}{ps ks:List Str}{sp:Sp}{E:XK}{x m:Str}{p pos fw ad7:aU}{e o:Expr}{es:List Expr}{kws:List nP}{te ta:TE}{t tk:TA}{nm:Option Str}
variable{g:List ak->List ak->List ak}{gV:List V->List V->List V}
end
structure wB(N P:List Str)(sc:cB):Prop where
 kind:sc.kind=.function
 co:sc.isCoroutine=false
 gen:sc.isGenerator=false
 nd:N.Nodup
 pre:N.take P.length=P
 par:∀x∈P,sc.names.lookup x=aa .local\/sc.names.lookup x=aa .cell
 YD:∀y∈sc.names,y.2≠.free
def RC{kindOf:Str->Option k6}{x:Str}:∀{binds:List (Str×ak)}{m:Str->Option ak},(∀v,(x,v)∉binds)->pX kindOf binds m x=m x
 |[],_,_=>rfl
 | (n,v)::r,m,h=>by
  unfold pX;rw[RC λw hw=>h w (b5 _ hw)];split
  .let:x≠n:=by rintro rfl;exact h v gy
   simp[this]
  .rfl
def RA{kindOf:Str->Option k6}{x:Str}:∀{binds:List (Str×ak)}{m:Str->Option ak},(∀v,(x,v)∉binds)->pW kindOf binds m x=m x
 |[],_,_=>rfl
 | (n,v)::r,m,h=>by
  unfold pW;rw[RA λw hw=>h w (b5 _ hw)];split
  .rfl
  .let:x≠n:=by rintro rfl;exact h v gy
   simp[this]
def RB{kindOf:Str->Option k6}{x:Str}{v:ak}:∀{P:List Str}{vs:List ak}{i:Nat}{m:Str->Option ak},P.Nodup->P[i]?=aa x->vs[i]?=aa v->kindOf x=aa .local ->
  pX kindOf (P.zip vs) m x=aa v
 |[],_,_,_,_,h,_,_=>by simp at h
 |_::_,[],_,_,_,_,h,_=>by simp at h
 | p::P,w::vs,0,m,nd,h1,h2,hk=>by
  simp at h1 h2;subst h1;subst h2;show pX kindOf ((p,w)::P.zip vs) m p=_;unfold pX;rw[RC λv hv=>(l6.mp nd).1 (fE hv).1,if_pos hk];simp
 | p::P,w::vs,i+1,m,nd,h1,h2,hk=>by
  show pX kindOf ((p,w)::P.zip vs) m x=_;unfold pX;exact RB (i:=i) (l6.mp nd).2 (by simpa using h1) (by simpa using h2) hk
def Ry{kindOf:Str->Option k6}{x:Str}{v:ak}:∀{P:List Str}{vs:List ak}{i:Nat}{m:Str->Option ak},P.Nodup->P[i]?=aa x->vs[i]?=aa v->kindOf x≠aa .local ->
  pW kindOf (P.zip vs) m x=aa v
 |[],_,_,_,_,h,_,_=>by simp at h
 |_::_,[],_,_,_,_,h,_=>by simp at h
 | p::P,w::vs,0,m,nd,h1,h2,hk=>by
  simp at h1 h2;subst h1;subst h2;show pW kindOf ((p,w)::P.zip vs) m p=_;unfold pW;rw[RA λv hv=>(l6.mp nd).1 (fE hv).1,if_neg hk];simp
 | p::P,w::vs,i+1,m,nd,h1,h2,hk=>by
  show pW kindOf ((p,w)::P.zip vs) m x=_;unfold pW;exact Ry (i:=i) (l6.mp nd).2 (by simpa using h1) (by simpa using h2) hk
def start(N:List Str)(vs:List V):St:=vs.map aa++cG (N.length-vs.length) aj
abbrev qF(CX:kf)(P:Program)(w:aY)(K:aQ)(mg:Str->Option ak)(base:aT)(N:List Str)(qual:Str)(scope:cB)(f:aq)(cd:ak)(A:bb)(outer:List Env)(s:au)(H:Hp)(E:XK):Cx where
 prog:=P
 w:=w
 K:=K
 mg:=mg
 base:=base
 A:=A.deeper (md qual scope s.heap.objs.size f cd)
 N:=N
 s₀:=s
 H₀:=H
 env:=md qual scope s.heap.objs.size f cd
 outer:=outer
 stack:=md qual scope s.heap.objs.size f cd::outer
 ex:=[]
 calm:=true
 fn:=λ_=>true
 pn:=[]
 xe:=λe s'=>aG (aN P w) (A.deeper (md qual scope s.heap.objs.size f cd)) (leaving (md qual scope s.heap.objs.size f cd) e) (λ_ D3=>CX outer H s E e D3) (λe' D3=>CX outer H s E e' D3) s'
def OT{sc:cB}{n:Nat}(h:sc.names.lookup x=aa .cell):∃c,(jz n sc.names []).lookup x=aa c:=by
 let q:=Vs sc.names n [] (.inl h);exact Option.isSome_iff_exists.mp q
def ys9{CX:kf}{mg:Str->Option ak}{base:aT}{N ps:List Str}{qual:Str}{scope:cB}{f:aq}{cd:ak}{outer:List Env}{s1:au}{E:XK}{vs:List V}
  (S:wB N ps scope) (hd:A.handled=aj) (e0:zL P w K mg base A outer s H) (hl:vs.length=ps.length) (r:ba vs us)
  (x:InCallC s s.heap.objs.size (pX (md qual scope s.heap.objs.size f cd).kindOf (ps.zip us) λ_=>aj) (jz (s.heap.objs.size+1) scope.names []) (pW (md qual scope s.heap.objs.size f cd).kindOf (ps.zip us) λ_=>aj) s1) :
  Inv (qF CX P w K mg base N qual scope f cd A outer s H E) [] (start N vs) H s1:=by
 let dH:ps.length<=N.length:=by let:=congrArg b7 S.pre;rw[l5]at this;lia
 let(h1,tk,rfl,hk):=x.done;let vM:∀b:aq,b∉(qF CX P w K mg base N qual scope f cd A outer s H E).ex:=λb z=>absurd (show b∈([]:List aq)from z) (by simp)
 refine(⟨e0.mod,S.kind,rfl,rfl,bF _,λy z c h1 h2=>?_,λy hy=>?_,λy c _ h=>?_,λ_=>hd,Around.frames_deeper e0.frames,.inr ⟨rfl,rfl⟩,λb z=>absurd z (vM b),e0.bs,e0.n6,λb _ _=>vM b,λb z=>absurd z (vM b),e0.kl,e0.sq⟩,
  rfl,e0.bare,Un.kept hk,⟨_,x.toInCall.ns,λi y v h1 h2 h3=>?_⟩,λy c h=>⟨_,x.cell y c h⟩,e0.aF.fresh (bF _),λy c h=>?_,λp hp=>absurd (show p∈([]:List (aq×aV))from hp) (by simp),e0.aF.kept hk,?_)
 .exact name_of_addr x.apart (uH h1) (uH h2)
 .let hy:scope.names.lookup y=aa .cell\/scope.names.lookup y=aa .free:=hy;rcases hy with hy |hy
  .exact OT hy
  .exact absurd rfl (S.YD _ (uH hy))
 .exact uw (x.above y c (uH h))
 .let hi:i<vs.length:=by
   unfold start at h2;by_cases hi:i<vs.length
   .exact hi
   .rw[uo (by simpa using hi)]at h2;rw[Bu]at h2;split at h2<;>cases h2
  let ha:vs[i]?=aa v:=by
   unfold start at h2;rw[jv (by simpa using hi),eC]at h2;cases e:vs[i]? with
   |none=>rw[e]at h2;cases h2
   |some a=>rw[e]at h2;cases h2;rfl
  let(u,hu,rv):=r.get ha;let hp:ps[i]?=aa y:=by
   rw[<-S.pre,List.getElem?_take_of_lt ()];exact h1
  let LN:ps.Nodup:=by rw[<-S.pre];exact S.nd.sublist (xN _ _)
  refine(u,rv,?_);rcases S.par y (eE hp)with k |k
  .exact .inl ⟨k,RB LN hp hu k⟩
  .let(c,e):=OT (n:=s.heap.objs.size+1) k;refine .inr ⟨.inl k,c,e,?_⟩;let q:=x.cell y c e;rw[Ry LN hp hu (by show scope.names.lookup y≠_;rw[k];decide)]at q;exact q
 .exact e0.aF.fresh (uw (x.above y c (uH h)))
 .unfold start;show _=N.length;rw[cA,cy,Ta];lia
def ω{CX:kf}{mg:Str->Option ak}{base:aT}{k:Nat}{f:aq}{name qual:Str}{params:xX}{scope:cB}{dV kV doc pm cdv ct oc:ak}{an od:Option aq}
  {jc:Array (Option ak)} {N ps:List Str} {sp:Sp} (lk:K.lookup f=aa ⟨oc,od,.func (nR name qual params body scope dV kV doc pm an cdv ct),jc⟩) (i_:codeIn K cdv qual=true) (S:wB N ps scope)
  (len:∀vs H Q E,sp vs H Q E->vs.length=ps.length)
  (CW:∀(A:bb)(outer:List Env)(s:au)(H:Hp)(vs:List V)(Q:VK)(E:XK),gf k (A.deeper (md qual scope s.heap.objs.size f cdv))->sp vs H Q E ->
   ∃t,fF (qF CX P w K mg base N qual scope f cdv A outer s H E) body t/\t { nx:=λ_ H'=>Q .aL H',rt:=Q } (start N vs) H) :
  gc P w K mg base CX (k+1) f (nR name qual params body scope dV kV doc pm an cdv ct) ps sp:=by
 refine(len,λA outer s H args us vs Q E hr e0 hb r oj=>?_);let hl:=len _ _ _ _ oj;let KX:K.In s.heap:=e0.mod.DG.keeps λb o e=>(e0.bs b o e).1;let lim:s.heap.NoLimit:=e0.mod.nolimit.keeps λb o e=>(e0.bs b o e).1;let Xw:∀y∈ps.zip us,scope.names.lookup y.1=aa .local\/(scope.names.lookup y.1=aa .cell/\((jz (s.heap.objs.size+1) scope.names []).lookup y.1).isSome=true):=λ⟨n,v⟩ hy=>by
  rcases S.par n (fE hy).1 with q |q
  .exact .inl q
  .exact .inr ⟨q,Vs _ _ _ (.inl q)⟩
 refine codeAny_call_function hr.depth (KX _ _ lk) rfl S.co S.gen rfl (PySem.W.codeRec_of KX i_) (hb _ _ _ _ ?_);refine wpAny_newFunctionEnv_cells S.kind Xw λenv he s1 x=>?_;subst he;refine(lim.keeps x.toInCall.keep,codeAny_func ?_);let(t,ht,hq):=CW A outer s H vs Q E (hr.deeper _) oj;let I:Inv (qF CX P w K mg base N qual scope f cdv A outer s H E) [] (start N vs) H s1:=ys9 S hr.hd e0 hl r x;refine k7 (ht [] s1 (start N vs) H _ I hq) (λfl s' hs=>?_) λe s' hs=>hs;let fin:∀{Z':St}{H':Hp}{v:V}{u:ak},Inv (qF CX P w K mg base N qual scope f cdv A outer s H E) [] Z' H' s'->RelV v u->Q v H'->CE outer P w H s Q u s' :=
  λ{Z' H' v u} J rv q=>⟨v,H',J.os,J.bare,J.base,J.aF,rv,q⟩
 cases fl with
 |ret u=>
  let(v,Z',H',J,rv,q):=hs;exact fin J rv q
 |next=>
  let(Z',H',J,q):=hs;exact fin (v:=V.aL) (u:=gA) J rfl q
 |brk=>
  let(_,_,_,q):=hs;exact ju q
 |cont=>
  let(_,_,_,q):=hs;exact ju q
section
variable{X:Cx}{x:Str}{p pos:aU}{e:Expr}{es:List Expr}{t:TA}{id T:String}{r:List V->Hp->VK->Prop}
def zA(r:List V->Hp->VK->Prop)(t:TA):TE:=λZ H Q=>t Z H λvs H1=>r vs H1 Q
def Pt(hc:nj X (.builtin id) r)(hg:Gl X x)(hm:X.mg x=aj)(hv:gD x=aa (.builtin id))(ha:PA X (e::es) t)(hn:x ≠ "__name__")(gY:(x==("__debug__" : Str))=false)
  (he:bA (e::es) X.env=(false,eval e X.env)::bA es X.env) (dH:(dW pos (bA es X.env)).any (·.1)=false):PE X (.Call (.Name x p) (e::es) [] pos) (zA r t):=by
 intro ae s Z H Q I h;refine p6 (oR I hg hm hv ?_ hn gY);exact T9 (bf (ha pos ae s Z H _ I h) λus s1 ⟨vs,H1,I1,r1,q1⟩=>hc ae s1 Z H1 vs us Q I1 r1 q1) he dH
def yw3(hc:nj X (.type T) r)(hg:Gl X x)(hm:X.mg x=aj)(hv:gD x=aa (.type T))(ha:PA X (e::es) t)(hn:x ≠ "__name__")(gY:(x==("__debug__" : Str))=false)
  (he:bA (e::es) X.env=(false,eval e X.env)::bA es X.env) (dH:(dW pos (bA es X.env)).any (·.1)=false):PE X (.Call (.Name x p) (e::es) [] pos) (zA r t):=by
 intro ae s Z H Q I h;refine p6 (oR I hg hm hv ?_ hn gY);exact xW (bf (ha pos ae s Z H _ I h) λus s1 ⟨vs,H1,I1,r1,q1⟩=>hc ae s1 Z H1 vs us Q I1 r1 q1) he dH
end
section
variable{κ:Type}[DecidableEq κ]
def jR(av:List (κ×V))(k:κ):Option V:=(av.find? λkv=>decide (kv.1=k)).map (·.2)
def fk(av:List (κ×V))(k:κ)(v:V):List (κ×V) :=
 if(av.any λkv=>decide (kv.1=k))=true then av.map (λkv=>if kv.1=k then(kv.1,v)else kv)else av++[(k,v)]
def AO{p:κ×V}{r:List (κ×V)}{k:κ}(e:p.1=k):jR (p::r) k=aa p.2:=by simp[jR,uk,e]
def AN{p:κ×V}{r:List (κ×V)}{k:κ}(e:¬p.1=k):jR (p::r) k=jR r k:=by simp[jR,uk,e]
def PK(k:κ):∀av:List (κ×V),(av.any λkv=>decide (kv.1=k))=(jR av k).isSome
 |[]=>rfl
 | p::r=>by
  rw[xx];by_cases e:p.1=k
  .simp only[AO e,decide_eq_true e,Bool.true_or,T4]
  .rw[AN e,decide_eq_false e,Bool.false_or];exact PK k r
def G9(av:List (κ×V))(k:κ)(v:V):(fk av k v).length<=av.length+1:=by
 unfold fk;split
 .rw[cy];lia
 .rw[cA,c6,gx];lia
def kG.Yk{o:Option V}{u:Option ak}(r:kG o u):o.isSome=u.isSome:=by
 cases o with
 | none=>cases u with
  |none=>rfl
  |some _=>exact(show False from r).elim
 | some _=>cases u with
  |none=>exact(show False from r).elim
  |some _=>rfl
def KV.val{av:List (κ×V)}{vs:List (κ×ak)}(r:KV av vs)(k:κ):kG (jR av k) (rQ vs k):=by
 unfold KV at r;induction r with
 |nil=>exact jB
 |@cons p q ps qs h t ih=>
  let(h1,h2):=h;by_cases e:p.1=k
  .let e':q.1=k:=h1.symm.trans e;let b:rQ (q::qs) k=aa q.2:=by simp[rQ,uk,e']
   rw[AO e,b];exact h2
  .let e':¬q.1=k:=λz=>e (h1.trans z);let b:rQ (q::qs) k=rQ qs k:=by simp[rQ,uk,e']
   rw[AN e,b];exact ih
def KV.any{av:List (κ×V)}{vs:List (κ×ak)}(r:KV av vs)(k:κ):(av.any λkv=>decide (kv.1=k))=vs.any λkv=>decide (kv.1=k):=by
 unfold KV at r;induction r with
 |nil=>rfl
 |cons h t ih=>rw[xx,xx,ih,h.1]
def KV.DZ{av:List (κ×V)}{vs:List (κ×ak)}(r:KV av vs)(k:κ)(ry:RelV y u):
  KV (av.map λkv=>if kv.1=k then(kv.1,y)else kv) (vs.map λkv=>if kv.1=k then(kv.1,u)else kv):=by
 unfold KV at r ⊢;induction r with
 |nil=>exact .nil
 |@cons p q ps qs h t ih=>
  rw[bJ,bJ];refine .cons ?_ ih;let(h1,h2):=h;by_cases e:p.1=k
  .rw[if_pos e,if_pos (h1.symm.trans e)];exact(h1,ry)
  .rw[if_neg e,if_neg (λz=>e (h1.trans z))];exact(h1,h2)
def KV.put{av:List (κ×V)}{vs:List (κ×ak)}(r:KV av vs)(k:κ)(ry:RelV y u):KV (fk av k y) (stored vs k u):=by
 unfold fk stored;rw[r.any k];by_cases e:(vs.any λkv=>decide (kv.1=k))=true
 .rw[if_pos e,if_pos e];exact r.DZ k ry
 .rw[if_neg e,if_neg e];exact U4 r ⟨rfl,ry⟩
def KV.length{av:List (κ×V)}{vs:List (κ×ak)}(r:KV av vs):av.length=vs.length:=BO r
end
def Ab{k:Key}(r:RelV (kV k) u):(gp P w).is k u=true:=by
 cases k with
 |inl i=>let(t,e):=(show ∃t,u=mh i t from r);subst e;exact yb4 P w i t
 |inr x=>let(t,e):=(show ∃t,u=yd x t from r);subst e;exact yb5 P w x t
def Bg{P:Program}{w:aY}:∀{ks:List Key}{us:List ak},ba (ks.map kV) us->ItemsAre (gp P w) ks us
 |[],_,r=>by rw[eD]at r;cases r;exact .nil
 | k::ks,_,r=>by
  rw[bJ]at r;cases r with
  |cons h t=>exact .cons (Ab h) (Bg t)
@[reducible] abbrev KT(H:Hp):List (List Key×V)->List (List Key×aq×ak)->Prop:=cn λp q=>p.1=q.1/\Rd H q.2.1 (.af (p.1.map kV))/\RelV p.2 q.2.2
variable{av:List (List Key×V)}{xs:List (List Key×aq×ak)}
def KT.val(r:KT H av xs)(k:List Key):kG (jR av k) ((nS xs k).map (·.2)):=by
 induction r with
 |nil=>exact jB
 |@cons p q ps qs h t ih=>
  let(h1,_,h2):=h;by_cases e:p.1=k
  .let e':q.1=k:=h1.symm.trans e;let b:nS (q::qs) k=aa q.2:=by simp[nS,uk,e']
   rw[AO e,b];exact h2
  .let e':¬q.1=k:=λz=>e (h1.trans z);let b:nS (q::qs) k=nS qs k:=by simp[nS,uk,e']
   rw[AN e,b];exact ih
def KT.DZ(r:KT H av xs)(k:List Key)(ry:RelV y u):
  KT H (av.map λkv=>if kv.1=k then(kv.1,y)else kv) (xs.map (putAt k u)):=by
 induction r with
 |nil=>exact .nil
 |@cons p q ps qs h t ih=>
  rw[bJ,bJ];refine .cons ?_ ih;let(h1,h2,h3):=h;unfold putAt;by_cases e:p.1=k
  .rw[if_pos e,if_pos (h1.symm.trans e)];exact(h1,h2,ry)
  .rw[if_neg e,if_neg (λz=>e (h1.trans z))];exact(h1,h2,h3)
def KT.put(r:KT H av xs)(k:List Key)(hb:Rd H b (.af (k.map kV)))(ry:RelV y u):
  KT H (fk av k y) (storedH xs k b u):=by
 let e:(av.any λkv=>decide (kv.1=k))=(nS xs k).isSome:=by
  rw[PK,(r.val k).Yk,Option.isSome_map]
 unfold fk storedH;rw[e];by_cases q:(nS xs k).isSome=true
 .rw[if_pos q,if_pos q];exact r.DZ k ry
 .rw[if_neg q,if_neg q];exact U4 r ⟨rfl,hb,ry⟩
def KT.keeps(r:KT H av xs)(ht:∀b ys,Rd H b (.af ys)->Rd H' b (.af ys)):KT H' av xs :=
 Paired.DL r λ_ _ z=>⟨z.1,ht _ _ z.2.1,z.2.2⟩
section
variable{P:Program}{w:aY}{H:Hp}{h:aT}{a:aq}
def EK{u:HO}(ok:cI P w H h)(e:Rd H a u):dz P w H h a u:=e.ok ok
def E3{av:List (Key×V)}(ok:cI P w H h)(e:Rd H a (.dK av)):av.length<=a9/\(a==nX)=false/\∃vs,KV av vs/\h.DictOf (gp P w) a vs :=
 show dz P w H h a (.dK av)from EK ok e
def NC{av:List (Key×V)}(ok:cI P w H h)(e:H a=aa (.dK av)):av.length<=a9/\(a==nX)=false/\∃vs,KV av vs/\h.DictOf (gp P w) a vs:=E3 ok (.inl e)
def Ft{ks:List Key}(ok:cI P w H h)(e:Rd H a (.af (ks.map kV))):(yi (gp P w)).is h ks a:=by
 let(_,aw,r,o,h1,h2,_,n,h3):=(show dz P w H h a (.af (ks.map kV))from EK ok e);exact(o,aw.toArray,n,h1,h2,h3,by simpa using Bg r)
def E5(ok:cI P w H h)(e:Rd H a (.dT av)):av.length<=a9/\(a==nX)=false /\
  ∃xs,KT H av xs/\h.DictOfH (yi (gp P w)) a xs:=by
 let(z,y,xs,r,o,es,ep,h1,h2,h3,h4,h5):=(show dz P w H h a (.dT av)from EK ok e);refine(z,y,xs,r,o,es,ep,h1,h2,h3,h4,λx hx=>?_,h5);let all:∀{l:List (List Key×V)}{m:List (List Key×aq×ak)},KT H l m->∀x∈m,(yi (gp P w)).is h x.1 x.2.1:=by
  intro l m q;induction q with
  |nil=>intro x hx;exact nomatch hx
  |@cons p q ps qs hq t ih=>
   intro x hx;rcases bN.mp hx with e |hx
   .subst e;exact Ft ok (by rw[<-hq.1];exact hq.2.1)
   .exact ih x hx
 exact all r x hx
def τ(ok:cI P w H h)(e:H a=aa (.dT av)):av.length<=a9/\(a==nX)=false /\
  ∃xs,KT H av xs/\h.DictOfH (yi (gp P w)) a xs:=E5 ok (.inl e)
end
def sU(H:Hp)(a:aq)(y:V)(r:Option V):Prop :=
 (∃av k,Rd H a (.dK av)/\y=kV k/\r=jR av k)\/∃av k b,Rd H a (.dT av)/\y=.ref b/\Rd H b (.af (k.map kV))/\r=jR av k
def v5(H:Hp)(a:aq)(y v:V)(H':Hp):Prop :=
 (∃av k,H a=aa (.dK av)/\y=kV k/\av.length<a9/\H'=upd H a (.dK (fk av k v))) \/
 ∃av k b,H a=aa (.dT av)/\y=.ref b/\Rd H b (.af (k.map kV))/\av.length<a9/\H'=upd H a (.dT (fk av k v))
def sU.k{H:Hp}{a:aq}{av:List (Key×V)}{k:Key}(e:H a=aa (.dK av)):sU H a (kV k) (jR av k):=.inl ⟨av,k,.inl e,rfl,rfl⟩
def v5.k{H:Hp}{a:aq}{av:List (Key×V)}{k:Key}{v:V}(e:H a=aa (.dK av))(hl:av.length<a9):v5 H a (kV k) v (upd H a (.dK (fk av k v))):=.inl ⟨av,k,e,rfl,hl,rfl⟩
section
variable{X:Cx}{ae:List (aq×aV)}{Z:St}{H:Hp}{s:au}{a:aq}{y v:V}{u r:ak}{o:Option V}{A:bb}{E:ak->au->Prop}
def Inv.Jq(I:Inv X ae Z H s):nX<s.heap.objs.size:=by
 let h:fv<s.heap.objs.size:=(I.mod.glob.keeps I.bk).lt;exact ux (by decide) h
def yq2{Q:ak->au->Prop}(hu:A.units+1<c8)(I:Inv X ae Z H s)(g:sU H a y (aa v))(ry:RelV y u)(h:∀w' s',Inv X ae Z H s'->RelV v w'->Q w' s'):
  aG (aN X.prog X.w) A (getItem (.ref a) u) Q E s:=by
 rcases g with⟨av,k,e,ey,l⟩|⟨av,k,b,e,ey,eb,l⟩
 .subst ey;let(z,hd,vs,rel,dd):=E3 I.aF e;let(w',hw,jd):=kG.some_of (v:=v) (o:=rQ vs k) (by rw[l];exact rel.val k);exact wpAny_getItem_of (Ab ry) dd.mapOf hw (h w' _ (I.tok _) jd)
 .subst ey;cases(show u=b9 b from ry);let(z,hd,xs,rel,dd):=E5 I.aF e;let(w',hw,jd):=kG.some_of (v:=v) (o:=(nS xs k).map (·.2)) (by rw[l];exact rel.val k);let(p,hp,XO):=d9.mp hw;refine wpAny_getItem_heap (VH hu) (Ft I.aF eb) dd hp ?_;rw[XO];exact h w' _ (I.tok _) jd
def GI{h':aT}{ob:HO}(I:Inv X ae Z H s)(mu:uR (H a))(hs:gS a s.heap h')(he:∃q,h'.get? a=aa q)(new:dz X.prog X.w (upd H a ob) h' a ob):
  Inv X ae Z (upd H a ob) { s with heap:=h',toks:=t' } :=
 I.write (x:=a) (e:=a) mu (.inl rfl) (λb q hb z=>(hs.2 b hb).trans z) he new
def N7{h':aT}{av:List (Key×V)}{vs:List (Key×ak)}(z:av.length<=a9)(hd:(a==nX)=false)(rel:KV av vs)(dd:h'.DictOf (gp P w) a vs):
  dz P w H' h' a (.dK av):=⟨z,hd,vs,rel,dd⟩
def yq3(hu:A.units+1<c8)(I:Inv X ae Z H s)(g:v5 H a y v H')(ry:RelV y u)(rv:RelV v r)(h:∀s',Inv X ae Z H' s'->Q Unit.unit s'):
  aG (aN X.prog X.w) A (setItem (.ref a) u r) Q E s:=by
 rcases g with⟨av,k,e,ey,l,eH⟩|⟨av,k,b,e,ey,eb,l,eH⟩
 .subst ey eH;let(z,hd,vs,rel,dd):=NC I.aF e;let hz:vs.length<=a9:=by rw[<-rel.length];exact z
  let hl:(fk av k v).length<=a9:=by let:=G9 av k v;lia
  refine wpAny_setItem_pairs (hsz:=hz) (Ab ry) dd λh' qd hs=>h _ ?_;let he:∃q,h'.get? a=aa q:=let⟨q,_,_,hq,_⟩:=qd;⟨q,hq⟩;exact GI I (by rw[e];exact jB) hs he (N7 hl hd (rel.put k rv) qd)
 .subst ey eH;cases(show u=b9 b from ry);let(z,hd,xs,rel,dd):=τ I.aF e;let hz:xs.length<=a9:=by rw[<-BO rel];exact z
  let hl:(fk av k v).length<=a9:=by let:=G9 av k v;lia
  refine wpAny_setItem_heap (hsz:=hz) (VH hu) (Ft I.aF eb) dd λh' qd hs=>h _ ?_;let(q,es,ep,hq,h2,h3,h4,_,h5):=qd;refine GI I (by rw[e];exact jB) hs ⟨q,hq⟩ ⟨hl,hd,_,(rel.put k eb rv).keeps λc ys ec=>?_,q,es,ep,hq,h2,h3,h4,h5⟩;exact ec.past λz=>by subst z;rcases ec with r |⟨_,r⟩<;>rw[e]at r<;>cases r
end
section
variable{X:Cx}{ae:List (aq×aV)}{Z:St}{H:Hp}{s:au}{a:aq}{av:List (Key×V)}{k:Key}{u:ak}{A:bb}{E:ak->au->Prop}
end
def zZ7{o:Option V}(I:Inv X ae Z H s)(g:sU H a y o):s.TypeIs (.ref a) "dict" := by
 rcases g with⟨av,k,e,_,_⟩|⟨av,k,b,e,_,_,_⟩
 .let(_,_,vs,_,dd):=E3 I.aF e;exact dd.typeIs
 .let(_,_,xs,_,dd):=E5 I.aF e;exact dd.typeIs
section
variable{X:Cx}{o i e value:Expr}{pos dn mW:aU}{td ty tv:TE}
end
def OY(h:aT)(hb:nX<h.objs.size):dz P w H (h.push { cls:=.type "dict", data:=.dict #[] }) h.objs.size (.dK []) :=
 ⟨ft _,beq_eq_false_iff_ne.mpr (l8 (eG hb)),[],.nil,Heap.DictOf.new h⟩
section
variable{X:Cx}{pos:aU}
end
abbrev Aw:List (TE×TE)->St->Hp->(List (V×V)->Hp->Prop)->Prop
 |[],_,H,Q=>Q [] H
 |(tk,tv)::r,Z,H,Q=>tk Z H λx H1=>tv Z H1 λy H2=>Aw r Z H2 λps H3=>Q ((x,y)::ps) H3
@[reducible] abbrev VV:List (V×V)->List (ak×ak)->Prop:=cn λp q=>RelV p.1 q.1/\RelV p.2 q.2
def mq(X:Cx)(pos:aU)(keys:List (Option Expr))(values:List Expr)(mX:List (TE×TE)):Prop :=
 ∀(ae:List (aq×aV)) (s:au) (Z:St) (H:Hp) (Q:List (V×V)->Hp->Prop),Inv X ae Z H s->Aw mX Z H Q ->
  aG (aN X.prog X.w) X.A (evalPairs (pairTrees keys values X.env pos)) (λvs s'=>∃ps H',Inv X ae Z H' s'/\VV ps vs/\Q ps H') X.xe s
def xa9{pos:aU}:mq X pos [] [] []:=λae s Z H Q I h=>pairTrees_nil_walk ⟨[],H,I,.nil,h⟩
def yI6{pos:aU}{k v:Expr}{ks:List (Option Expr)}{vs:List Expr}{tk tv:TE}{mX:List (TE×TE)}(hk:PE X k tk)(hv:PE X v tv)(hr:mq X pos ks vs mX):
  mq X pos (aa k::ks) (v::vs) ((tk,tv)::mX):=λae s Z H Q I h =>
 pairTrees_cons_walk (bf (hk ae s Z H _ I h) λu s1 ⟨x,H1,I1,rx,q1⟩=>bf (hv ae s1 Z H1 _ I1 q1) λw2 s2 ⟨y,H2,I2,ry,q2⟩ =>
  bf (hr ae s2 Z H2 _ I2 q2) λws s3 ⟨ps,H3,I3,rel,q3⟩=>⟨(x,y)::ps,H3,I3,.cons ⟨rx,ry⟩ rel,q3⟩)
def oV(av more:List (Key×V)):List (Key×V):=more.foldl (λacc kv=>fk acc kv.1 kv.2) av
def KV.merge:∀{more:List (Key×V)}{rs:List (Key×ak)}{av:List (Key×V)}{vs:List (Key×ak)},KV more rs->KV av vs->KV (oV av more) (merged vs rs):=by
 intro more rs av vs r;unfold KV at r;induction r generalizing av vs with
 |nil=>intro q;exact q
 |@cons p q ps qs h t ih=>
  intro r0;let e:KV (fk av p.1 p.2) (stored vs q.1 q.2):=by
   let:=r0.put p.1 h.2;rw[<-h.1];exact this
  exact ih e
def Ss:∀(more av:List (Key×V)),(oV av more).length<=av.length+more.length
 |[],av=>by show av.length<=av.length+0;lia
 | p::r,av=>by
  let h1:=Ss r (fk av p.1 p.2);let h2:=G9 av p.1 p.2;show(oV (fk av p.1 p.2) r).length<=_;rw[c6];lia
def Rb{P:Program}{w:aY}:∀{av:List (Key×V)}{ws:List (ak×ak)},VV (av.map λkv=>(kV kv.1,kv.2)) ws->∃rs,Carries (gp P w) ws rs/\KV av rs
 |[],_,r=>by rw[eD]at r;cases r;exact([],jB,.nil)
 | p::av,_,r=>by
  rw[bJ]at r;cases r with
  |@cons a b as bs h t=>
   let(rs,c,q):=Rb (P:=P) (w:=w) t;let(b1,b2):=b;exact((p.1,b2)::rs,⟨Ab h.1,rfl,c⟩,.cons ⟨rfl,h.2⟩ q)
section
variable{X:Cx}{ae:List (aq×aV)}{Z:St}{H:Hp}{s:au}{a:aq}{y d:V}{u r:ak}{o:Option V}{A:bb}{E:ak->au->Prop}
end
section
variable{X:Cx}{o e f:Expr}{fw di:aU}{td ty tx:TE}
end
section
variable{X:Cx}{ae:List (aq×aV)}{Z:St}{H:Hp}{s:au}{a:aq}{av:List (Key×V)}{A:bb}{E:ak->au->Prop}
end
section
variable{X:Cx}{ae:List (aq×aV)}{Z:St}{H:Hp}{s:au}{a:aq}{y:V}{u:ak}{A:bb}{E:ak->au->Prop}
end
end L2
namespace HT
open PySem PyProof.Rows
section
open PySem.SeqAt
open PySem.AutoSeq1 (wpAny_loadPart')
open PySem.MeetsSeq PySem.MeetsSeq2 PySem.MeetsSeq3
end
section
variable{prog:Program}{w:aY}{A:bb}{E:ak->au->Prop}{s:au}
def Wh{t b:aq}{vs ws:List ak}{Q:ak->au->Prop}(ht:IsTup s.heap t vs.toArray)(hb:IsTup s.heap b ws.toArray)(hv:vs≠[])
  (h1:ws=[]->Q (.ref t) s) (h2:ws≠[]->Q (.ref s.heap.objs.size) { s with heap:=s.heap.push { cls:=.type "tuple", data:=.seq (vs++ws).toArray } })
  (hsz:vs.length+ws.length<=a9):aG (aN prog w) A (binaryOp .Add (.ref t) (.ref b)) Q E s:=by
 obtain⟨⟨cls,dd,data,sl⟩,ho,hc,n,hd⟩:=id ht;obtain⟨⟨Cy,n9,data2,mT⟩,dk,i9,n2,cf⟩:=id hb;simp only at hc hd i9 cf;subst hc hd i9 cf;let e:vs.toArray++ws.toArray=(vs++ws).toArray:=by simp
 by_cases hw:ws=[]
 .exact concat_meets ⟨_,ho,rfl⟩ ⟨_,dk,rfl⟩ noFill_tuple_add seq_tuple_add Ii Ig (Ic _ _)
   (tuple_addW1 t b vs.toArray ws.toArray n n2 dd n9 sl mT (by simpa using hv) (by simp[hw])) ⟨ho,dk,h1 hw⟩
 .refine concat_meets ⟨_,ho,rfl⟩ ⟨_,dk,rfl⟩ noFill_tuple_add seq_tuple_add Ii Ig (Ic _ _)
   (tuple_addW2 t b vs.toArray ws.toArray n n2 dd n9 sl mT (by simpa using hv) (by simpa using hw) (by rw[cV,cV];exact hsz)) ⟨ho,dk,?_⟩
  rw[e];exact h2 hw
abbrev bo(n d:Nat):Option Int->Nat
 |none=>d
 |some v=>if v<0 then(v+(n:Int)).toNat else min v.toNat n
def Mn(n d:Nat)(hd:d<=n)(o:Option Int):bo n d o<=n:=by
 cases o with
 |none=>exact hd
 |some v=>
  show(if v<0 then(v+(n:Int)).toNat else min v.toNat n)<=n
  by_cases hv:v<0
  .rw[if_pos hv];lia
  .rw[if_neg hv];exact xT _ _
def Jy(v:Int)(n d:Nat):(if v<0 then max (v+(n:Int)) 0 else min v (n:Int))=((bo n d (aa v):Nat):Int):=by
 show(if v<0 then max (v+(n:Int)) 0 else min v (n:Int))=(((if v<0 then(v+(n:Int)).toNat else min v.toNat n):Nat):Int)
 by_cases hv:v<0
 .simp only[if_pos hv];lia
 .simp only[if_neg hv];lia
def V_(lo hi:Option Int)(n:Nat):H_ lo hi 1 (n:Int)=(((bo n 0 lo:Nat):Int),((bo n n hi:Nat):Int)):=by
 let h1:¬((1:Int)<0):=by lia
 unfold H_;simp only[h1,if_false];refine HW ?_ ?_
 .cases lo with
  |none=>rfl
  |some v=>exact Jy v n 0
 .cases hi with
  |none=>rfl
  |some v=>exact Jy v n n
def YY(i j:Nat):BK (i:Int) (j:Int) 1=j-i:=by
 unfold BK;let h1:(1:Int) > 0:=by lia
 simp only[h1,if_true,Int.ediv_one];split<;>lia
def Mv{v:ak}{o:Option Int}{Q:Option Int->au->Prop}(p:k4 v o)(h:Q o s):aG (aN prog w) A (Builtin.Slice.slicePartIndex v) Q E s:=by
 cases p with
 |none=>exact slicePart_none h
 |int i t=>exact slicePart_int h
def Mu{sl:aq}{vl vu:ak}{lo hi:Option Int}{n:Nat}{Q:Int×Int×Nat->au->Prop}(hs:s.heap.IsSliceOf sl vl vu .none)(pl:k4 vl lo)(pu:k4 vu hi)
  (h:Q (((bo n 0 lo:Nat):Int),1,bo n n hi-bo n 0 lo) s):aG (aN prog w) A (Ue (.ref sl) (pure (n:Int))) Q E s:=by
 let(os,ja,jI,vd):=id hs;unfold Ue Builtin.Slice.sliceFields;refine aE (aE (iD ja vd (x:=vl) rfl (aE (iD ja vd (x:=vu) rfl (aE (iD ja vd (x:=.none) rfl (aX ?_)))))));refine aE (slicePart_none ?_);show aG _ _ (if((1:Int)==0)=true then _ else _) _ _ s
 rw[if_neg (by decide)];refine aE (Mv pl (aE (Mv pu (aE (aX ?_)))));show aG _ _ (match H_ lo hi 1 (n:Int)with |(lo,hi)=>pure (lo,(1:Int),BK lo hi 1)) _ _ s
 rw[V_ lo hi n];show aG _ _ (pure (((bo n 0 lo:Nat):Int),(1:Int),BK ((bo n 0 lo:Nat):Int) ((bo n n hi:Nat):Int) 1)) _ _ s;rw[YY];exact aX h
def YX(xs:Array ak)(i k:Nat):((cF k).filterMap λ(m:Nat)=>xs[((i:Int)+(m:Int)*1).toNat]?).toArray=((xs.toList.drop i).take k).toArray:=by
 let e:(λ(m:Nat)=>xs[((i:Int)+(m:Int)*1).toNat]?)=λm=>xs[i+m]?:=by
  funext m;let:((i:Int)+(m:Int)*1).toNat=i+m:=by lia
  rw[this]
 rw[e];let:=pick_run xs i k;rw[List.filterMap_map]at this;let e2:((λx=>xs[x]?)∘λx=>i+x)=λm=>xs[i+m]?:=rfl;rw[e2]at this;rw[this]
def WI{t sl:aq}{bI:Array ak}{vl vu:ak}{lo hi:Option Int}{Q:ak->au->Prop}(ht:IsTup s.heap t bI)(hs:s.heap.IsSliceOf sl vl vu .none)(pl:k4 vl lo)(pu:k4 vu hi)
  (hw:¬(bo bI.size 0 lo=0/\bo bI.size bI.size hi=bI.size))
  (h:Q (.ref s.heap.objs.size) { s with heap:=s.heap.push { cls:=.type "tuple", data:=.seq ((bI.toList.drop (bo bI.size 0 lo)).take (bo bI.size bI.size hi-bo bI.size 0 lo)).toArray } })
  (hsz:bI.size<=a9):aG (aN prog w) A (getItem (.ref t) (.ref sl)) Q E s:=by
 let yS:sizeOk (.seq ((bI.toList.drop (bo bI.size 0 lo)).take (bo bI.size bI.size hi-bo bI.size 0 lo)).toArray):=by
  show((bI.toList.drop (bo bI.size 0 lo)).take (bo bI.size bI.size hi-bo bI.size 0 lo)).toArray.size<=a9;rw[cV,l5,iY,jt];exact df (xT _ _) (df (xU _ _) hsz)
 let hj:bo bI.size bI.size hi<=bI.size:=Mn _ _ (bF _) hi;let(os,ja,jI,vd):=id hs;let lu:s.TypeIs (.ref sl) "slice" := ⟨os,ja,jI⟩;unfold getItem
 try with_reducible refine kc ?_
 first |refine aE (aX ?_)|skip
 refine aE (VS ht.typeIs (by decide) ?_)
 refine aE (uK (name:=c7 "__getitem__") ht.typeIs uy
  (uL uy ht.typeIs T_ ?_ (T8 _ _)))
 show aG _ _ (Uk (.ref t) >>= _) _ _ s;refine aE (tupleItemsOf_ ht ?_);refine aE (B8 lu ?_);rw[if_pos (by decide)];refine aE (Mu hs pl pu ?_);let vq:¬((((bo bI.size 0 lo:Nat):Int)==0&&(1:Int)==1&&(bo bI.size bI.size hi-bo bI.size 0 lo)==bI.size)=true):=by
  intro q;rw[bP,bP]at q;let q1:((bo bI.size 0 lo:Nat):Int)=0:=eq_of_beq q.1.1;let q2:bo bI.size bI.size hi-bo bI.size 0 lo=bI.size:=eq_of_beq q.2;exact hw ⟨by lia,by lia⟩
 show aG _ _ (if(((bo bI.size 0 lo:Nat):Int)==0&&(1:Int)==1&&(bo bI.size bI.size hi-bo bI.size 0 lo)==bI.size)=true then _ else _) _ _ s
 rw[if_neg vq,YX]
 first
  |exact aE (m:=xZ _) (p7 (aX ⟨_,rfl,aX h⟩) yS)
  |exact aE (m:=xZ _) (p7 (aE (aX (aX ⟨_,rfl,aX h⟩))) yS)
  |exact aE (aE (m:=xZ _) (p7 (aX (aX ⟨_,rfl,aX h⟩)) yS))
  |exact aE (aE (m:=xZ _) (p7 (aX ⟨_,rfl,aX h⟩) yS))
end
end HT
namespace L2
open PySem PySem.Spec PyProof.Rows
@[reducible] def TO:=St->Hp->(Option Int->Hp->Prop)->Prop
def PO(X:Cx)(e:Option Expr)(t:TO):Prop :=
 ∀(ae:List (aq×aV)) (s:au) (Z:St) (H:Hp) (Q:Option Int->Hp->Prop),Inv X ae Z H s->t Z H Q ->
  aG (aN X.prog X.w) X.A (evalPart e X.env) (λu s'=>∃o H',Inv X ae Z H' s'/\k4 u o/\Q o H') X.xe s
def xT0:TO:=λ_ H Q=>Q aj H
def xT2(t:TE):TO:=λZ H Q=>t Z H λx H1=>∃i,x=.int i/\Q (aa i) H1
variable{xs:List V}{us:List ak}
section
variable{X:Cx}{e:Expr}{te:TE}{lo hi:Option Expr}{tl th:TO}{pos p2:aU}
def xa7:PO X aj xT0:=by
 intro ae s Z H Q I h;rw[evalPart_none];exact aX ⟨aj,H,I,.none,h⟩
def xa8(h:PE X e te):PO X (aa e) (xT2 te):=by
 intro ae s Z H Q I hw;rw[evalPart_some];refine bf (h ae s Z H _ I hw) λu s1 h_=>?_;let(x,H1,I1,r1,q1):=h_;let(i,rfl,q):=q1;let(t,rfl):=r1;exact(aa i,H1,I1,.int i t,q)
def uT(X:Cx)(r:V->Option Int->Option Int->Hp->VK->Prop):Prop :=
 ∀(ae:List (aq×aV)) (s:au) (Z:St) (H:Hp) (x:V) (v vl vu:ak) (lo hi:Option Int) (sl:aq) (Q:VK),Inv X ae Z H s->RelV x v->s.heap.IsSliceOf sl vl vu .none->k4 vl lo->k4 vu hi->r x lo hi H Q ->
  ∃T id,typeLookup (.type T) "__getitem__" = pure (aa (.builtin id))/\s.TypeIs v T/\aG (aN X.prog X.w) X.A (getItem v (.ref sl)) (EP X ae Z Q) X.xe s
def ZG(r:V->Option Int->Option Int->Hp->VK->Prop)(te:TE)(tl th:TO):TE:=λZ H Q=>te Z H λx H1=>tl Z H1 λl H2=>th Z H2 λu H3=>r x l u H3 Q
def yI3{r:V->Option Int->Option Int->Hp->VK->Prop}(hr:uT X r)(he:PE X e te)(hl:PO X lo tl)(hu:PO X hi th):PE X (.Subscript e (.Slice lo hi aj p2) pos) (ZG r te tl th):=by
 intro ae s Z H Q I h;refine Subscript_ (bf (he ae s Z H _ I h) λv s1 h_=>?_);let(x,H1,I1,r1,q1):=h_;refine wpAny_Slice (bf (hl ae s1 Z H1 _ I1 q1) λvl s2 ⟨l,H2,I2,pl,q2⟩=>bf (hu ae s2 Z H2 _ I2 q2) λvu s3 h_=>?_);let(u,H3,I3,pu,q3):=h_;rw[evalPart_none];refine aX ?_;let I4:Inv X ae Z H3 { s3 with heap:=s3.heap.push { cls:=.type "slice", data:=.fields #[vl,vu,.none] } }:=I3.kept (t':=s3.toks) λb ob q=>cv _ q
 let(T,id,hT,ht,hg):=hr ae { s3 with heap:=s3.heap.push { cls:=.type "slice", data:=.fields #[vl,vu,.none] } } Z H3 x v vl vu l u s3.heap.objs.size Q I4 r1 (Heap.IsSliceOf.new ..) pl pu q3;show aG (aN X.prog X.w) X.A (subscriptTail e (.Slice lo hi aj p2) v (.ref s3.heap.objs.size)) (EP X ae Z Q) X.xe { s3 with heap:=s3.heap.push { cls:=.type "slice", data:=.fields #[vl,vu,.none] } }
 exact tail_any (ops:=[.ref s3.heap.objs.size,v]) ht hT hg (by with_unfolding_all rfl)
def oO(xs:List V)(lo hi:Option Int):List V:=(xs.drop (HT.bo xs.length 0 lo)).take (HT.bo xs.length xs.length hi-HT.bo xs.length 0 lo)
def Q1(xs:List V)(lo hi:Option Int):(oO xs lo hi).length<=xs.length:=by
 unfold oO;rw[l5,iY];lia
abbrev Y8(K:aQ):V->Option Int->Option Int->Hp->VK->Prop:=λx lo hi H Q=>∃a xs,x=.ref a/\bR K H a xs /\
 ¬(HT.bo xs.length 0 lo=0/\HT.bo xs.length xs.length hi=xs.length)/\∀p,H p=aj->Q (.ref p) (upd H p (.af (oO xs lo hi)))
def xy9:uT X (Y8 X.K):=by
 intro ae s Z H x v vl vu lo hi sl Q I rx hs pl pu h;let(a,xs,rfl,hx,hw,q):=h;cases rx;let(aw,r,ht,hz):=I.tuple hx;let bj:aw.toArray.size=xs.length:=by rw[cV];exact r.length.symm
 refine("tuple", _,uy.lookup,ht.typeIs,?_);refine HT.WI ht hs pl pu (by rw[bj];exact hw) ?_ (by rw[bj];exact hz);rw[bj];refine(.ref s.heap.objs.size,_,I.laid (t':=s.toks) (o:=.af (oO xs lo hi)) (λb ob q=>cv _ q) (bF _) ?_,rfl,q _ (I.aF.fresh (bF _)));exact(df (Q1 xs lo hi) hz,_,(r.drop (HT.bo xs.length 0 lo)).take (HT.bo xs.length xs.length hi-HT.bo xs.length 0 lo),lX.new _ _)
def xR0(K:aQ):R2:=λx y H Q=>∃a b xs ys,x=.ref a/\y=.ref b/\bR K H a xs/\bR K H b ys/\xs≠[]/\xs.length+ys.length<=a9 /\
 (ys=[]->Q (.ref a) H)/\(ys≠[]->∀p,H p=aj->Q (.ref p) (upd H p (.af (xs++ys))))
def ba.DQ(r:ba xs us):us=[]↔xs=[]:=by
 cases r with
 |nil=>simp
 |cons _ _=>simp
def yZ9:dy X (binaryOp .Add) (xR0 X.K):=by
 intro ae s Z H x y v u Q I rx ry h;let(a,b,xs,ys,rfl,rfl,ha,hb,hx,hz,q1,q2):=h;cases rx;cases ry;let(aw,r1,p1,_):=I.tuple ha;let(eI,r2,p2,_):=I.tuple hb;refine HT.Wh p1 p2 (λz=>hx (r1.DQ.mp z)) (λz=>⟨.ref a,H,I,rfl,q1 (r2.DQ.mp z)⟩) (λz=>?_) (by rw[<-r1.length,<-r2.length];exact hz);refine(.ref s.heap.objs.size,_,I.laid (t':=s.toks) (o:=.af (xs++ys)) (λb ob q=>cv _ q) (bF _) ?_,rfl,q2 (λw=>z (r2.DQ.mpr w)) _ (I.aF.fresh (bF _)));exact(by rw[cA];exact hz,_,r1.append r2,lX.new _ _)
end
def vF(n:Nat)(i:Int):Option Nat:=if 0<=i then(if i<n then aa i.toNat else aj)else if -(n:Int)<=i then aa (i+n).toNat else aj
def uU{O:Type}(xs:List O)(i:Int):Option O:=(vF xs.length i).bind λj=>xs[j]?
variable{n:Nat}
def Qm{i:Int}{j:Nat}(h:vF n i=aa j):seqIndex? i n=aa j/\j<n/\-(n:Int)<=i/\i<n:=by
 unfold vF at h;by_cases h0:0<=i
 .rw[if_pos h0]at h;by_cases h1:i<n
  .rw[if_pos h1]at h;let e:i.toNat=j:=dE h;exact(by rw[IJ h0 h1,e],by lia,by lia,h1)
  .rw[if_neg h1]at h;cases h
 .rw[if_neg h0]at h;by_cases h1:-(n:Int)<=i
  .rw[if_pos h1]at h;let e:(i+n).toNat=j:=dE h;exact(by rw[II () h1,e],by lia,h1,by lia)
  .rw[if_neg h1]at h;cases h
def GC{O:Type}{xs:List O}{i:Int}{v:O}(h:uU xs i=aa v):∃j,seqIndex? i xs.length=aa j/\xs[j]?=aa v/\j<xs.length/\-(xs.length:Int)<=i/\i<xs.length:=by
 unfold uU at h;cases e:vF xs.length i with
 |none=>rw[e]at h;cases h
 |some j=>
  rw[e]at h;let(h1,h2,h3,h4):=Qm e;exact(j,h1,h,h2,h3,h4)
def Gy(b:Expr):Prop:=∀o i,IP b false o i=operate [o,i] (getItem o i)
def k8(X:Cx)(r:R2):Prop :=
 ∀(value slice:Expr)(ae:List (aq×aV)) (s:au) (Z:St) (H:Hp) (x y:V) (v u:ak) (Q:VK),Inv X ae Z H s->RelV x v->RelV y u->r x y H Q ->
  IP slice false v u=operate [v,u] (getItem v u)->aG (aN X.prog X.w) X.A (subscriptTail value slice v u) (EP X ae Z Q) X.xe s
def uQ(X:Cx)(id:String)(r:V->List V->Hp->VK->Prop):Prop :=
 ∀(ae:List (aq×aV)) (s:au) (Z:St) (H:Hp) (x:V) (xs:List V) (v:ak) (us:List ak) (Q:VK),Inv X ae Z H s->RelV x v->ba xs us->r x xs H Q ->
  aG (aN X.prog X.w) X.A (call (.builtin id) (v::us)) (EP X ae Z Q) X.xe s
variable{aw:List ak}
section
variable{X:Cx}{a b:Expr}{ta tb:TE}{pos:aU}
def k8.or{r r':R2}(h:k8 X r)(h':k8 X r'):k8 X (λx y H Q=>r x y H Q\/r' x y H Q):=by
 intro value slice ae s Z H x y v u Q I rx ry q hs;rcases q with q |q
 .exact h value slice ae s Z H x y v u Q I rx ry q hs
 .exact h' value slice ae s Z H x y v u Q I rx ry q hs
def xQ2{r:R2}(hr:k8 X r)(ha:PE X a ta)(hb:PE X b tb)(hs:Gy b):PE X (.Subscript a b pos) (zE r ta tb):=by
 intro ae s Z H Q I h;exact Subscript_ (En ha hb I h λv u s2 x y H2 I2 rx ry q=>hr a b ae s2 Z H2 x y v u Q I2 rx ry q (hs _ _))
def Mc(K:aQ):R2:=λx y H Q=>∃p xs i v,x=.ref p/\y=.int i/\bL K H p xs/\uU xs i=aa v/\Q v H
def Me(K:aQ):R2:=λx y H Q=>∃p xs i v,x=.ref p/\y=.int i/\bR K H p xs/\uU xs i=aa v/\Q v H
def Md:R2:=λx y H Q=>∃z i c,x=.str z/\y=.int i/\z.length<=a9/\uU z.cps.toList i=aa c/\Q (.str ⟨#[c]⟩) H
def yW8:k8 X (Mc X.K):=by
 intro value slice ae s Z H x y v u Q I rx ry h hs;let(p,xs,i,z,rfl,rfl,hq,he,q):=h;cases rx;let(t,rfl):=ry;let(aw,r,pl,hz):=I.list hq;let(j,h1,h2,h3,h4,h5):=GC he;let(w,ew,jd):=r.get h2;let hl:=r.length;let hn:=tM;let fin:EP X ae Z Q w s:=⟨z,H,I,jd,q⟩;by_cases h0:0<=i
 .let hj:i.toNat=j:=by
   rw[IJ h0 h5]at h1;exact dE h1
  exact item_listR pl.isList h0 () (by rw[hj];simpa using ew) fin hs
 .let hj:(i+(aw.toArray.size:Int)).toNat=j:=by
   rw[II () h4]at h1;rw[cV,<-hl];exact dE h1
  exact Ub (x:=w) pl.isList.typeIs VG.lookup
   (wpAny_getItem_list_neg (Q:=λr s'=>r=w/\EP X ae Z Q r s') pl.isList () (by rw[cV]<;>lia) () (by rw[hj];simpa using ew) ⟨rfl,fin⟩) hs
def xn6:k8 X (Me X.K):=by
 intro value slice ae s Z H x y v u Q I rx ry h hs;let(p,xs,i,z,rfl,rfl,hq,he,q):=h;cases rx;let(t,rfl):=ry;let(aw,r,pl,hz):=I.tuple hq;let(j,h1,h2,h3,h4,h5):=GC he;let(w,ew,jd):=r.get h2;let hl:=r.length;let hn:=tM;let fin:EP X ae Z Q w s:=⟨z,H,I,jd,q⟩
 exact Ub (x:=w) pl.typeIs slot_tuple_getitem.lookup
  (getItem_tuple (j:=j) (Q:=λr s'=>r=w/\EP X ae Z Q r s') pl () () (by rw[cV,<-hl];exact h1) (by simpa using ew) ⟨rfl,fin⟩) hs
def xn5:k8 X Md:=by
 intro value slice ae s Z H x y v u Q I rx ry h hs;let(z,i,c,rfl,rfl,hz,he,q):=h;let(t,rfl):=rx;let(t',rfl):=ry;let(j,h1,h2,h3,h4,h5):=GC he;let hl:z.cps.toList.length=z.length:=by simp[dJ]
 rw[hl]at h1 h4 h5;let hn:=tM;exact tail_any (nY s z t) slot_str_getitem.lookup (getItem_str (c:=c) (by
  let e1:decide (i < -(2 ^ 63:Int))=false:=decide_eq_false ();let e2:decide (i ≥ 2 ^ 63)=false:=decide_eq_false ();rw[e1,e2,Bool.or_false]) (by rw[h1];simpa using h2) ⟨.str ⟨#[c]⟩,H,I.tok _,⟨_,rfl⟩,q⟩) hs
def Mb(K:aQ):R2:=λx y H Q=>Mc K x y H Q\/Me K x y H Q\/Md x y H Q
def xn4:k8 X (Mb X.K):=yW8.or (xn6.or xn5)
def ym0(aw:List ak)(n j:Nat)(u:ak):rJ (·.setIfInBounds j u) { cls:=.type "list", data:=.seq aw.toArray n }={ cls:=.type "list", data:=.seq (aw.set j u).toArray n }:=by
 simp[rJ]
def Inv.ai{ae:List (aq×aV)}{Z:St}{H:Hp}{s:au}{p:aq}{xs:List V}(I:Inv X ae Z H s)(h:H p=aa (.ai xs)):
  ∃(aw:List ak)(n:Nat),ba xs aw/\s.heap.get? p=aa { cls:=.type "list", data:=.seq aw.toArray n }/\xs.length<=a9:=by
 let(z,aw,n,r,e):=I.aF p _ h;exact(aw,n,r,e,z)
def Inv.Yw{ae:List (aq×aV)}{Z:St}{H:Hp}{s:au}{p:aq}{ys:List V}{its':List ak}{n':Nat}{f:aV->aV}(I:Inv X ae Z H s)(h:H p=aa (.ai xs))
  (ho:s.heap.get? p=aa { cls:=.type "list", data:=.seq aw.toArray n }) (hf:f { cls:=.type "list", data:=.seq aw.toArray n }={ cls:=.type "list", data:=.seq its'.toArray n' }) (r:ba ys its') (hz:ys.length<=a9) (t:Nat) :
  Inv X ae Z (upd H p (.ai ys)) { s with heap:=s.heap.update p f,toks:=t }:=by
 let e:(s.heap.update p f).get? p=aa { cls:=.type "list", data:=.seq its'.toArray n' }:=by
  rw[x_ f ho (by rw[hf]<;>rfl),hf]
 refine I.write (x:=p) (e:=p) (by rw[h];trivial) (.inl rfl) (λb u hb q=>(U1 _ _ (l8 hb)).trans q) ⟨_,e⟩ ?_;exact(hz,its',n',r,e)
abbrev Y5:V->V->V->Hp->(Hp->Prop)->Prop:=λo i v H Q=>∃p xs k j,o=.ref p/\i=.int k/\H p=aa (.ai xs)/\vF xs.length k=aa j/\Q (upd H p (.ai (xs.set j v)))
def yK1:oM X Y5:=by
 intro ae s Z H o i v ov iv u Q I ro ri rv h;let(p,xs,k,j,rfl,rfl,hp,hj,q):=h;cases ro;let(t,rfl):=ri;let(aw,n,r,ho,hz):=I.ai hp;let(h1,h2,h3,h4):=Qm hj;let hl:=r.length;let hn:=tM;let I':Inv X ae Z (upd H p (.ai (xs.set j v))) { s with heap:=s.heap.update p (rJ (·.setIfInBounds j u)) } :=
  I.Yw hp ho (ym0 aw n j u) (r.set rv j) (by rw[Bx];exact hz) s.toks
 by_cases h0:0<=k
 .let hk:k.toNat=j:=by
   rw[IJ h0 h4]at h1;exact dE h1
  exact PySem.W.ki_setAt ho h0 () (by rw[cV,<-hl];exact h4) (by rw[hk];exact(_,I',q))
 .let hk:(k+(aw.toArray.size:Int)).toNat=j:=by
   rw[II () h3]at h1;rw[cV,<-hl];exact dE h1
  exact PySem.W.ki_setBack ho () (by rw[cV,<-hl];exact h3) () (by rw[hk];exact(_,I',q))
def Fo(i:Int)(n d:Nat):max 0 (min (if i<0 then i+(n:Int)else i) (n:Int))=((HT.bo n d (aa i):Nat):Int):=by
 by_cases h:i<0
 .simp only[HT.bo,h,if_true];lia
 .simp only[HT.bo,h,if_false];lia
def zX1(lo hi:Option Int)(n:Nat):(yg lo hi aj n).1=((HT.bo n 0 lo:Nat):Int)/\(yg lo hi aj n).2.1=((HT.bo n n hi:Nat):Int)/\(yg lo hi aj n).2.2=1:=by
 refine(?_,?_,rfl)
 .cases lo with
  |none=>simp[yg,HT.bo]
  |some i=>
   exact Fo i n _
 .cases hi with
  |none=>simp[yg,HT.bo]
  |some i=>
   exact Fo i n _
def zR6(aw:List ak)(lo hi:Option Int):slicePick aw.toArray lo hi aj=((aw.drop (HT.bo aw.length 0 lo)).take (HT.bo aw.length aw.length hi-HT.bo aw.length 0 lo)).toArray:=by
 let(h1,h2,h3):=zX1 lo hi aw.toArray.size;unfold slicePick;rw[h1,h2,h3];simp only[sliceRange_one,pick_run,cV]<;>rfl
abbrev Y6(K:aQ):V->Option Int->Option Int->Hp->VK->Prop:=λx lo hi H Q=>∃a xs,x=.ref a/\bL K H a xs/\∀p,H p=aj->Q (.ref p) (upd H p (.ai (oO xs lo hi)))
def xd1:uT X (Y6 X.K):=by
 intro ae s Z H x v vl vu lo hi sl Q I rx hs pl pu h;let(a,xs,rfl,hx,q):=h;cases rx;let(aw,r,ht,hz):=I.list hx;let bj:=r.length;refine("list", _,VG.lookup,ht.isList.typeIs,?_);refine wpAny_getItem_list_slice ht.isList hs pl pu .none (by simp) ?_ (by rw[cV]<;>lia);rw[zR6,<-bj];refine(.ref s.heap.objs.size,_,I.laid (t':=s.toks) (o:=.ai (oO xs lo hi)) (λb ob q=>cv _ q) (bF _) ?_,rfl,q _ (I.aF.fresh (bF _)));exact(df (Q1 xs lo hi) hz,_,0,(r.drop (HT.bo xs.length 0 lo)).take (HT.bo xs.length xs.length hi-HT.bo xs.length 0 lo),dY _ rfl)
def QR:nj X (.builtin "len") (λxs H Q=>∃p ys,xs=[.ref p]/\(bL X.K H p ys\/bR X.K H p ys)/\Q (.int ys.length) H):=by
 intro ae s Z H xs us Q I r h;let(p,ys,rfl,hq,q):=h;let(u,rfl,rx):=wg r;cases rx;let hn:=tM;rcases hq with hq |hq
 .let(aw,r',pl,hz):=I.list hq;let bj:=r'.length;exact Calls.call_len_list pl.isList (by simp only[cV]<;>lia) ⟨.int ys.length,H,I.tok _,⟨s.toks+1,by rw[cV,bj]⟩,q⟩
 .let(aw,r',pl,hz):=I.tuple hq;let bj:=r'.length;exact len_tuple pl (by simp only[cV]<;>lia) ⟨.int ys.length,H,I.tok _,⟨s.toks+1,by rw[cV,bj]⟩,q⟩
def zT6:nj X (.builtin "len") (λxs H Q=>∃z,xs=[.str z]/\z.length<=a9/\Q (.int z.length) H):=by
 intro ae s Z H xs us Q I r h;let(z,rfl,hz,q):=h;let(u,rfl,t,rfl):=wg r;let hn:=tM;exact len_str () ⟨.int z.length,H,I.tok _,⟨_,rfl⟩,q⟩
def Sq:nj X (.type "tuple") (λxs H Q=>∃p ys,xs=[.ref p]/\((bL X.K H p ys/\∀l,H l=aj->Q (.ref l) (upd H l (.af ys)))\/(bR X.K H p ys/\Q (.ref p) H))):=by
 intro ae s Z H xs us Q I r h;let(p,ys,rfl,h):=h;let(u,rfl,rx):=wg r;cases rx;rcases h with⟨hq,q⟩|⟨hq,q⟩
 .let(aw,r',pl,hz):=I.list hq;let bj:=r'.length;refine call_tuple_list pl.isList (λh' kp=>?_) (by simp only[cV]<;>lia);let I1:Inv X ae Z H { s with heap:=h' }:=I.kept (t':=s.toks) kp
  let I2:Inv X ae Z (upd H h'.objs.size (.af ys)) { s with heap:=h'.push { cls:=.type "tuple", data:=.seq aw.toArray } } :=
   I1.laid (t':=s.toks) (λb o e=>cv _ e) (bF _) (show dz X.prog X.w _ _ _ (.af ys)from⟨hz,aw,r',lX.new _ _⟩)
  exact(.ref h'.objs.size,_,I2,rfl,q _ (I1.aF.fresh (bF _)))
 .let(aw,r',pl,hz):=I.tuple hq;exact call_tuple_same pl ⟨.ref p,H,I,rfl,q⟩
def zJ(K:aQ)(T:String)(x:V)(H:Hp):Prop:=match x with
 |.str _=>T = "str"
 |.int _=>T = "int"
 | .ref p=>(T = "list" /\ ∃xs,bL K H p xs)\/(T = "tuple" /\ ∃o,K.lookup p=aa o/\o.cls=.type "tuple" /\ o.dict=aj) \/
   (T = "dict" /\ ((∃av,H p=aa (.dK av))\/∃av,H p=aa (.dT av)))\/(T = "set" /\ ∃S n,H p=aa (.set S n))
 |_=>False
def OC{ae:List (aq×aV)}{Z:St}{H:Hp}{s:au}{T:String}{x:V}{v:ak}(I:Inv X ae Z H s)(r:RelV x v)(ty:zJ X.K T x H):
  s.TypeIs v T/\∀a,v=.ref a->∃ob,s.heap.get? a=aa ob/\ob.dict=aj:=by
 cases x with
 |str z=>
  let(t,rfl):=r;cases(show T = "str" from ty);exact(nY s z t,λ_ e=>nomatch e)
 |int i=>
  let(t,rfl):=r;cases(show T = "int" from ty);exact(IT s i t,λ_ e=>nomatch e)
 |ref p=>
  cases r;rcases ty with⟨rfl,xs,hq⟩|⟨rfl,o,hk,hc,hd⟩|⟨rfl,hk⟩|⟨rfl,S,n,hk⟩
  .let(aw,_,pl,_):=I.list hq;refine(pl.isList.typeIs,λa e=>?_);cases e;let(o,n,e,c,hd,_):=pl;exact(o,e,hd)
  .refine(⟨o,I.eA p o hk,hc⟩,λa e=>?_);cases e;exact(o,I.eA _ o hk,hd)
  .let z:∃o,s.heap.get? p=aa o/\o.ExactDict:=by
    rcases hk with⟨av,hk⟩|⟨av,hk⟩
    .let(_,_,_,_,o,_,_,e,ex,_):=I.aF p _ hk;exact(o,e,ex)
    .let(_,_,_,_,o,_,_,e,ex,_):=I.aF p _ hk;exact(o,e,ex)
   let(o,e,ex):=z;refine(⟨o,e,ex.1⟩,λa e2=>?_);cases e2;exact(o,e,ex.2.1)
  .let(o,_,_,_,e,ex,_):=I.aF p _ hk;refine(⟨o,e,ex.1⟩,λa e2=>?_);cases e2;exact(o,e,ex.2.1)
 |_=>exact ju ty
def Zx(K:aQ)(T:String)(r:V->List V->Hp->VK->Prop)(to:TE):TE:=λZ H Q=>to Z H λx H1=>zJ K T x H1/\r x [] H1 Q
def Zw(K:aQ)(T:String)(r:V->List V->Hp->VK->Prop)(to:TE)(t:TA):TE:=λZ H Q=>to Z H λx H1=>zJ K T x H1/\t Z H1 λxs H2=>r x xs H2 Q
variable{o e:Expr}{es:List Expr}{to:TE}{t:TA}{name:Str}{fw di:aU}{T id:String}{r:V->List V->Hp->VK->Prop}
def xt1(pa:PlainAttrs T)(slot:Slot T name id)(d4:rP (.builtin id)=pure (.type "method_descriptor"))(hm:uQ X id r)(ho:PE X o to)
  (mC:uF o name X.env (eval o X.env)=eval o X.env) (mK:(fw.endLine==di.line)=true):PE X (.Call (.Attribute o name fw) [] [] di) (Zx X.K T r to):=by
 intro ae s Z H Q I h;refine wpAny_Call_method0_late mC mK (bf (ho ae s Z H _ I h) λv s1 h_=>?_);let(x,H1,I1,r1,ty,q1):=h_;let(h1,h2):=OC I1 r1 ty;exact(T,id,pa,slot,d4,h1,h2,Uo rfl (PySem.evalArgs_none (hm ae s1 Z H1 x [] v [] Q I1 r1 .nil q1)))
def NQ(pa:PlainAttrs T)(slot:Slot T name id)(d4:rP (.builtin id)=pure (.type "method_descriptor"))(hm:uQ X id r)(ho:PE X o to)(ha:PA X (e::es) t)
  (mC:uF o name X.env (eval o X.env)=eval o X.env)
  (vg:((dW di (bA (e::es) X.env)).all (λx=>!x.1)&&(BS di (BY [] X.env)).all (λx=>x.1.isSome)
   && decide ((e::es).length+([]:List nP).length+(if([]:List nP).isEmpty then 0 else 1)<30))=true)
  (mK:(fw.endLine==di.line)=true) (hs:bA (e::es) X.env=(false,eval e X.env)::bA es X.env) (vv:(dW di (bA es X.env)).any (·.1)=false) :
  PE X (.Call (.Attribute o name fw) (e::es) [] di) (Zw X.K T r to t):=by
 intro ae s Z H Q I h;refine wpAny_Call_method_late mC vg mK rfl (bf (ho ae s Z H _ I h) λv s1 h_=>?_);let(x,H1,I1,r1,ty,q1):=h_;let(h1,h2):=OC I1 r1 ty;refine(T,id,pa,slot,d4,h1,h2,?_);let hA:=ha di ae s1 Z H1 _ I1 q1;rw[hs]at hA ⊢;refine Uo (by show(false ||(dW di (bA es X.env)).any (·.1))=false;rw[vv]<;>rfl) (Calls.evalArgs_plain ?_);exact bf hA λus s2 ⟨vs,H2,I2,r2,q2⟩=>hm ae s2 Z H2 x vs v us Q I2 r1 r2 q2
end
def Cf(X:Cx)(id:String)(r:V->List V->Hp->VK->Prop):Prop :=
 ∀(ae:List (aq×aV)) (s:au) (Z:St) (H:Hp) (x:V) (xs:List V) (v:ak) (us:List ak) (Q:VK),Inv X ae Z H s->RelV x v->ba xs us->r x xs H Q ->
  aG (aN X.prog X.w) X.A (call (.builtin id) (v::us)) (EP X ae Z Q) X.xe s
def ba.one:∀{x:V}{us:List ak},ba [x] us->∃u,us=[u]/\RelV x u
 |_,_,.cons r .nil=>⟨_,rfl,r⟩
def ba.zero:∀{us:List ak},ba [] us->us=[]
 |_,.nil=>rfl
def ba.dropLast(h:ba xs us):ba xs.dropLast us.dropLast:=by
 induction h with
 |nil=>exact .nil
 |cons r t ih=>
  cases t with
  |nil=>exact .nil
  |cons q t'=>exact .cons r ih
def ba.reverse(h:ba xs us):ba xs.reverse us.reverse:=by
 induction h with
 |nil=>exact .nil
 |cons r t ih=>rw[nN,nN];exact ba.append ih (.cons r .nil)
def yj7{O:Type}(l:List O):l.eraseIdx (l.length-1)=l.dropLast:=by
 induction l with
 |nil=>rfl
 |cons a r ih=>
  cases r with
  |nil=>rfl
  |cons b r=>
   let e:(a::b::r).length-1=((b::r).length-1)+1:=by
    let h1:(a::b::r).length=r.length+2:=rfl;let h2:(b::r).length=r.length+1:=rfl;lia
   rw[e,List.eraseIdx_cons_succ,ih]
   all_goals rfl
section
variable{X:Cx}{ae:List (aq×aV)}{Z:St}{H:Hp}{s:au}{l b:aq}{xs ys zs:List V}
def Inv.y_{its':List ak}{f:Array ak->Array ak}{t':Nat}(I:Inv X ae Z H s)(hH:H l=aa (.ai xs))
  (e:s.heap.get? l=aa { cls:=.type "list", data:=.seq aw.toArray n }) (hf:f aw.toArray=its'.toArray) (hv:ba ys its') (hz:ys.length<=a9) :
  Inv X ae Z (upd H l (.ai ys)) { s with heap:=s.heap.update l (rJ f),toks:=t' }:=by
 let q:=PySem.IsL.update e f;rw[hf]at q;refine I.write (x:=l) (e:=l) (by rw[hH];exact trivial) (.inl rfl) (λb' u hb hu=>(U1 s.heap (rJ f) (l8 hb)).trans hu) ⟨_,q⟩ ?_;exact(hz,its',_,hv,q)
def Inv.yY{t':Nat}(I:Inv X ae Z H s)(hv:ba ys aw)(hz:ys.length<=a9):
  Inv X ae Z (upd H s.heap.objs.size (.ai ys)) { s with heap:=s.heap.push { cls:=.type "list", data:=.seq aw.toArray },toks:=t' } :=
 I.laid (λ_ _ q=>cv _ q) (bF _) ⟨hz,aw,0,hv,dY _ rfl⟩
def Inv.fresh(I:Inv X ae Z H s):H s.heap.objs.size=aj:=I.aF.fresh (bF _)
def Inv.zb(I:Inv X ae Z H s)(hH:H l=aa (.ai xs)):xs.length<=a9/\∃(aw:List ak)(n:Nat),ba xs aw/\xs.length=aw.length/\s.heap.get? l=aa { cls:=.type "list", data:=.seq aw.toArray n }:=by
 let(z,aw,n,r,e):=I.aF l _ hH;exact(z,aw,n,r,r.length,e)
end
section
variable{X:Cx}
abbrev xQ9:V->List V->Hp->VK->Prop:=λx vs H Q=>∃l xs y,x=.ref l/\vs=[y]/\H l=aa (.ai xs)/\xs.length<a9/\Q .aL (upd H l (.ai (xs++[y])))
def RT:Cf X "list.append" xQ9:=by
 intro ae s Z H x vs v us Q I rx rv h;let(l,xs,y,rfl,rfl,hH,hz,q):=h;cases rx;let(u,rfl,ru):=rv.one;let(z,aw,n,r,hl,e):=I.zb hH;refine call_meets F.slot_list_append ⟨_,e,rfl⟩ F.entry_list_append (F.args_list_append_2 _ _) (PySem.list_append l aw.toArray n u (by rw[cV];lia)) ⟨e,?_⟩;refine(.aL,_,I.y_ (its':=aw++[u]) hH e (by simp) (r.append (.cons ru .nil)) ?_,rfl,q);rw[cA,uq];lia
abbrev Y4:V->List V->Hp->VK->Prop:=λx vs H Q=>∃l xs y,x=.ref l/\vs=[]/\H l=aa (.ai xs)/\xs[xs.length-1]?=aa y/\Q y (upd H l (.ai xs.dropLast))
def ae1:Cf X "list.pop" Y4:=by
 intro ae s Z H x vs v us Q I rx rv h;let(l,xs,y,rfl,rfl,hH,hy,q):=h;cases rx;let om:=rv.zero;subst om;let(z,aw,n,r,hl,e):=I.zb hH;let(u,hu,ru):=r.get hy;let sG:aw.toArray[aw.toArray.size-1]?=aa u:=by
  show aw.toArray[aw.length-1]?=aa u;rw[<-Array.getElem?_toList,<-hl];exact hu
 refine call_meets F.slot_list_pop ⟨_,e,rfl⟩ F.entry_list_pop (F.args_list_pop_1 _) (MeetsSeq.list_pop_last l aw.toArray n u sG (by rw[cV];lia)) ⟨e,?_⟩;refine(y,_,I.y_ (its':=aw.dropLast) hH e ?_ r.dropLast ?_,ru,q)
 .show aw.toArray.eraseIdxIfInBounds (aw.toArray.size-1)=aw.dropLast.toArray;rw[cV,List.eraseIdxIfInBounds_toArray,yj7]
 .rw[List.length_dropLast];lia
abbrev θ:V->List V->Hp->VK->Prop:=λx vs H Q=>∃l xs,x=.ref l/\vs=[]/\H l=aa (.ai xs)/\Q .aL (upd H l (.ai xs.reverse))
def ym1:Cf X "list.reverse" θ:=by
 intro ae s Z H x vs v us Q I rx rv h;let(l,xs,rfl,rfl,hH,q):=h;cases rx;let om:=rv.zero;subst om;let(z,aw,n,r,hl,e):=I.zb hH;refine call_meets F.slot_list_reverse ⟨_,e,rfl⟩ F.entry_list_reverse (F.args_list_reverse_1 _) (AutoSeq1.list_reverse_list_0 l aw.toArray n (by rw[cV];lia)) ⟨e,?_⟩;refine(.aL,_,I.y_ (its':=aw.reverse) hH e (by simp) r.reverse ?_,rfl,q);rw[Tb];lia
end
section
variable{prog:Program}{w:aY}{A:bb}{E:ak->au->Prop}{s:au}
set_option maxRecDepth 100000 in
end
section
variable{X:Cx}
end
end L2
namespace Att
open PySem PySem.W PySem.Calls PyProof.Rows
def Yj{P:pR}{h:aT}:∀(ns:List Int)(vs:List ak),WellAll P h vs (ns.map Vp)->xV vs ns:=by
 intro ns;induction ns with
 |nil=>
  intro vs w;rw[eD]at w;cases w;exact .nil
 |cons n ns ih=>
  intro vs w;rw[bJ]at w;cases w with
  |cons a b=>
   cases a;exact .cons _ _ (ih _ b)
def Zk{l:OpenLaw}{n:Nat}(hn:l.most=aa n){P:pR}{h:aT}{args:List WData}{vals:List ak}
  (yP:l.row.toRowW.claim.pre args=true) (ot:WellAll P h vals args) :
  ∃a vs ns,vals=[b9 a]/\args=[WData.list (ns.map Vp)]/\h.get? a=aa { cls:=.type "list", data:=.seq vs.toArray }/\xV vs ns/\ns.length<=n:=by
 let XZ:WShape.hasAll [] args [.list .int]=true:=(pre_splitW yP).1;let hc:l.pre.holds [] { args:=args }=true:=(pre_splitW yP).2;let(d,r,rfl,h1,h2):=hasAllW_cons XZ;obtain rfl:=hasAllW_nil h2;let(xs,rfl,h3):=hasW_list h1;let(ns,rfl):=items_int h3;let bj:ns.length<=n:=by
  unfold OpenLaw.pre at hc;let h4:(WTm.not (.lt (.lit (.int (n:Int))) (.len (.arg 0)))).holds [] { args:=[.list (ns.map .int)] }=true:=by
   let h4:=(holds_andW hc).1;rw[hn]at h4;exact h4
  let h5:=condW_of h4 (w_not (w_lt w_lit (w_len_list (w_arg rfl))));rw[cy]at h5;refine Nat.le_of_not_lt λq=>?_;let q':(n:Int)<((ns.length:Nat):Int):=by lia
  first
   |(rw[decide_eq_true q']at h5;exact absurd h5 (by decide))
   |(simp at h5;lia)
 cases ot with
 |cons w1 w2=>
  cases w2;cases w1 with
  |list ho fx=>exact(_,_,ns,rfl,rfl,ho,Yj ns _ fx,bj)
def YZ(l:OpenLaw)(args:List WData):l.row.toRowW.claim.post args (.bool true) args=true :=
 postW_of (r:=l.row.toRowW) (X:=(true==true))
  (show Vq [] (.bool true) .bool=true by first |rfl |decide |simp[Vq,WShape.arms,WShape.armsAll])
  (show(WTm.eq .res (.lit (.bool true))).value [] { args:=args,res:=aa (.bool true),after:=args }=aa (.bool (true==true))from w_eq_bool (w_res rfl) w_lit) rfl
def Wa{l:OpenLaw}{n:Nat}{q:Program}{loose:List Str}{XP:(Str->Option ak)->aT->Prop}{YP:aY->aT->Prop}{d:DefRec}
  (hn:l.most=aa n) (u9:d.params.defaults=[])
  (call:∀(w:aY)(s₀ s₁:au)(mg mb:Str->Option ak)(fa:aq)(o:aV)(pm cd doc:ak)(a:aq) (vs:List ak) (ns:List Int),
   Ground q loose [] XP w s₀ mg mb s₁.heap->YP w s₁.heap ->
   s₁.heap.get? fa=aa o->o.data=.func (docDef d.name d.params d.body d.scope pm cd doc)->s₁.heap.CodeRec cd d.name->mg d.name=aa (.ref fa) ->
   s₁.heap.get? a=aa { cls:=.type "list", data:=.seq vs.toArray }->xV vs ns->ns.length<=n->s₁.gens=#[] ->
   nV (aN l.prog w) rM (.call (.ref fa) ⟨[.ref a],[]⟩) (λr s'=>r=.ok (.ret (.bool true))/\OldK s₁.heap s'.heap/\s'.os=s₁.os/\nO s'.gens) s₁) :
  WalkO q loose XP YP l.row.toRowW d [] (λf vs=>IE f vs):=by
 intro w s₀ s₁ mg mb G YYY fa o pm cd doc dV kV ho hd i_ hD vo hg args vals as yP ac6 hrd ot hlo;obtain rfl:dV=.none:=Dflts.none hD u9;obtain rfl:kV=.none:=Dflts.noKw hD;let(a,vs,ns,rfl,rfl,vt,hints,bj):=Zk hn yP ot;refine enter_call (yf (call w s₀ s₁ mg mb fa o pm cd doc a vs ns G YYY ho (fd_plain hd) i_ vo vt hints bj hg) λr s' hq=>?_);let(rfl,h2,h3,h4):=hq;exact(.inl ⟨.bool true,.bool true,[],rfl,λ_=>rfl,.bool true,YZ l _,λ_=>⟨Hm,λ_ hm=>(nomatch hm)⟩⟩,h2,h3,h4)
section
variable{prog:Program}{w:aY}{A:bb}{E:ak->au->Prop}{s:au}{K:aQ}
end
end Att
namespace L2
open PySem PySem.Spec PyProof.Rows
def R5:∀{vs:List ak}{ns:List Int},xV vs ns->ba (ns.map V.int) vs
 |_,_,.nil=>.nil
 |_,_,.cons n t h=>.cons ⟨t,rfl⟩ (R5 h)
def Em(H:Hp):Prop:=∀b,H b=aj\/∃o xs,H b=aa (.iJ o (.ai xs))
variable{fd:j_}{x:Str}
def yG1{P:Program}{w:aY}{K:aQ}{mg mb:Str->Option ak}{CX:kf}{k:Nat}{fa a:aq}{sp:Sp}{s₁:au}{vs:List ak}{ns:List Int}
  (KX:K.In s₁.heap) (lB:s₁.heap.Ns fv mg) (hb:s₁.heap.Ns ID mb) (W7:∀x:Str,x ≠ "__name__" ->mb x=gD x) (XA:s₁.heap.NoLimit) (hg:s₁.gens=#[])
  (ha:s₁.heap.get? a=aa { cls:=.type "list", data:=.seq vs.toArray }) (hi:xV vs ns) (hl:ns.length<=a9) (hr:gf k rM)
  (F:∀base:aT,K.In base->base.Ns fv mg->gc P w K mg base CX k fa fd [x] sp) (W8:∀(s:au)(u:ak),uz s fd ⟨[u],[]⟩ [(x,u)])
  (oj:∀H:Hp,Em H->bL K H a (ns.map V.int)->sp [.ref a] H (λv _=>v=.bl true) λ_ _ _=>False)
  (CS:∀H e s',CX [] H s₁ (λ_ _ _=>False) e s'->False) :
  nV (aN P w) rM (.call (.ref fa) ⟨[.ref a],[]⟩) (λr s'=>r=.ok (.ret (.bool true))/\OldK s₁.heap s'.heap/\s'.os=s₁.os/\nO s'.gens) s₁:=by
 let rv:=R5 hi;let Yv:=hi.length
 let core:∀H:Hp,Em H->bL K H a (ns.map V.int)->cI P w H s₁.heap->(∀b,H b≠aj->b=a)->(H a≠aj->K.lookup a=aj) ->
   nV (aN P w) rM (.call (.ref fa) ⟨[.ref a],[]⟩) (λr s'=>r=.ok (.ret (.bool true))/\OldK s₁.heap s'.heap/\s'.os=s₁.os/\nO s'.gens) s₁:=by
  intro H hO hS aF hA hK;let Jm:∀{b:aq}{o:aV},s₁.heap.get? b=aa o->H b=aj->(m8 s₁.heap H).get? b=aa o:=λe n=>yE6 e n;let vM:∀{b:aq}{o:aV}{es:Array DictEntry}{ep:Nat},s₁.heap.get? b=aa o->o.data=.dict es ep->H b=aj:=λ{b o es ep} e d=>by
   cases q:H b with
   |none=>rfl
   |some u=>
    let e':b=a:=hA b (by rw[q];simp);subst e';rw[ha]at e;cases e;let d':Ia vs.toArray _=Data.dict es ep:=d;cases d'
  let zf:∀{b:aq}{m:Str->Option ak},s₁.heap.Ns b m->(m8 s₁.heap H).Ns b m:=λ{b m} ⟨o,es,ep,e,d,r⟩=>⟨o,es,ep,Jm e (vM e d),d,r⟩;let J6:K.In (m8 s₁.heap H):=λb o e=>Jm (KX b o e) (by
   cases q:H b with
   |none=>rfl
   |some u=>
    let e':b=a:=hA b (by rw[q];simp);subst e';rw[hK (by rw[q];simp)]at e;cases e)
  let hM:Mod K mg (m8 s₁.heap H):=⟨J6,zf lB,⟨mb,zf hb,W7⟩,let⟨mc,h1,h2⟩:=XA;⟨mc,zf h1,h2⟩⟩;let e0:zL P w K mg (m8 s₁.heap H) rM [] s₁ H:=⟨rfl,hM,λb o e=>yZ5 e,TL (ys1 _ _),trivial,λb hb=>absurd (show b∈([]:List aq)from hb) (by simp),aF,.of_eq hg⟩;refine yf ((F _ J6 (zf lB)).run rM [] s₁ H ⟨[.ref a],[]⟩ [.ref a] [.ref a] _ _ hr e0 (W8 s₁ (.ref a)) (.cons rfl .nil) (oj H hO hS)) λr s' h=>?_;cases r with
  |error e=>exact(CS H e s' h).elim
  |ok fl=>
   cases fl with
   |next=>exact ju h
   |brk=>exact ju h
   |cont=>exact ju h
   |ret u=>
    let(v,H',os,bare,un,XH,r',q):=h;let q':v=.bl true:=q;subst q';obtain rfl:u=gT true:=r';refine(rfl,OldK.of_keep λb o e=>?_,os,bare);cases q:H b with
    |none=>exact un.keep b o e q (by intro z;exact absurd (show b∈([]:List aq)from z) (by simp)) (by simp)
    |some u=>
     rcases hO b with z |⟨ob,xs,z⟩
     .rw[q]at z;cases z
     .let z2:=un.lq b ob _ z;let(e1,_):=aF b _ z;let(e2,_):=XH b _ z2;rw[e]at e1;cases e1;exact e2
 cases hk:K.lookup a with
 |some o=>
  let e:=KX a o hk;rw[ha]at e;cases e;refine core (λ_=>aj) (λ_=>.inl rfl) (.inr ⟨_,vs.toArray,_,hk,rfl,rfl,rfl,by rw[cV,Yv];exact hl,by simpa using rv⟩) (λb u z=>by let z':(aj:Option HO)=aa u:=z;cases z') (λb z=>absurd rfl z) λz=>absurd rfl z
 |none=>
  refine core (λb=>if b=a then aa (.iJ { cls:=.type "list", data:=.seq vs.toArray } (.ai (ns.map V.int)))else aj) (λb=>?_) (.inl (.inr ⟨{ cls:=.type "list", data:=.seq vs.toArray },if_pos rfl⟩)) (λb u z=>?_) (λb z=>?_) λ_=>hk
  .by_cases hb:b=a
   .exact .inr ⟨_,_,if_pos hb⟩
   .exact .inl (if_neg hb)
  .by_cases hb:b=a
   .let z':=(if_pos hb).symm.trans z;cases z';subst hb;exact(ha,by rw[cy];exact hl,vs,_,rv,ha)
   .let z':=(if_neg hb).symm.trans z;cases z'
  .by_cases hb:b=a
   .exact hb
   .exact absurd (if_neg hb) z
def xU2{l:Vo}{n k:Nat}{q:Program}{loose:List Str}{XP:(Str->Option ak)->aT->Prop}{YP:aY->aT->Prop}{d:DefRec}{K:pR->aQ}{CX:aY->kf}{sp:aY->Sp}
  (hn:l.most=aa n) (Df:n<=a9) (u9:d.params.defaults=[]) (hr:gf k rM)
  (hY:∀(w:aY)(h:aT),YP w h->(K w.params).In h)
  (F:∀(w:aY)(mg:Str->Option ak)(fa:aq)(h:aT),(K w.params).In h->h.Ns fv mg->mg d.name=aa (.ref fa) ->
   ∃ fd:j_,(∀(s:au)(u:ak),uz s fd ⟨[u],[]⟩ [(x,u)]) /\
    ∀base:aT,(K w.params).In base->base.Ns fv mg->gc l.prog w (K w.params) mg base (CX w) k fa fd [x] (sp w))
  (oj:∀(w:aY)(H:Hp)(a:aq)(ns:List Int),ns.length<=n->Em H->bL (K w.params) H a (ns.map V.int)->sp w [.ref a] H (λv _=>v=.bl true) λ_ _ _=>False)
  (CS:∀(w:aY)(H:Hp)(s:au)(e:ak)(s':au),CX w [] H s (λ_ _ _=>False) e s'->False) :
  Vr q loose XP YP l.row.toRowW d [] (λf vs=>IE f vs):=by
 refine Att.Wa hn u9 λw s₀ s₁ mg mb fa o pm cd doc a vs ns G YYY ho hd i_ vo vt hints bj hg=>?_;let KX:=hY w _ YYY;let(fd,hb,hF):=F w mg fa _ KX G.T.g vo;exact yG1 KX G.T.g G.T.b G.T.builtins G.T.nolimit hg vt hints (df bj Df) hr hF hb (λH hO hS=>oj w H a ns bj hO hS) λH e s'=>CS w H s₁ e s'
def nG(s:bW):xX:=match s with
 |.FunctionDef _ a _ _ _ _ _ _ _ _=>a
 |_=>{ posonlyargs:=[],args:=[],vararg:=aj,kwonlyargs:=[],kw_defaults:=[],kwarg:=aj,defaults:=[] }
def lV(s:bW):List bW:=match s with
 |.FunctionDef _ _ b _ _ _ _ _ _ _=>b
 |_=>[]
def gN(s:bW):cB:=match s with
 |.FunctionDef _ _ _ _ _ _ sc _ _ _=>sc
 |_=>{ kind:=.function,names:=[],isGenerator:=false,isCoroutine:=false }
@[reducible] def gU:kf:=λ_ _ _ _ _ _=>False
@[reducible] def E0:XK:=λ_ _ _=>False
def NP{X:Cx}:An gU X E0:=λ_ _ _ _ _ _ _ h=>h.elim
structure mo(K:aQ)(x qual:Str)(st:bW)(f:aq)(fd:j_):Prop where
 ex:∃(oc:ak)(od:Option aq)(kV doc pm:ak)(an:Option aq)(cdv ct:ak)(jc:Array (Option ak)),
  fd=nR x qual (nG st) (lV st) (gN st) .none kV doc pm an cdv ct/\K.lookup f=aa ⟨oc,od,.func fd,jc⟩/\codeIn K cdv qual=true
 kp:pU K (.ref f)=true
variable{qual:Str}{st:bW}{f:aq}
section
variable{P:Program}{w:aY}{K:aQ}{mg:Str->Option ak}{base:aT}
def mo.ok{N ps:List Str}{k:Nat}{sp:Sp}(F:mo K x qual st f fd)(S:wB N ps (gN st))(len:∀vs H Q E,sp vs H Q E->vs.length=ps.length)
  (CW:∀(cdv:ak)(A:bb)(outer:List Env)(s:au)(H:Hp)(vs:List V)(Q:VK) (E:XK),gf k (A.deeper (md qual (gN st) s.heap.objs.size f cdv))->sp vs H Q E ->
   ∃t,fF (qF gU P w K mg base N qual (gN st) f cdv A outer s H E).vO (lV st) t/\t { nx:=λ_ H'=>Q .aL H',rt:=Q } (start N vs) H):gc P w K mg base gU (k+1) f fd ps sp:=by
 let(oc,od,kV,doc,pm,an,cdv,ct,jc,rfl,lk,i_):=F.ex;refine ω lk i_ S len λA outer s H vs Q E hr oj=>?_;let(t,h,q):=CW cdv A outer s H vs Q E hr oj;exact(t,h.vO,q)
def mo.binds{ps:List Str}(F:mo K x qual st f fd)
  (h:∀(kV doc pm:ak)(an:Option aq)(cdv ct:ak)(us:List ak),us.length=ps.length->ye (nR x qual (nG st) (lV st) (gN st) .none kV doc pm an cdv ct) ⟨us,[]⟩=pure (ps.zip us)):Binds K fd ps []:=by
 let(oc,od,kV,doc,pm,an,cdv,ct,jc,rfl,lk,i_):=F.ex;exact .all (h kV doc pm an cdv ct)
def Og{oc:ak}{od an:Option aq}{jc:Array (Option ak)}{kV doc pm cdv ct:ak}(l:K.lookup f=aa ⟨oc,od,.func (nR x qual (nG st) (lV st) (gN st) .none kV doc pm an cdv ct),jc⟩)
  (c:codeIn K cdv qual=true) (k:pU K (.ref f)=true):mo K x qual st f (nR x qual (nG st) (lV st) (gN st) .none kV doc pm an cdv ct):=⟨⟨oc,od,kV,doc,pm,an,cdv,ct,jc,rfl,l,c⟩,k⟩
end
section
variable{X:Cx}
end
def Yl{A B:Prop}(h:B):if false=true then A else B:=by
 rw[if_neg nL];exact h
def Ym{A B:Prop}(h:A):if true=true then A else B:=by
 rw[if_pos rfl];exact h
def bt(H H':Hp):Prop:=∀b o,H b=aa o->H' b=aa o
def bt.refl(H:Hp):bt H H:=λ_ _ h=>h
def bt.seq{K:aQ}{H H':Hp}{a:aq}{xs:List V}(e:bt H H')(h:bL K H a xs):bL K H' a xs:=by
 rcases h with(h |⟨o,h⟩)|h
 .exact .inl (.inl (e _ _ h))
 .exact .inl (.inr ⟨o,e _ _ h⟩)
 .exact .inr h
end L2
namespace HT
open PySem
def fi(xs:Array Nat):Prop:=xs.toList.Pairwise (· < ·)
def fi.at{xs:Array Nat}(h:fi xs){i k:Nat}(Xq:i<k)(hk:k<xs.size):xs[i]'()<xs[k]:=by
 let:=Bz.mp h i k (by simp;lia) (by simpa using hk) Xq;simpa using this
structure Cd(xs:Array Nat)(j r:Nat):Prop where
 le:r<=xs.size
 lo:∀i (h:i<xs.size),i<r->xs[i]<j
 hi:∀i (h:i<xs.size),r<=i->j<=xs[i]
def Cr{xs:Array Nat}{j:Nat}(hr:fi xs):∀(f lo hi:Nat),hi<=lo+f->lo<=hi->hi<=xs.size->(∀i (h:i<xs.size),i<lo->xs[i]<j)->(∀i (h:i<xs.size),hi<=i->j<=xs[i])->Cd xs j (U6 xs j f lo hi)
 | 0,lo,hi,hf,h1,h2,h3,h4=>by
  let:lo=hi:=by lia
  subst this;exact(h2,h3,h4)
 | f+1,lo,hi,hf,h1,h2,h3,h4=>by
  rw[U6];by_cases c:lo<hi
  .rw[if_pos c];let hm:(lo+hi)/2<xs.size:=by lia
   let e:xs.getD ((lo+hi)/2) j=xs[(lo+hi)/2]:=by simp[Bm,hm]
   dsimp only;rw[e];by_cases c2:xs[(lo+hi)/2]<j
   .rw[if_pos c2];refine Cr hr f _ _ () () h2 (λi h hq=>?_) h4;by_cases e2:i=(lo+hi)/2
    .subst e2;exact c2
    .exact ux (hr.at (show i<(lo+hi)/2 by lia) hm) c2
   .rw[if_neg c2];refine Cr hr f _ _ () () () h3 (λi h hq=>?_);by_cases e2:i=(lo+hi)/2
    .subst e2;lia
    .let:=hr.at (show(lo+hi)/2<i by lia) h;lia
  .rw[if_neg c];let:lo=hi:=by lia
   subst this;exact(h2,h3,h4)
def Jn{xs:Array Nat}{j:Nat}(hr:fi xs):Cd xs j (dh xs j) :=
 Cr hr _ _ _ () () (bF _) (λi _ h=>absurd h (TU _)) (λi h h2=>absurd h ())
def Mj{xs:Array Nat}{j:Nat}(hr:fi xs)(hj:¬xs[dh xs j]?=aa j):fi (iC xs (dh xs j) j):=by
 let L:=Jn (j:=j) hr;generalize dh xs j=p at *
 unfold fi iC;let e:((xs.extract 0 p).push j++xs.extract p xs.size).toList=xs.toList.take p++j::xs.toList.drop p:=by
  simp[Array.toList_extract,List.extract_eq_drop_take];exact kU (by simp)
 rw[e,Th];let hp:∀x∈xs.toList.take p,x<j:=by
  intro x hx;let(i,hi,rfl):=xH.mp hx;simp at hi;let:=L.lo i () ();simpa using this
 let hq:∀x∈xs.toList.drop p,j<x:=by
  intro x hx;let(i,hi,rfl):=xH.mp hx;simp at hi;let h1:=L.hi (p+i) () ();let h2:xs[p+i]≠j:=by
   intro e2;by_cases c:i=0
   .subst c;exact hj (by rw[<-e2];exact pA _)
   .let h3:=hr.at (show p<p+i by lia) ();let h4:=L.hi p () (bF _);lia
  simp;lia
 refine(hr.sublist (xN _ _),?_,?_)
 .rw[Ti];exact(hq,hr.sublist (SX _ _))
 .intro a ha b hb;rcases bN.mp hb with rfl |hb
  .exact hp a ha
  .exact ux (hp a ha) (hq b hb)
def zm(n:Nat):fi (Array.range n):=by
 unfold fi;rw[Array.toList_range];exact HF
def Mk{O:Type}(f:Nat->Option O)(n:Nat):fi (((cF n).filterMap λj=>(f j).map (j,·)).map (·.1)).toArray:=by
 unfold fi;rw[xP];let:((cF n).filterMap λj=>(f j).map (j,·)).map (·.1)=(cF n).filter λj=>(f j).isSome:=by
  generalize cF n=l;induction l with
  |nil=>rfl
  |cons x r ih=>
   cases h:f x with
   |none=>simp[h,ih]
   |some y=>simp[h,ih]
 rw[this];exact HF.sublist Bt
def CJ{t:dF}{f:Nat->Int}{h:Int}:∀(n:Nat)(p:yb){j:Nat}{d:Option Nat},(∀x,p.dummy=aa x->¬t.place[dh t.place x]?=aa x)->uC t f h n p=aa (.empty j d)->¬t.place[dh t.place (d.getD j)]?=aa (d.getD j)
 |0,p,j,d,hp,e=>by rw[uC]at e;cases e
 | n+1,p,j,d,hp,e=>by
  rw[uC]at e;let Jh:∀q:yb,(t.advance q).dummy=q.dummy:=λq=>by
   unfold rK;split<;>rfl
  let slot:∀(x:Nat),(t.slot x=.empty\/t.slot x=.dummy)->¬t.place[dh t.place x]?=aa x:=by
   intro x hx hc;let e:t.slot x=.live (dh t.place x):=by
    unfold Iw;simp[hc]
   rw[e]at hx;rcases hx with hx |hx<;>cases hx
  cases hs:t.slot p.j with
  |empty=>
   rw[hs]at e;dsimp only at e;cases e;cases hd:p.dummy with
   |none=>exact slot _ (.inl hs)
   |some x=>exact hp x hd
  |dummy=>
   rw[hs]at e;dsimp only at e;refine CJ n _ ?_ e;intro x hx;rw[Jh]at hx;cases hx;exact slot _ (.inr hs)
  |live i=>
   rw[hs]at e;dsimp only at e;split at e
   .cases e
   .refine CJ n _ ?_ e;intro x hx;rw[Jh]at hx;exact hp x hx
def Wz{t:dF}{h:Int}{j:Nat}{b:Bool}(e:t.freeSlot h=aa (j,b)):¬t.place[dh t.place j]?=aa j:=by
 unfold SetTable.freeSlot at e;split at e
 .rename_i j' d hq
  cases e;exact CJ _ _ (by intro x hx;cases hx) hq
 .cases e
def YR{t:dF}(n:Nat)(hr:fi t.place):fi (t.orStandIn n).place/\(t.orStandIn n).led=t.led:=by
 unfold SetTable.orStandIn;split
 .exact(hr,rfl)
 .exact(zm _,rfl)
def Yt{t:dF}(es:Array (Int×ak))(h:Int)(x:ak)(hr:fi t.place):fi (rN t es h x).2.1.place/\(rN t es h x).2.1.led=t.led:=by
 unfold rN;split
 .rename_i j b hq
  exact YR (t:=(t.put j).1) _ (Mj hr (Wz hq))
 .exact(zm _,rfl)
def Mg{t:dF}(es:Array (Int×ak))(n:Nat):fi (mi t es n).2.1.place/\(mi t es n).2.1.led=t.led:=by
 unfold mi;split
 .rename_i t' ord hq
  dsimp only;split
  .unfold Va U9 at hq;let(ow,_,e):=BI.mp hq;cases e;exact(Mk _ _,rfl)
  .exact(zm _,rfl)
 .exact(zm _,rfl)
def Cu(w:aY):Bool:=w.params.followText "set-order"
section
variable{prog:Program}{w:aY}{K:Type}[DecidableEq K]{knd:KeyKind prog w K}{A:bb}{E:ak->au->Prop}{s:au}
structure iG(knd:KeyKind prog w K)(es:Array (Int×ak))(t:dF)(ks:List K):Prop where
 el:ElemsOf knd es.toList
 mem:∀k,k∈ks↔∃e∈es.toList,knd.is k e.2=true
 len:es.size=ks.length
 lj:es.size<B2
 fits:t.fits es.size=true
 rise:fi t.place
 led:t.led = !Cu w
def p_(knd:KeyKind prog w K)(h:aT)(a:aq)(ks:List K):Prop :=
 ∃o es ep t,h.get? a=aa o/\o.ExactSet/\o.data=.set es ep t/\iG knd es t ks
def iG.fresh:iG knd #[] (.fresh 0 0 (!Cu w)) [] :=
 ⟨λe he=>by simp at he,λk=>by simp,rfl,by decide,rfl,Hm,rfl⟩
def iG.Y_{es t ks}(T:iG knd es t ks)(n:Nat):iG knd (mi t es n).1 (mi t es n).2.1 ks:=by
 let p:=relayAll_perm t es n;let hs:(mi t es n).1.size=es.size:=by simpa using p.length_eq
 refine(T.el.perm p,λk=>(T.mem k).trans ?_,by rw[hs,T.len],by rw[hs];exact T.lj,relayAll_fits t es n,(Mg es n).1,(Mg es n).2.trans T.led);exact(λ⟨e,h1,h2⟩=>⟨e,p.mem_iff.mpr h1,h2⟩,λ⟨e,h1,h2⟩=>⟨e,p.mem_iff.mp h1,h2⟩)
def iG.lay{es t ks}(T:iG knd es t ks){k:K}{x:ak}(hx:knd.is k x=true)(vy:x.scannable=true)(hk:k∉ks)(yQ:ks.length+1<B2):
  iG knd (rN t es (knd.hash k) x).1 (rN t es (knd.hash k) x).2.1 (ks++[k]):=by
 let p:=layNew_perm t es (knd.hash k) x;rw[Sz]at p;let hs:(rN t es (knd.hash k) x).1.size=es.size+1:=by simpa using p.length_eq
 let r:=Yt es (knd.hash k) x T.rise;refine((T.el.push hx vy).perm p,λj=>?_,by rw[hs,T.len];simp,by rw[hs,T.len];exact yQ,layNew_fits t es _ x,r.1,r.2.trans T.led);rw[d0,T.mem j,jw];constructor
 .rintro (⟨e,h1,h2⟩|rfl)
  .exact(e,p.mem_iff.mpr (uv _ h1),h2)
  .exact(_,p.mem_iff.mpr (kR _ (jw.mpr rfl)),hx)
 .rintro⟨e,h1,h2⟩;rcases d0.mp (p.mem_iff.mp h1)with h |h
  .exact .inl ⟨e,h,h2⟩
  .rw[jw]at h;subst h;exact .inr (knd.inj x j k h2 hx)
def iG.off{es t ks}(T:iG knd es t ks):iG knd es { t with plain:=false } ks :=
 ⟨T.el,T.mem,T.len,T.lj,by let:=T.fits;cases t;exact this,T.rise,T.led⟩
def gW(ks:List K)(k:K):List K:=if k∈ks then ks else ks++[k]
def zj{h:aT}{a:aq}{o:aV}{es:Array (Int×ak)}{ep:Nat}{t:dF}(ho:h.get? a=aa o)(hd:o.data=.set es ep t)(d_:Array (Int×ak))(t':dF):
  (h.update a (ya d_ t')).get? a=aa { o with data:=.set d_ (ep+1) t' }:=by
 let g:=x_ (ya d_ t') ho (by rw[putSet_of d_ t' hd];rfl)
 rwa [putSet_of d_ t' hd]at g
def Jg{g:Bool->fh Unit}(hg:∀(b:Bool)(s₁:au)(Q':Unit->au->Prop),Q' Unit.unit s₁->aG (aN prog w) A (g b) Q' E s₁)
  {a:aq} {o:aV} {es:Array (Int×ak)} {ep:Nat} {t:dF} (ho:s.heap.get? a=aa o) (hex:o.ExactSet) (hd:o.data=.set es ep t)
  {d_:Array (Int×ak)} {t':dF} {ks:List K} (T:iG knd d_ t' ks) {b:Bool} {R:Option Bool->au->Prop}
  (h:∀h',gS a s.heap h'->p_ knd h' a ks->R (aa true) { s with heap:=h' }) :
  aG (aN prog w) A (do
    B6 a d_ t'
    if(!b&&t'.tooFull)=true then do
      g (mi t' d_ (rL d_.size)).2.2
      B6 a (mi t' d_ (rL d_.size)).1 (mi t' d_ (rL d_.size)).2.1
      pure (aa true)
     else pure (aa true)) R E s:=by
 refine aE (B7 ho hd ?_ (VA T.lj));let h1:=zj ho hd d_ t';let b1:=pQ s.heap a (ya d_ t');split
 .let T2:=T.Y_ (rL d_.size);generalize mi t' d_ (rL d_.size)=ZZZ at T2 ⊢;refine aE (hg _ _ _ ?_);refine aE (B7 h1 rfl ?_ (VA T2.lj));exact aX (h _ (b1.trans (pQ _ a _)) ⟨_,_,_,_,zj h1 rfl _ _,hex,rfl,T2⟩)
 .exact aX (h _ b1 ⟨_,_,_,_,h1,hex,rfl,T⟩)
def Zn{a:aq}{ks:List K}{k:K}{x:ak}{Q:Bool->au->Prop}(hx:knd.is k x=true)(vy:x.scannable=true)(hS:p_ knd s.heap a ks)(yQ:ks.length+1<B2)
  (h:∀h' b,gS a s.heap h'->p_ knd h' a (gW ks k)->Q b { s with heap:=h' }) :
  aG (aN prog w) A (B3 a x (knd.hash k)) Q E s:=by
 let(o,es,ep,t,ho,hex,hd,T):=hS;unfold B3 setAddHashedIn;refine kc (aE (uN ho hd T.fits ?_));dsimp only;rw[byScan_of vy T.lj T.el];simp only[↓reduceIte];unfold setAddByScan;refine aE (aE (p8 (aE (wpAny_setScan_of hx ho hd T.fits T.el ?_))));cases hr:List.findIdx? (λe=>knd.is k e.2) es.toList with
 |some j=>
  dsimp only;let(hj,hp,_):=List.findIdx?_eq_some_iff_getElem.mp hr;let hk:k∈ks:=(T.mem k).mpr ⟨_,rH hj,hp⟩;let q:=h s.heap false (Il a s.heap) (by rw[gW,if_pos hk];exact(o,es,ep,t,ho,hex,hd,T));exact aX (aX (by cases s;exact q))
 |none=>
  dsimp only;let hk:k∉ks:=λhk=>by
   let(e,he,hp):=(T.mem k).mp hk;let:=List.findIdx?_eq_none_iff.mp hr e he;rw[hp]at this;cases this
  let T1:=T.lay hx vy hk yQ;rw[gW,if_neg hk]at h;let gw:∀(b:Bool)(s₁:au)(Q':Unit->au->Prop),Q' Unit.unit s₁->aG (aN prog w) A (match b with |true=>nW "set.scan.the-table-gave-way" |false=>pure Unit.unit) Q' E s₁:=by
   intro b s₁ Q' q;cases b
   .exact aX q
   .exact p8 q
  generalize rN t es (knd.hash k) x=L at T1 ⊢;let(eu,t1,wd,ac1):=L;dsimp only at T1 ⊢;refine aE (gw _ _ _ ?_);split
  .refine aE ?_;rw[hashByValue_scannable 8 vy];refine aX ?_;refine Jg (knd:=knd) (λb s₁ Q' q=>by cases b<;>first |exact aX q |exact p8 q) ho hex hd (ks:=ks++[k]) ?_ ?_
   .split
    .exact T1
    .exact T1.off
   .intro h' hb hS;exact aX (h h' _ hb hS)
  .refine aE (aX ?_);simp only[↓reduceIte];refine Jg (knd:=knd) (λb s₁ Q' q=>by cases b<;>first |exact aX q |exact p8 q) ho hex hd T1 ?_
   intro h' hb hS;exact aX (h h' _ hb hS)
end
open PyProof.Rows
section
variable{K:Type}[DecidableEq K]
def once(ns:List K):List K:=ns.foldl gW []
def sP(ns:List K)(k:K):once (ns++[k])=gW (once ns) k:=by simp[once]
def LZ:∀ns:List K,(once ns).length<=ns.length:=by
 let:∀r:List K,(once r.reverse).length<=r.length:=by
  intro r;induction r with
  |nil=>simp[once]
  |cons k r ih=>
   rw[nN,sP,gW];split
   .simp;lia
   .simp;lia
 intro ns;let:=this ns.reverse;simpa using this
def YQ{ns:List K}{i:Nat}{k:K}(h:ns[i]?=aa k):once (ns.take (i+1))=gW (once (ns.take i)) k:=by
 rw[BB,h,Option.toList_some,sP]
end
section
variable{prog:Program}{w:aY}{K:Type}[DecidableEq K]{knd:KeyKind prog w K}
def p_.kept{h h':aT}{a:aq}{ks:List K}(S:p_ knd h a ks)(e:∀o,h.get? a=aa o->h'.get? a=aa o):p_ knd h' a ks:=by
 let(o,es,ep,t,ho,r):=S;exact(o,es,ep,t,e o ho,r)
variable{A:bb}{R:Result->au->Prop}{I:aq}{fp wr:List aq}{G:Array pP->Array pP->Prop}{n:Nat}{P:Nat->ak->Prop}{St:Nat->au->Prop}
end
section
variable{prog:Program}{w:aY}{A:bb}{E:ak->au->Prop}{s:au}
@[reducible] def gJ(w:aY):aV:={ cls:=.type "set", dict:=aj,data:=.set #[] 0 (.fresh 0 0 (!Cu w)) }
def Zq(a:ak){Q:ak->au->Prop}(h:Q (.ref s.heap.objs.size) { s with heap:=s.heap.push (gJ w) }):
  nV (aN prog w) A (.call (.builtin "set.__new__") ⟨[.type "set", a],[]⟩) (wants Q E) s:=by
 refine Vz ?_;show aG _ A.in1 (do Vy "set.__new__" ⟨[.type "set", a],[]⟩;again (.builtin "set.__new__" ⟨[.type "set", a],[]⟩)) _ _ s
 refine aE (wpAny_of_eq (PySem.F.newCall_set_1 a) (aX ⟨plainId_quiet UT _,BV PySem.F.entry_set_new ?_⟩));rw[HZ UT _];unfold Builtin.«set.__new__» aa1;let g9:=PySem.sub_set_self;let(hp,g,d,tk,os):=s;dsimp only
 wp_walk
 refine wpAny_askSetting (aX ?_);dsimp only;simp only[newObj];exact aE (wpAny_alloc (aX (aX h)))
end
section
variable{prog:Program}{w:aY}{K:Type}[DecidableEq K]{knd:KeyKind prog w K}{A:bb}{E:ak->au->Prop}{s:au}
end
section
variable{prog:Program}{w:aY}{A:bb}{E:ak->au->Prop}{s:au}
end
section
variable{prog:Program}{w:aY}{A:bb}{E:ak->au->Prop}{s:au}
end
section
variable{prog:Program}{w:aY}{A:bb}{E:ak->au->Prop}{s:au}
end
@[reducible] def Zj(a b:Array pP):Prop:=b=a
section
variable{prog:Program}{w:aY}{A:bb}{E:ak->au->Prop}{s:au}
end
structure SW(prog:Program)(w:aY)(I:aq)(fp:List aq)(vs:List ak)(St:Nat->au->Prop):Prop where
 walk:∀B:bb,B.handled=aj->WalksS prog w B I fp [I] Zj vs.length (λi v=>vs[i]?=aa v) St
 typ:∀i z,St i z->z.TypeIs (.ref I) "set_iterator"
section
variable{prog:Program}{w:aY}{K:Type}[DecidableEq K]{knd:KeyKind prog w K}{A:bb}{E:ak->au->Prop}{s:au}
end
section
variable{prog:Program}{w:aY}{K:Type}[DecidableEq K]{knd:KeyKind prog w K}{A:bb}{E:ak->au->Prop}{s:au}
end
def YO{K:Type}[DecidableEq K](ns:List K)(k:K):k∈once ns↔k∈ns:=by
 let:∀r:List K,k∈once r.reverse↔k∈r:=by
  intro r;induction r with
  |nil=>simp[once]
  |cons j r ih=>
   rw[nN,sP,gW];split
   .rename_i hj
    rw[ih,bN];refine(.inr,λh=>h.elim (λe=>?_) id);rw[e];let:j∈once r.reverse:=hj;clear ih;exact e▸((by
     let key:∀(r:List K)(j:K),j∈once r.reverse->j∈r:=by
      intro r;induction r with
      |nil=>intro j h;simp[once]at h
      |cons x r ih=>
       intro j h;rw[nN,sP,gW]at h;split at h
       .exact b5 _ (ih j h)
       .rcases d0.mp h with h |h
        .exact b5 _ (ih j h)
        .simp at h;simp[h]
     exact key r j this):j∈r)
   .rw[d0,ih,jw,bN,or_comm]
 let h:=this ns.reverse
 rwa [HG,List.mem_reverse]at h
section
variable{prog:Program}{w:aY}{A:bb}{E:ak->au->Prop}{s:au}
end
end HT
namespace OR
open PySem L2
mutual
/-- a pure value ag5 at v;lv: the ae3 af5 addresses -/
noncomputable def RP(K:aQ)(H:Hp)(lv:aq->Prop):PV->V->Prop
 |.aL,v=>v=.aL
 |.bl b,v=>v=.bl b
 |.int i,v=>v=.int i
 |.str cs,v=>v=.str ⟨cs.toArray⟩/\cs.length<=a9
 |.af xs,v=>∃a vs,v=.ref a/\bR K H a vs/\aC K H lv xs vs
 |.ai xs,v=>∃a vs,v=.ref a/\bL K H a vs/\¬lv a/\aC K H lv xs vs
noncomputable def aC(K:aQ)(H:Hp)(lv:aq->Prop):List PV->List V->Prop
 |[],vs=>vs=[]
 |x::r,vs=>∃v vr,vs=v::vr/\RP K H lv x v/\aC K H lv r vr
end
set_option genInjectivity false in
structure Al where
 adr:List aq
 bq:aq->Prop
def aP(O:Al)(st:ay)(a:aq):Prop:=O.bq a\/∃n o,O.adr[n]?=aa a/\aW st n=aa o/\o≠.dead
abbrev keyOf:PV->Option Key
 |.int i=>aa (.inl i)
 |.str cs=>aa (.inr ⟨cs.toArray⟩)
 |_=>aj
abbrev bS(K:aQ)(H:Hp)(lv:aq->Prop):List (PV×PV)->List (Key×V)->Prop
 |[],l=>l=[]
 |(k,x)::r,l=>∃k' v l',l=(k',v)::l'/\keyOf k=aa k'/\RP K H lv x v/\bS K H lv r l'
abbrev OB:List PV->Option (List Key)
 |[]=>aa []
 |.str cs::r=>(OB r).map (.inr ⟨cs.toArray⟩ :: ·)
 |_=>aj
abbrev xp8:PV->Option (List Key)
 |.af xs=>OB xs
 |_=>aj
abbrev eO(K:aQ)(H:Hp)(lv:aq->Prop):List (PV×PV)->List (List Key×V)->Prop
 |[],l=>l=[]
 |(k,x)::r,l=>∃k' v l',l=(k',v)::l'/\xp8 k=aa k'/\RP K H lv x v/\eO K H lv r l'
structure bu(K:aQ)(O:Al)(st:ay)(H:Hp):Prop where
 len:O.adr.length=st.length
 ai:∀n xs,aW st n=aa (.ai xs)->∃a vs,O.adr[n]?=aa a/\H a=aa (.ai vs)/\aC K H (aP O st) xs vs
 bB:∀n av,aW st n=aa (.bB av)->∃a l,O.adr[n]?=aa a/\H a=aa (.dK l)/\bS K H (aP O st) av l
 dG:∀n av,aW st n=aa (.dG av)->∃a l,O.adr[n]?=aa a/\H a=aa (.dT l)/\eO K H (aP O st) av l
 inj:∀(n m:Nat) a o o',n≠m->O.adr[n]?=aa a->O.adr[m]?=aa a->aW st n=aa o->aW st m=aa o'->o=.dead\/o'=.dead
 nk:∀a,aP O st a->K.lookup a=aj
 gF:∀(n:Nat) a o,O.adr[n]?=aa a->aW st n=aa o->o≠.dead->¬O.bq a
 bq:∀a,O.bq a->∃vs,H a=aa (.ai vs)
abbrev RV(K:aQ)(O:Al)(st:ay)(H:Hp):aJ->V->Prop
 |.p x,v=>RP K H (aP O st) x v
 |.ref n,v=>∃a,v=.ref a/\O.adr[n]?=aa a
structure bD(K:aQ)(O:Al)(st:ay)(H:Hp)(O':Al)(ao:ay)(H':Hp):Prop where
 pre:∀(n:Nat) a,O.adr[n]?=aa a->O'.adr[n]?=aa a
 af:∀a vs,bR K H a vs->bR K H' a vs
 ai:∀a vs,bL K H a vs->¬aP O st a->bL K H' a vs/\¬aP O' ao a
 bq:O'.bq=O.bq
 raw:∀a,O.bq a->H' a=H a
variable{a:aq}{vs:List V}{xs:List PV}
section
variable{K:aQ}{O O' α2:Al}{st ao aI:ay}{H H' H2:Hp}{lv oC:aq->Prop}
def bD.refl:bD K O st H O st H:=⟨λ_ _ h=>h,λ_ _ h=>h,λ_ _ h n=>⟨h,n⟩,rfl,λ_ _=>rfl⟩
def bD.trans(a:bD K O st H O' ao H')(b:bD K O' ao H' α2 aI H2):bD K O st H α2 aI H2 :=
 ⟨λn x h=>b.pre n x (a.pre n x h),λx vs h=>b.af x vs (a.af x vs h),λx vs h n=>let⟨h1,n1⟩:=a.ai x vs h n;b.ai x vs h1 n1,b.bq.trans a.bq,λx h=>(b.raw x (by rw[a.bq];exact h)).trans (a.raw x h)⟩
mutual
theorem RP.mono(ht:∀a vs,bR K H a vs->bR K H' a vs)(hl:∀a vs,bL K H a vs->¬lv a->bL K H' a vs/\¬oC a):∀(x:PV)(v:V),RP K H lv x v->RP K H' oC x v
 |.aL,v,h=>by rw[RP]at h ⊢;exact h
 |.bl b,v,h=>by rw[RP]at h ⊢;exact h
 |.int i,v,h=>by rw[RP]at h ⊢;exact h
 |.str cs,v,h=>by rw[RP]at h ⊢;exact h
 | .af xs,v,h=>by
  rw[RP]at h ⊢;let(a,vs,e,q,r):=h;exact(a,vs,e,ht a vs q,aC.mono ht hl xs vs r)
 | .ai xs,v,h=>by
  rw[RP]at h ⊢;let(a,vs,e,q,n,r):=h;let(q',n'):=hl a vs q n;exact(a,vs,e,q',n',aC.mono ht hl xs vs r)
theorem aC.mono(ht:∀a vs,bR K H a vs->bR K H' a vs)(hl:∀a vs,bL K H a vs->¬lv a->bL K H' a vs/\¬oC a):∀(xs:List PV)(vs:List V),aC K H lv xs vs->aC K H' oC xs vs
 |[],vs,h=>by rw[aC]at h ⊢;exact h
 | x::r,vs,h=>by
  rw[aC]at h ⊢;let(v,vr,e,q,t):=h;exact(v,vr,e,RP.mono ht hl x v q,aC.mono ht hl r vr t)
end
def bS.mono(ht:∀a vs,bR K H a vs->bR K H' a vs)(hl:∀a vs,bL K H a vs->¬lv a->bL K H' a vs/\¬oC a):∀(av:List (PV×PV)) (l:List (Key×V)),bS K H lv av l->bS K H' oC av l
 |[],l,h=>by rw[bS]at h ⊢;exact h
 | (k,x)::r,l,h=>by
  rw[bS]at h ⊢;let(k',v,l',e,ek,q,t):=h;exact(k',v,l',e,ek,RP.mono ht hl x v q,bS.mono ht hl r l' t)
def eO.mono(ht:∀a vs,bR K H a vs->bR K H' a vs)(hl:∀a vs,bL K H a vs->¬lv a->bL K H' a vs/\¬oC a):∀(av:List (PV×PV)) (l:List (List Key×V)),eO K H lv av l->eO K H' oC av l
 |[],l,h=>by rw[eO]at h ⊢;exact h
 | (k,x)::r,l,h=>by
  rw[eO]at h ⊢;let(k',v,l',e,ek,q,t):=h;exact(k',v,l',e,ek,RP.mono ht hl x v q,eO.mono ht hl r l' t)
def bD.rp(e:bD K O st H O' ao H'){x:PV}{v:V}(h:RP K H (aP O st) x v):RP K H' (aP O' ao) x v:=RP.mono e.af e.ai x v h
def bD.cE(e:bD K O st H O' ao H'){x:List PV}{v:List V}(h:aC K H (aP O st) x v):aC K H' (aP O' ao) x v:=aC.mono e.af e.ai x v h
def bD.rv(e:bD K O st H O' ao H'){x:aJ}{v:V}(h:RV K O st H x v):RV K O' ao H' x v:=by
 cases x with
 |p x=>exact e.rp h
 |ref n=>let(a,h1,h2):=h;exact(a,h1,e.pre n a h2)
def bR.same(s:bt H H')(h:bR K H a vs):bR K H' a vs:=by
 rcases h with(h |⟨o,h⟩)|h
 .exact .inl (.inl (s _ _ h))
 .exact .inl (.inr ⟨o,s _ _ h⟩)
 .exact .inr h
def bD.of_same(r:bu K O st H)(s:bt H H'):bD K O st H O st H':=⟨λ_ _ h=>h,λ_ _ h=>bR.same s h,λ_ _ h n=>⟨bt.seq s h,n⟩,rfl,λa ha=>by
 let(vs,e):=r.bq a ha;rw[e,s _ _ e]⟩
def bu.same(s:bt H H')(r:bu K O st H):bu K O st H':=by
 refine(r.len,λn xs h=>?_,λn av h=>?_,λn av h=>?_,r.inj,r.nk,r.gF,λa ha=>let⟨vs,e⟩:=r.bq a ha;⟨vs,s _ _ e⟩)
 .let(a,vs,h1,h2,h3):=r.ai n xs h;exact(a,vs,h1,s _ _ h2,(bD.of_same r s).cE h3)
 .let(a,vs,h1,h2,h3):=r.bB n av h;exact(a,vs,h1,s _ _ h2,bS.mono (λ_ _ h=>bR.same s h) (λ_ _ h n=>⟨bt.seq s h,n⟩) _ _ h3)
 .let(a,vs,h1,h2,h3):=r.dG n av h;exact(a,vs,h1,s _ _ h2,eO.mono (λ_ _ h=>bR.same s h) (λ_ _ h n=>⟨bt.seq s h,n⟩) _ _ h3)
def fB{p:aq}(h:H p=aj)(o:HO):bt H (upd H p o):=λb u q=>by rw[cL (xc q h)];exact q
def bu.live(r:bu K O st H)(h:aP O st a):(∃vs,H a=aa (.ai vs))\/(∃l,H a=aa (.dK l))\/∃l,H a=aa (.dT l):=by
 rcases h with h |⟨n,o,h1,h2,h3⟩
 .exact .inl (r.bq a h)
 cases o with
 |ai xs=>let(a',vs,e1,e2,_):=r.ai n xs h2;rw[h1]at e1;cases e1;exact .inl ⟨vs,e2⟩
 |bB av=>let(a',vs,e1,e2,_):=r.bB n av h2;rw[h1]at e1;cases e1;exact .inr (.inl ⟨vs,e2⟩)
 |dG av=>let(a',vs,e1,e2,_):=r.dG n av h2;rw[h1]at e1;cases e1;exact .inr (.inr ⟨vs,e2⟩)
 |dead=>exact absurd rfl h3
def bu.sN(r:bu K O st H)(h:H a=aj):¬aP O st a:=λl=>by
 rcases r.live l with⟨_,e⟩|⟨_,e⟩|⟨_,e⟩<;>rw[h]at e<;>cases e
def aC.length:∀{xs:List PV}{vs:List V},aC K H lv xs vs->xs.length=vs.length
 |[],vs,h=>by rw[aC]at h;subst h;rfl
 | x::r,vs,h=>by
  rw[aC]at h;let(v,vr,e,_,t):=h;subst e;simp[aC.length t]
def aC.get:∀{xs:List PV}{vs:List V}{i:Nat}{x:PV},aC K H lv xs vs->xs[i]?=aa x->∃v,vs[i]?=aa v/\RP K H lv x v
 |[],_,_,_,_,e=>by simp at e
 | y::r,vs,0,x,h,e=>by
  rw[aC]at h;let(v,vr,e',q,t):=h;subst e';simp at e;subst e;exact(v,rfl,q)
 | y::r,vs,i+1,x,h,e=>by
  rw[aC]at h;let(v,vr,e',q,t):=h;subst e';let(w,h1,h2):=aC.get (i:=i) (x:=x) t (by simpa using e);exact(w,by simpa using h1,h2)
def aC.append:∀{xs ys:List PV}{vs ws:List V},aC K H lv xs vs->aC K H lv ys ws->aC K H lv (xs++ys) (vs++ws)
 |[],_,vs,_,h,t=>by rw[aC]at h;subst h;exact t
 | x::r,ys,vs,ws,h,t=>by
  rw[aC]at h;let(v,vr,e,q,t'):=h;subst e;rw[fD,fD,aC];exact(v,_,rfl,q,aC.append t' t)
def aC.snoc{x:PV}{v:V}(h:aC K H lv xs vs)(q:RP K H lv x v):aC K H lv (xs++[x]) (vs++[v]) :=
 h.append (by rw[aC];exact(v,[],rfl,q,by rw[aC]))
def aC.take:∀(n:Nat){xs:List PV}{vs:List V},aC K H lv xs vs->aC K H lv (xs.take n) (vs.take n)
 |0,_,_,_=>by rw[xO,xO,aC]
 |n+1,[],vs,h=>by rw[aC]at h;subst h;rw[Tx,Tx,aC]
 | n+1,x::r,vs,h=>by
  rw[aC]at h;let(v,vr,e,q,t):=h;subst e;rw[HI,HI,aC];exact(v,_,rfl,q,aC.take n t)
def aC.drop:∀(n:Nat){xs:List PV}{vs:List V},aC K H lv xs vs->aC K H lv (xs.drop n) (vs.drop n)
 |0,_,_,h=>h
 |n+1,[],vs,h=>by rw[aC]at h;subst h;rw[SV,SV,aC]
 | n+1,x::r,vs,h=>by
  rw[aC]at h;let(v,vr,e,q,t):=h;subst e;exact aC.drop n t
def RW(K:aQ)(O:Al)(st:ay)(H:Hp)(x:PV)(v:V):Prop :=
 RP K H (aP O st) x v\/∃xs a vs,x=.ai xs/\v=.ref a/\bL K H a vs/\aC K H (aP O st) xs vs
def RV.view{x:aJ}{v:V}{y:PV}(r:bu K O st H)(h:RV K O st H x v)(e:view st x=aa y):RW K O st H y v:=by
 cases x with
 |p z=>cases e;exact .inl h
 |ref n=>
  let(a,rfl,ha):=h;let e:(match aW st n with |some (.ai xs)=>aa (PV.ai xs)|_=>aj)=aa y:=e
  cases q:aW st n with
  |none=>rw[q]at e;cases e
  |some o=>
   cases o with
   |ai xs=>
    rw[q]at e;cases e;let(a',vs,h1,h2,h3):=r.ai n xs q;rw[ha]at h1;cases h1;exact .inr ⟨xs,a,vs,rfl,rfl,bL.of h2,h3⟩
   |bB _=>rw[q]at e;cases e
   |dG _=>rw[q]at e;cases e
   |dead=>rw[q]at e;cases e
end
structure Lk(K:aQ)(O:Al)(st:ay)(H:Hp)(O':Al)(ao:ay)(H':Hp):Prop where
 pre:∀(n:Nat) a,O.adr[n]?=aa a->O'.adr[n]?=aa a
 af:∀a vs,bR K H a vs->bR K H' a vs
 ai:∀a vs,bL K H a vs->¬aP O st a->bL K H' a vs/\¬aP O' ao a
 sub:∀a,O.bq a->O'.bq a
 raw:∀a,O.bq a->H' a=H a
variable{K:aQ}{O O' α2:Al}{st ao:ay}{H H' H2:Hp}
def Lk.step{aI:ay}(l:Lk K O st H O' ao H')(e:bD K O' ao H' α2 aI H2):Lk K O st H α2 aI H2 :=
 ⟨λn a h=>e.pre n a (l.pre n a h),λa vs h=>e.af a vs (l.af a vs h),λa vs h n=>let⟨h1,n1⟩:=l.ai a vs h n;e.ai a vs h1 n1,λa h=>by rw[e.bq];exact l.sub a h,λa h=>(e.raw a (l.sub a h)).trans (l.raw a h)⟩
def bD.lk(e:bD K O st H O' ao H'):Lk K O st H O' ao H':=⟨e.pre,e.af,e.ai,λa h=>by rw[e.bq];exact h,e.raw⟩
def Lk.cE(e:Lk K O st H O' ao H'){x:List PV}{v:List V}(h:aC K H (aP O st) x v):aC K H' (aP O' ao) x v:=aC.mono e.af e.ai x v h
variable{β:Type}
def ax.bE{O:Type}{r:ax O}{f:O->ay->ax β}{b:β}(h:r.bind f=.ok b ao):∃a aA,r=.ok a aA/\f a aA=.ok b ao:=by
 cases r with
 |ok a aA=>exact(a,aA,rfl,h)
 |mB c as st=>cases h
 |stuck=>cases h
variable{r:ax aJ}
def ax.ki{f:Bool->ay->ax β}{b:β}(h:r.bindB f=.ok b ao):∃k aA,r=.ok (.p (.bl k)) aA/\f k aA=.ok b ao:=by
 let(v,aA,h1,h2):=ax.bE h;cases v with
 |ref n=>cases h2
 |p x=>
  cases x with
  |bl k=>exact(k,aA,h1,h2)
  |_=>cases h2
def ax.mz{f:PV->ay->ax β}{b:β}(h:r.cg f=.ok b ao):∃x aA,r=.ok (.p x) aA/\f x aA=.ok b ao:=by
 let(v,aA,h1,h2):=ax.bE h;cases v with
 |ref n=>cases h2
 |p x=>exact(x,aA,h1,h2)
def ax.se{f:PV->ay->ax β}{b:β}(h:r.fY f=.ok b ao):∃v x aA,r=.ok v aA/\view aA v=aa x/\f x aA=.ok b ao:=by
 let(v,aA,h1,h2):=ax.bE h;cases e:view aA v with
 |none=>rw[e]at h2;cases h2
 |some x=>rw[e]at h2;exact(v,x,aA,h1,e,h2)
variable{v:aJ}
def pz{o:Option PV}(h:cQ o st=.ok v ao):∃x,o=aa x/\v=.p x/\ao=st:=by
 cases o with
 |none=>cases h
 |some x=>cases h;exact(x,rfl,rfl,rfl)
def yZ7{f:PV->Option PV}{z:aJ}(h:kD f v st=.ok z ao):∃x y,view st v=aa x/\f x=aa y/\z=.p y/\ao=st:=by
 unfold kD at h;cases e:view st v with
 |none=>rw[e]at h;cases h
 |some x=>
  rw[e]at h;let(y,h1,h2,h3):=pz h;exact(x,y,rfl,h1,h2,h3)
def nH{f:PV->PV->Option PV}{w:aJ}{z:aJ}(h:dR f v w st=.ok z ao):∃x y u,view st v=aa x/\view st w=aa y/\f x y=aa u/\z=.p u/\ao=st:=by
 unfold dR at h;cases e:view st v with
 |none=>rw[e]at h;cases h
 |some x=>
  rw[e]at h;cases e2:view st w with
  |none=>rw[e2]at h;cases h
  |some y=>
   rw[e2]at h;let(u,h1,h2,h3):=pz h;exact(x,y,u,rfl,rfl,h1,h2,h3)
structure At(K:aQ)(O:Al)(st:ay)(H:Hp)(env:Env)(Z:L2.St):Prop where
 len:env.length=Z.length
 rs:bu K O st H
 env:∀(i:Nat) v,env[i]?=aa (aa v)->∃w,Z[i]?=aa (aa w)/\RV K O st H v w
variable{env:Env}{Z:L2.St}
def At.next(a:At K O st H env Z)(e:bD K O st H O' ao H')(r:bu K O' ao H'):At K O' ao H' env Z :=
 ⟨a.len,r,λi v h=>let⟨w,h1,h2⟩:=a.env i v h;⟨w,h1,e.rv h2⟩⟩
def tP(K:aQ)(C:a8)(ir:E):TE:=λZ H Q=>∃env O st v ao,At K O st H env Z/\az C ir env st=.ok v ao /\
 ∀w H' O',bD K O st H O' ao H'->bu K O' ao H'->RV K O' ao H' v w->Q w H'
def tT(K:aQ)(C:a8)(ir:E):TT:=λZ H Q=>∃env O st b ao,At K O st H env Z/\az C ir env st=.ok (.p (.bl b)) ao /\
 ∀H' O',bD K O st H O' ao H'->bu K O' ao H'->Q b H'
@[reducible] def SE(X:Cx)(C:a8)(e:Expr)(ir:E):Prop:=PE X e (tP X.K C ir)
@[reducible] def ST(X:Cx)(C:a8)(e:Expr)(ir:E):Prop:=PT X e (tT X.K C ir)
variable{X:Cx}{e:Expr}
def PE.mono{t t':TE}(h:PE X e t)(m:∀Z H Q,t' Z H Q->t Z H Q):PE X e t':=λae s Z H Q I q=>h ae s Z H Q I (m _ _ _ q)
def PT.mono{t t':TT}(h:PT X e t)(m:∀Z H Q,t' Z H Q->t Z H Q):PT X e t':=λae s Z H Q I q=>h ae s Z H Q I (m _ _ _ q)
def PW.mono{t t':TT}(h:PW X e t)(m:∀Z H Q,t' Z H Q->t Z H Q):PW X e t':=λwh ae s Z H Q I q=>h wh ae s Z H Q I (m _ _ _ q)
variable{x:Str}{ir:E}{i:Nat}{g:PV->PV->Option PV}{op:kZ}
section
variable{X:Cx}{C:a8}{a b c:Expr}{ia ib ic:E}{pos:aU}
def xT3{Q:Bool->Hp->Prop}(h:tT K C ir Z H Q):tB (tP K C ir) Z H Q:=by
 let(env,O,st,b,ao,a,e,q):=h;exact(env,O,st,_,ao,a,e,λw H' O' x r v=>by
  let v':w=.bl b:=by simpa[RV,RP]using v
  exact⟨b,v',q H' O' x r⟩)
def Z1(h:SE X C e ir)(he:∀whole,isTrue e X.env whole=(do let v <-whole;uJ e.pos;jA [v] (truthy v))):ST X C e ir :=
 PT.mono (xv1 h he) λ_ _ _ q=>xT3 q
def xx6(hN:X.N[i]?=aa x)(hv:n5 X.env.scope x)(hd:(x==("__debug__" : Str))=false)(i_:(x==("__classdict__" : Str))=false):SE X C (.Name x pos) (.var i) :=
 PE.mono (xt8 hN hv hd i_) λZ H Q h_=>by
  let(env,O,st,v,ao,a,e,q):=h_;rw[Ob]at e;unfold jX at e;cases h:env[i]? with
  |none=>rw[h]at e;cases e
  |some o=>
   cases o with
   |none=>rw[h]at e;cases e
   |some u=>
    rw[h]at e;cases e;let(w,h1,h2):=a.env i _ h;exact(w,h1,q w H O .refl a.rs h2)
def qz{v:V}{x:PV}(h:PE X e (tC v))(r:∀H lv,RP X.K H lv x v):SE X C e (.ag x) :=
 PE.mono h λZ H Q h_=>by
  let(env,O,st,u,ao,a,e,q):=h_;rw[xo]at e;cases e;exact q v H O .refl a.rs (r _ _)
def xw5{i j}:SE X C (.Constant (.int i) j pos) (.ag (.int i)):=qz Oo λ_ _=>by rw[RP]
def xR6{i j}:SE X C (.Constant (.bool i) j pos) (.ag (.bl i)):=qz xQ1 λ_ _=>by rw[RP]
def xx1{j}:SE X C (.Constant .none j pos) (.ag .aL):=qz xt3 λ_ _=>by rw[RP]
def xx4{x j}{cs:List Nat}(h:x=⟨cs.toArray⟩)(hl:cs.length<=1000):SE X C (.Constant (.str x) j pos) (.ag (.str cs)):=qz Oq λ_ _=>by
 rw[RP];exact(by rw[h],df hl (by decide))
def cw(X:Cx)(f:ak->ak->fh ak)(g:PV->PV->Option PV):Prop :=
 dy X f λx y H Q=>∃O st px py z,bu X.K O st H/\RW X.K O st H px x/\RW X.K O st H py y/\g px py=aa z /\
  ∀w H',bt H H'->RP X.K H' (aP O st) z w->Q w H'
def xS1{op:me}(ho:cw X (binaryOp op) g)(ha:SE X C a ia)(hb:SE X C b ib)
  (hi:∀env st,az C ir env st=(az C ia env st).bind λx st=>(az C ib env st).bind λy st=>dR g x y st):SE X C (.BinOp a op b pos) ir :=
 PE.mono (NR ho ha hb) λZ H Q h_=>by
  let(env,O,st,v,ao,aD,e,q):=h_;rw[hi]at e;let(va,aA,e1,e):=ax.bE e;let(vb,aI,e2,e):=ax.bE e;let(x,y,u,h1,h2,h3,h4,h5):=nH e;subst h4 h5;refine(env,O,st,va,aA,aD,e1,λw H1 α1 x1 r1 v1=>?_);refine(env,α1,aA,vb,ao,aD.next x1 r1,e2,λw2 H2 α2 x2 r2 v2=>?_);refine(α2,ao,x,y,u,r2,(x2.rv v1).view r2 h1,v2.view r2 h2,h3,λw3 H3 s3 rp=>?_);exact q w3 H3 α2 (x1.trans (x2.trans (.of_same r2 s3))) (r2.same s3) rp
def xw4(ho:cw X (compareOp op) g)(ha:SE X C a ia)(hb:SE X C b ib)(hm:nU op b=false)
  (hi:∀env st,az C ir env st=(az C ia env st).bind λx st=>(az C ib env st).bind λy st=>dR g x y st):SE X C (.Compare a [op] [b] pos) ir :=
 PE.mono (xa4 ho ha hb hm) λZ H Q h_=>by
  let(env,O,st,v,ao,aD,e,q):=h_;rw[hi]at e;let(va,aA,e1,e):=ax.bE e;let(vb,aI,e2,e):=ax.bE e;let(x,y,u,h1,h2,h3,h4,h5):=nH e;subst h4 h5;refine(env,O,st,va,aA,aD,e1,λw H1 α1 x1 r1 v1=>?_);refine(env,α1,aA,vb,ao,aD.next x1 r1,e2,λw2 H2 α2 x2 r2 v2=>?_);refine(α2,ao,x,y,u,r2,(x2.rv v1).view r2 h1,v2.view r2 h2,h3,λw3 H3 s3 rp=>?_);exact q w3 H3 α2 (x1.trans (x2.trans (.of_same r2 s3))) (r2.same s3) rp
end
open PySem.SeqAt PyProof.Rows
def xR2(a:Int)(t:dt)(l:aq)(is:Array ak)(n:Nat)(dd:Option aq)(sl:Array (Option ak)):
  Meets (Builtin.«int.__rmul__» ⟨[.int a t,.ref l],[]⟩) (λ_ R s=>s.heap.get? l=aa { cls:=.type "list", dict:=dd,data:=.seq is n,slots:=sl } /\
   R (.ok (.ret Vn)) s) :=
 .of_wp λprog w A R s0 hh=>by
  let(hp,gg,dw,tk,oo):=s0;let(k1,k2):=hh
  wp_walk
  exact(_,rfl,k2)
def YC(l:aq)(is:Array ak)(n:Nat)(x:Int)(u:dt)(dd:Option aq)(sl:Array (Option ak))(h0:¬(!H0 x)=true)(h1:¬is.size*x.toNat > (2 ^ 63-1)/8)(h2:¬Ud (is.size*x.toNat)=true):
  Meets (Builtin.«list.__mul__» ⟨[.ref l,.int x u],[]⟩) (λ_ R s=>s.heap.get? l=aa { cls:=.type "list", dict:=dd,data:=.seq is n,slots:=sl } /\
   R (.ok (.ret (b9 s.heap.objs.size))) { s with heap:=s.heap.push { cls:=.type "list", data:=.seq (xA (λx1 x2=>x1++x2) #[] (cG (if is.isEmpty=true then 0 else x.toNat) is)) },toks:=s.toks }) :=
 .of_wp λprog w A R s0 hh=>by
  let(hp,gg,dw,tk,oo):=s0;let(k1,k2):=hh;let g1:=Uc;let g2:=AutoListH.joined_fits h2
  wp_walk using Hd k1
  refine wpAny_ite_false (decide_eq_false (HN.mpr g2)) ?_
  wp_walk using Hd k1
  exact(_,rfl,k2)
section
variable{K:aQ}{O:Al}{st:ay}{H:Hp}{x:V}
def RW.int{i:Int}(h:RW K O st H (.int i) x):x=.int i:=by
 rcases h with h |⟨_,_,_,e,_⟩
 .rw[RP]at h;exact h
 .cases e
def RW.bl{b:Bool}(h:RW K O st H (.bl b) x):x=.bl b:=by
 rcases h with h |⟨_,_,_,e,_⟩
 .rw[RP]at h;exact h
 .cases e
def RW.aL(h:RW K O st H .aL x):x=.aL:=by
 rcases h with h |⟨_,_,_,e,_⟩
 .rw[RP]at h;exact h
 .cases e
def RW.str{cs:List Nat}(h:RW K O st H (.str cs) x):x=.str ⟨cs.toArray⟩/\cs.length<=a9:=by
 rcases h with h |⟨_,_,_,e,_⟩
 .rw[RP]at h;exact h
 .cases e
def RW.af{xs:List PV}(h:RW K O st H (.af xs) x):∃a vs,x=.ref a/\bR K H a vs/\aC K H (aP O st) xs vs:=by
 rcases h with h |⟨_,_,_,e,_⟩
 .rw[RP]at h;exact h
 .cases e
def RW.ai{xs:List PV}(h:RW K O st H (.ai xs) x):∃a vs,x=.ref a/\bL K H a vs/\aC K H (aP O st) xs vs:=by
 rcases h with h |⟨xs',a,vs,e,e2,q,r⟩
 .rw[RP]at h;let(a,vs,e,q,_,r):=h;exact(a,vs,e,q,r)
 .cases e;exact(a,vs,e2,q,r)
def nq:SZ=a9:=by unfold SZ;decide
end
section
variable{X:Cx}
def cw.ints{f:ak->ak->fh ak}{Cn:Int->Int->Prop}{k:Int->Int->V}(ho:dy X f (rI Cn k))
  (hg:∀x y z,g x y=aa z->∃i j,x=.int i/\y=.int j/\Cn i j/\∀H lv,RP X.K H lv z (k i j)):cw X f g:=by
 rintro ae s Z H x y v u Q I rx ry ⟨O,st,px,py,z,r,hx,hy,hz,q⟩;let(i,j,rfl,rfl,hc,hk):=hg _ _ _ hz;exact ho ae s Z H x y v u Q I rx ry ⟨i,j,hx.int,hy.int,hc,q _ _ (bt.refl H) (hk _ _)⟩
def cw.vE{f:ak->ak->fh ak}{k:Int->Int->V}(ho:dy X f (mP k))
  (hg:∀x y z,g x y=aa z->∃i j,x=.int i/\y=.int j/\∀H lv,RP X.K H lv z (k i j)):cw X f g:=by
 rintro ae s Z H x y v u Q I rx ry ⟨O,st,px,py,z,r,hx,hy,hz,q⟩;let(i,j,rfl,rfl,hk):=hg _ _ _ hz;exact ho ae s Z H x y v u Q I rx ry ⟨i,j,hx.int,hy.int,q _ _ (bt.refl H) (hk _ _)⟩
def xP0:cw X (binaryOp .Sub) Cq:=cw.vE xs6 λx y z h=>by
 cases x<;>cases y<;>simp[Cq]at h;exact(_,_,rfl,rfl,λ_ _=>by rw[<-h,RP])
def xr9:dy X (binaryOp .Mult) (λx y H Q=>∃i j,x=.int i/\y=.int j/\(fC i ||fC j)=true/\Q (.int (i*j)) H):=by
 rintro ae s Z H x y v u Q I rx ry ⟨i,j,h1,h2,hc,q⟩;refine xs4 ae s Z H x y v u Q I rx ry ⟨i,j,h1,h2,?_,q⟩;rcases(iX _ _).mp hc with c |c
 .exact .inl (of_decide_eq_true c)
 .exact .inr (of_decide_eq_true c)
def yk2(n:Nat)(a:List Nat):(cG n a.toArray).foldl (· ++ ·) #[]=((cG n a).flatten).toArray:=by
 let gen:∀(n:Nat)(b:List Nat),(cG n a.toArray).foldl (· ++ ·) b.toArray=(b++(cG n a).flatten).toArray:=by
  intro n;induction n with
  |zero=>intro b;simp
  |succ n ih=>
   intro b;rw[nM,xB,Hq,ih,nM,um,j5]
 exact gen n []
def O2(n:Nat)(a:List Nat):(cG n a).flatten.length=a.length*n:=by
 rw[S9,Tc,Tu,BD]
def AK(cs:List Nat):(dJ ⟨cs.toArray⟩)=cs.length:=by simp[dJ]
def Q2(n:Nat)(a:List ak):(cG n a.toArray).foldl (λx1 x2=>x1++x2) #[]=((cG n a).flatten).toArray:=by
 let gen:∀(n:Nat)(b:List ak),(cG n a.toArray).foldl (λx1 x2=>x1++x2) b.toArray=(b++(cG n a).flatten).toArray:=by
  intro n;induction n with
  |zero=>intro b;simp
  |succ n ih=>
   intro b;rw[nM,xB,Hq,ih,nM,um,j5]
 exact gen n []
def RI{O:Type}(n:Nat)(a:List O):(cG n a).flatten.length=a.length*n:=by
 rw[S9,Tc,Tu,BD]
def F6{vs:List V}{aw:List ak}(h:ba vs aw):∀n:Nat,ba (cG n vs).flatten (cG n aw).flatten
 |0=>.nil
 |n+1=>by rw[nM,nM,um,um];exact h.append (F6 h n)
def Gp{K:aQ}{H:Hp}{lv:aq->Prop}{xs:List PV}{vs:List V}(h:aC K H lv xs vs):∀n:Nat,aC K H lv (cG n xs).flatten (cG n vs).flatten
 |0=>by simp[aC]
 |n+1=>by rw[nM,nM,um,um];exact h.append (Gp h n)
def xO8:cw X (binaryOp .Mult) vZ:=by
 rintro ae s Z H x y v u Q I rx ry ⟨O,st,px,py,z,r,hx,hy,hz,q⟩;cases px<;>cases py<;>simp only[vZ,l_,reduceCtorEq,fW]at hz
 .let(hc,hz):=hz;exact xr9 ae s Z H x y v u Q I rx ry ⟨_,_,hx.int,hy.int,hc,q _ _ (bt.refl H) (by rw[<-hz,RP])⟩
 .rename_i a n
  obtain⟨⟨h0,h1,h2⟩,hz⟩:=hz;rw[nq]at h2;let(e1,hl):=hx.str;let e2:=hy.int;subst e1 e2;let(t1,rfl):=rx;let(t2,rfl):=ry;let hsz:a9=16777216:=by decide
  refine PySem.P.mul_str (by simp;lia) (λg1 g2=>?_) (λg1 g2=>?_) ?_
  .rw[AK];let:(16777216:Int)<=(2 ^ 63-1)/n:=by
    rw[Int.le_ediv_iff_mul_le ()];lia
   lia
  .rw[AK];unfold Builtin.Str.tooLong;exact decide_eq_false ()
  .split
   .let e0:n=0:=by lia
    subst e0;exact(by decide,.str _,H,I.tok _,⟨_,rfl⟩,q _ _ (bt.refl H) (by rw[<-hz,RP];exact⟨by rfl,by simp⟩))
   .split
    .rename_i g1 g2
     refine(.str _,H,I,⟨_,rfl⟩,q _ _ (bt.refl H) ?_);rw[<-hz,RP];rcases(iX _ _).mp g2 with c |c
     .let c':n=1:=eq_of_beq c;subst c';let:(cG (1:Int).toNat a).flatten=a:=by simp
      rw[this];exact(rfl,hl)
     .let c':a.length=0:=by rw[AK]at c;exact eq_of_beq c
      let c2:a=[]:=Br c';subst c2;let:(cG n.toNat ([]:List Nat)).flatten=[]:=by simp
      rw[this];exact(rfl,by simp)
    .let e3:(cG n.toNat (⟨a.toArray⟩:Str).cps).foldl (· ++ ·) #[]=((cG n.toNat a).flatten).toArray:=yk2 n.toNat a;rw[e3];exact(by rw[AK,O2];exact h2,.str _,H,I.tok _,⟨_,rfl⟩,q _ _ (bt.refl H) (by rw[<-hz,RP];exact⟨rfl,by rw[O2];exact h2⟩))
 .rename_i a n
  obtain⟨⟨h0,h1,h2⟩,hz⟩:=hz;rw[nq]at h2;let hsz:a9=16777216:=by decide
  let(l1,vs,rfl,mI,mJ):=hx.ai;let e2:=hy.int;subst e2;cases rx;let(t2,rfl):=ry;let(aw,r1,p1,_):=I.list mI;obtain⟨⟨cls,dd,data,sl⟩,nn,ho,hc,_,hd⟩:=id p1;simp only at hc hd;subst hc hd;let q1:=r1.length;let q2:=mJ.length;let Ds:aw.toArray.size*n.toNat<=16777216:=by rw[cV,<-q1,<-q2];lia
  let ty:∀s':au,s'.TypeIs (mh n t2) "int" := λs'=>IT s' n t2;let inner:aG (aN X.prog X.w) X.A (call (.builtin "list.__mul__") [.ref l1,.int n t2]) (EP X ae Z Q) X.xe s:=by
   refine call_meets F.slot_list_mul ⟨_,ho,rfl⟩ F.entry_list_mul (F.args_list_mul_2 _ _)
    (YC l1 aw.toArray nn n t2 dd sl (by simp[H0];lia) () (by simp only[Ud,hsz];simpa using Ds)) ⟨ho,?_⟩
   let ea:xA (λx1 x2=>x1++x2) #[] (cG (if aw.toArray.isEmpty=true then 0 else n.toNat) aw.toArray)=((cG n.toNat aw).flatten).toArray:=by
    by_cases hb:aw=[]
    .subst hb;simp
    .rw[if_neg (by simpa using hb)];exact Q2 _ _
   rw[ea];let s1:bt H (upd H s.heap.objs.size (.ai (cG n.toNat vs).flatten)):=fB I.fresh _;refine(.ref _,_,I.yY (t':=s.toks) (F6 r1 n.toNat) (by rw[RI,<-q2];lia),rfl,q _ _ s1 ?_);rw[<-hz,RP];exact(_,_,rfl,bL.of dZ,r.sN I.fresh,Gp ((bD.of_same r s1).cE mJ) n.toNat)
  exact VL (T := "list") (U := "int") (by decide) ⟨_,ho,rfl⟩ ty noFill_list_mul UR BL repeat_list
   UU.lookup (call_meets BL (ty s) UM (UI _ _) (xR2 n t2 l1 aw.toArray nn dd sl) ⟨ho,rfl,⟨_,ho,rfl⟩,inner⟩)
def yH3:dy X (binaryOp .FloorDiv) (rI (λ_ j=>0<j/\j<1000000000000000000000000000000) λi j=>.int (i/j)):=vR λi j _ _ _ _ _ hc q=>by
 let h1:(0:Int)<j:=hc.1;let h2:j<1000000000000000000000000000000:=hc.2;refine PyProof.Rows.floordiv_int () (by rw[SK i ()];exact q) (.inl (PyProof.noPylong_of_log2 ?_));let h3:j.natAbs.log2<100:=(HL ()).mpr ();lia
def xr7:cw X (binaryOp .FloorDiv) EN:=cw.ints yH3 λx y z h=>by
 cases x<;>cases y<;>simp only[EN,l_,reduceCtorEq,fW]at h;exact(_,_,rfl,rfl,h.1,λ_ _=>by rw[<-h.2,RP])
def xO7:cw X (binaryOp .Mod) Co:=cw.ints xs3 λx y z h=>by
 cases x<;>cases y<;>simp only[Co,l_,reduceCtorEq,fW]at h;exact(_,_,rfl,rfl,h.1,λ_ _=>by rw[<-h.2,RP])
def xO9:cw X (binaryOp .Pow) Cp:=cw.ints xs5 λx y z h=>by
 cases x<;>cases y<;>simp only[Cp,l_,reduceCtorEq,fW]at h;obtain⟨⟨h1,h2,h3⟩,h⟩:=h;refine(_,_,rfl,rfl,⟨h1,h2,?_⟩,λ_ _=>by rw[<-h,RP]);let:=of_decide_eq_true h3;lia
def YL:cw X (compareOp .Lt) (iQ λi j=>decide (i<j)):=cw.vE xQ0 λx y z h=>by
 cases x<;>cases y<;>simp only[iQ,reduceCtorEq,fW]at h;exact(_,_,rfl,rfl,λ_ _=>by rw[<-h,RP])
def wc:cw X (compareOp .LtE) (iQ λi j=>decide (i<=j)):=cw.vE xP9 λx y z h=>by
 cases x<;>cases y<;>simp only[iQ,reduceCtorEq,fW]at h;exact(_,_,rfl,rfl,λ_ _=>by rw[<-h,RP])
def LV:cw X (compareOp .Gt) (iQ λi j=>decide (j<i)):=cw.vE xP8 λx y z h=>by
 cases x<;>cases y<;>simp only[iQ,reduceCtorEq,fW]at h;exact(_,_,rfl,rfl,λ_ _=>by rw[<-h,RP])
def YK:cw X (compareOp .GtE) (iQ λi j=>decide (j<=i)):=cw.vE xP7 λx y z h=>by
 cases x<;>cases y<;>simp only[iQ,reduceCtorEq,fW]at h;exact(_,_,rfl,rfl,λ_ _=>by rw[<-h,RP])
def dS(cs:List Nat):(dJ ⟨cs.toArray⟩)=cs.length:=by simp[dJ]
def xd8(a b:List Nat):((⟨a.toArray⟩:Str)++(⟨b.toArray⟩:Str))=⟨(a++b).toArray⟩:=by
 show(Str.mk (a.toArray++b.toArray))=_;simp
def xO5:cw X (binaryOp .Add) qA:=by
 rintro ae s Z H x y v u Q I rx ry ⟨O,st,px,py,z,r,hx,hy,hz,q⟩;cases px<;>cases py<;>simp only[qA,l_,reduceCtorEq,fW]at hz
 .exact xs1 ae s Z H x y v u Q I rx ry ⟨_,_,hx.int,hy.int,q _ _ (bt.refl H) (by rw[<-hz,RP])⟩
 .rename_i a b
  let(hl,hz):=hz;rw[nq]at hl;refine ym6 ae s Z H x y v u Q I rx ry ⟨_,_,hx.str.1,hy.str.1,by rw[dS,dS];exact hl,?_⟩;rw[xd8];exact q _ _ (bt.refl H) (by rw[<-hz,RP];exact(rfl,by rw[cA];exact hl))
 .rename_i a b
  let(hl,hz):=hz;rw[nq]at hl;let(l1,vs,rfl,h1,h2):=hx.af;let(l2,ws,rfl,h3,h4):=hy.af;let e1:=h2.length;let e2:=h4.length;by_cases hn:a=[]
  .subst hn;let ev:vs=[]:=Br (by simpa using e1.symm);subst ev;cases rx;cases ry;let(aw,r1,p1,_):=I.tuple h1;let(eI,r2,p2,_):=I.tuple h3;let ei:aw=[]:=Br (by simpa using r1.length.symm);subst ei;obtain⟨⟨cls,dd,data,sl⟩,ho,hc,n,hd⟩:=id p1;obtain⟨⟨Cy,n9,data2,mT⟩,dk,i9,n2,cf⟩:=id p2;simp only at hc hd i9 cf;subst hc hd i9 cf;refine IF ⟨_,ho,rfl⟩ ⟨_,dk,rfl⟩ PySem.noFill_tuple_add PySem.seq_tuple_add Ii Ig (Ic _ _) (PyProof.Rows.tuple_addW0 l1 l2 _ eI.toArray n n2 dd n9 sl mT (by simp)) ⟨ho,dk,?_⟩;exact(.ref l2,H,I,rfl,q _ _ (bt.refl H) (by rw[<-hz,RP,d3];exact⟨l2,ws,rfl,h3,h4⟩))
  refine yZ9 ae s Z H _ _ v u Q I rx ry ⟨l1,l2,vs,ws,rfl,rfl,h1,h3,λe=>hn (by subst e;simpa using e1),by lia,λe=>?_,λe p hp=>?_⟩
  .subst e;let:b=[]:=by simpa using e2
   subst this;exact q _ _ (bt.refl H) (by rw[<-hz,RP,lZ];exact(l1,vs,rfl,h1,h2))
  .let s1:bt H (upd H p (.af (vs++ws))):=fB hp _;refine q _ _ s1 ?_;rw[<-hz,RP];exact(p,_,rfl,bR.of dZ,((bD.of_same r s1).cE h2).append ((bD.of_same r s1).cE h4))
 .rename_i a b
  let(hl,hz):=hz;rw[nq]at hl;let(l1,vs,rfl,h1,h2):=hx.ai;let(l2,ws,rfl,h3,h4):=hy.ai;let e1:=h2.length;let e2:=h4.length;cases rx;cases ry;let(aw,r1,p1,_):=I.list h1;let(eI,r2,p2,_):=I.list h3;obtain⟨⟨cls,dd,data,sl⟩,n,ho,hc,_,hd⟩:=id p1;obtain⟨⟨Cy,n9,data2,mT⟩,n2,dk,i9,_,cf⟩:=id p2;simp only at hc hd i9 cf;subst hc hd i9 cf;let q1:=r1.length;let q2:=r2.length;refine IF ⟨_,ho,rfl⟩ ⟨_,dk,rfl⟩ VB VF UW UN (UJ _ _) (Ua l1 l2 aw.toArray eI.toArray n n2 dd n9 sl mT (by simp;lia)) ⟨ho,dk,?_⟩;let ea:aw.toArray++eI.toArray=(aw++eI).toArray:=by simp
  rw[ea];let s1:bt H (upd H s.heap.objs.size (.ai (vs++ws))):=fB I.fresh _;refine(.ref _,_,I.yY (t':=s.toks) (r1.append r2) (by rw[cA];lia),rfl,q _ _ s1 ?_);rw[<-hz,RP];exact(_,_,rfl,bL.of dZ,r.sN I.fresh,((bD.of_same r s1).cE h2).append ((bD.of_same r s1).cE h4))
end
mutual
theorem DX:∀x:PV,aH x x=true
 |.aL=>by simp[aH]
 |.bl _=>by simp[aH]
 |.int _=>by simp[aH]
 |.str _=>by simp[aH]
 |.af xs=>by rw[aH];exact DY xs
 |.ai xs=>by rw[aH];exact DY xs
theorem DY:∀xs:List PV,f_ xs xs=true
 |[]=>by simp[f_]
 |x::r=>by rw[f_,DX x,DY r];rfl
end
def qY:∀xs ys:List PV,f_ xs ys=((cF (min xs.length ys.length)).all (λj=>aH (xs.getD j .aL) (ys.getD j .aL))&&(xs.length==ys.length))
 |[],[]=>by simp[f_]
 |[],_::_=>by simp[f_]
 |_::_,[]=>by simp[f_]
 | x::r,y::s=>by
  rw[f_,qY r s];let e:min (x::r).length (y::s).length=min r.length s.length+1:=by simp
  rw[e,To,ff,Hn];let e2:((x::r).length==(y::s).length)=(r.length==s.length):=by simp
  rw[e2,Bool.and_assoc];rfl
def AS:∀{xs:List PV}{j:Nat}{x:PV},xs[j]?=aa x->bM x<=cC xs
 |[],_,_,h=>by simp at h
 |y::r,0,x,h=>by simp at h;subst h;simp;lia
 | y::r,j+1,x,h=>by
  let:=AS (xs:=r) (j:=j) (x:=x) (by simpa using h);simp;lia
def Oy(a b:List Nat):((⟨a.toArray⟩:Str)==⟨b.toArray⟩)=decide (a=b):=by
 by_cases h:a=b
 .subst h;simp
 .rw[decide_eq_false h,beq_eq_false_iff_ne];intro e;injection e with e;exact h (by simpa using congrArg pB e)
variable{ws:List V}{n:Nat}
section
variable{X:Cx}{ae:List (aq×aV)}{Z:L2.St}{H:Hp}{s:au}{lv:aq->Prop}
theorem AY(I:Inv X ae Z H s)(h1:bR X.K H a vs)(h2:bL X.K H a ws):False:=by
 let(_,_,p1,_):=I.tuple h1;let(_,_,p2,_):=I.list h2;exact ne_of_list_tuple p2.isList p1 rfl
mutual
theorem RP.inj(I:Inv X ae Z H s):∀(x y:PV)(v:V),RP X.K H lv x v->RP X.K H lv y v->x=y
 | .aL,y,v,h,g=>by
  rw[RP]at h;subst h;cases y with
  |aL=>rfl
  |bl c=>rw[RP]at g;cases g
  |int c=>rw[RP]at g;cases g
  |str c=>rw[RP]at g;cases g.1
  |af c=>rw[RP]at g;let(_,_,e,_):=g;cases e
  |ai c=>rw[RP]at g;let(_,_,e,_):=g;cases e
 | .bl b,y,v,h,g=>by
  rw[RP]at h;subst h;cases y with
  |aL=>rw[RP]at g;cases g
  |bl c=>rw[RP]at g;cases g;rfl
  |int c=>rw[RP]at g;cases g
  |str c=>rw[RP]at g;cases g.1
  |af c=>rw[RP]at g;let(_,_,e,_):=g;cases e
  |ai c=>rw[RP]at g;let(_,_,e,_):=g;cases e
 | .int b,y,v,h,g=>by
  rw[RP]at h;subst h;cases y with
  |aL=>rw[RP]at g;cases g
  |bl c=>rw[RP]at g;cases g
  |int c=>rw[RP]at g;cases g;rfl
  |str c=>rw[RP]at g;cases g.1
  |af c=>rw[RP]at g;let(_,_,e,_):=g;cases e
  |ai c=>rw[RP]at g;let(_,_,e,_):=g;cases e
 | .str cs,y,v,h,g=>by
  rw[RP]at h;let(h,_):=h;subst h;cases y with
  |str c=>
   rw[RP]at g;let(e,_):=g;injection e with e;injection e with e;exact congrArg PV.str (by simpa using congrArg pB e)
  |af c=>rw[RP]at g;let(_,_,e,_):=g;cases e
  |ai c=>rw[RP]at g;let(_,_,e,_):=g;cases e
  |aL=>rw[RP]at g;cases g
  |bl c=>rw[RP]at g;cases g
  |int c=>rw[RP]at g;cases g
 | .af xs,y,v,h,g=>by
  rw[RP]at h;let(a,vs,rfl,h1,h2):=h;cases y with
  |af ys=>
   rw[RP]at g;let(b,ws,e,g1,g2):=g;cases e;let:=I.Ed h1 g1;subst this;rw[aC.inj I xs ys vs h2 g2]
  |ai ys=>
   rw[RP]at g;let(b,ws,e,g1,_):=g;cases e;exact(AY I h1 g1).elim
  |str _=>rw[RP]at g;cases g.1
  |_=>rw[RP]at g;cases g
 | .ai xs,y,v,h,g=>by
  rw[RP]at h;let(a,vs,rfl,h1,_,h2):=h;cases y with
  |ai ys=>
   rw[RP]at g;let(b,ws,e,g1,_,g2):=g;cases e;let:=I.vG h1 g1;subst this;rw[aC.inj I xs ys vs h2 g2]
  |af ys=>
   rw[RP]at g;let(b,ws,e,g1,_):=g;cases e;exact(AY I g1 h1).elim
  |str _=>rw[RP]at g;cases g.1
  |_=>rw[RP]at g;cases g
theorem aC.inj(I:Inv X ae Z H s):∀(xs ys:List PV)(vs:List V),aC X.K H lv xs vs->aC X.K H lv ys vs->xs=ys
 | [],ys,vs,h,g=>by
  rw[aC]at h;subst h;cases ys with
  |nil=>rfl
  |cons y r=>rw[aC]at g;let(_,_,e,_):=g;cases e
 | x::r,ys,vs,h,g=>by
  rw[aC]at h;let(v,vr,rfl,h1,h2):=h;cases ys with
  |nil=>rw[aC]at g;cases g
  |cons y q=>
   rw[aC]at g;let(w,wr,e,g1,g2):=g;cases e;rw[RP.inj I x y _ h1 g1,aC.inj I r q _ h2 g2]
end
def aC.at{xs:List PV}{vs:List V}{aw:List ak}(h:aC X.K H lv xs vs)(r:ba vs aw){j:Nat}(hj:j<aw.length):
  ∃x v,xs[j]?=aa x/\xs.getD j .aL=x/\RP X.K H lv x v/\RelV v aw[j]:=by
 let e1:=h.length;let e2:=r.length;let hx:xs[j]?=aa xs[j]:=bY ();let(v,h1,h2):=h.get hx;let(u,h3,h4):=r.get h1;refine(xs[j],v,hx,by rw[gQ,hx];rfl,h2,?_);rw[bY hj]at h3;cases h3;exact h4
def RW.inj(I:Inv X ae Z H s){x y:PV}{v:V}(h:RW X.K O st H x v)(g:RW X.K O st H y v):x=y:=by
 rcases h with h |⟨xs,a,vs,rfl,rfl,h1,h2⟩
 .rcases g with g |⟨ys,b,ws,rfl,rfl,g1,g2⟩
  .exact RP.inj I x y v h g
  .cases x with
   |ai xs=>
    rw[RP]at h;let(a,vs,e,h1,_,h2):=h;cases e;let:=I.vG h1 g1;subst this;rw[aC.inj I _ _ _ h2 g2]
   |af xs=>
    rw[RP]at h;let(a,vs,e,h1,h2):=h;cases e;exact(AY I h1 g1).elim
   |str _=>rw[RP]at h;cases h.1
   |_=>rw[RP]at h;cases h
 .cases y with
  |ai ys=>
   let(b,ws,e,g1,g2):=g.ai;cases e;let:=I.vG h1 g1;subst this;rw[aC.inj I _ _ _ h2 g2]
  |af ys=>
   let(b,ws,e,g1,g2):=g.af;cases e;exact(AY I g1 h1).elim
  |str _=>cases g.str.1
  |int _=>cases g.int
  |bl _=>cases g.bl
  |aL=>cases g.aL
def A8{A:bb}{ys:List PV}{aw eI:List ak}
  (ih:∀(px py:PV)(x y:V)(v u:ak)(A:bb),RW X.K O st H px x->RW X.K O st H py y->RelV x v->RelV y u->(bM px<=n\/bM py<=n)->A.units+n+1<c8->RcAt A s v u (aH px py)/\EqAt A s v u (aH px py))
  (hx:aC X.K H (aP O st) xs vs) (hy:aC X.K H (aP O st) ys ws) (r1:ba vs aw) (r2:ba ws eI) (hd:cC xs<=n\/cC ys<=n) (hu:A.units+(n+1)+1<c8) :
  ∀j (h1:j<aw.toArray.size) (h2:j<eI.toArray.size),EqAt A.in1 s aw.toArray[j] eI.toArray[j] (aH (xs.getD j .aL) (ys.getD j .aL)):=by
 intro j h1 h2;simp only[cV]at h1 h2;let(x,v,a1,a2,a3,a4):=hx.at r1 h1;let(y,u,b1,b2,b3,b4):=hy.at r2 h2;rw[a2,b2];let da:=AS a1;let db:=AS b1;let ql:A.in1.units+n+1<c8:=by show A.units+1+n+1<c8;lia
 simpa using(ih x y v u _ _ A.in1 (.inl a3) (.inl b3) a4 b4 () ql).2
def Af(I:Inv X ae Z H s){p:PV}{x:V}{v:ak}(h:RW X.K O st H p x)(r:RelV x v):(p=.aL/\v=.none)\/(∃b,p=.bl b/\v=.bool b)\/(∃i t,p=.int i/\v=.int i t)\/(∃cs t,p=.str cs/\v=.str ⟨cs.toArray⟩ t) \/
  (∃xs a vs aw,p=.af xs/\v=.ref a/\x=.ref a/\aC X.K H (aP O st) xs vs/\ba vs aw/\s.heap.IsTuple a aw.toArray)\/∃xs a vs aw,p=.ai xs/\v=.ref a/\x=.ref a/\aC X.K H (aP O st) xs vs/\ba vs aw/\s.heap.IsList a aw.toArray:=by
 cases p with
 |aL=>obtain rfl:x=V.aL:=h.aL;exact .inl ⟨rfl,r⟩
 |bl b=>obtain rfl:=h.bl;exact .inr (.inl ⟨b,rfl,r⟩)
 |int i=>obtain rfl:=h.int;let(t,rfl):=r;exact .inr (.inr (.inl ⟨i,t,rfl,rfl⟩))
 |str cs=>obtain rfl:=h.str.1;let(t,rfl):=r;exact .inr (.inr (.inr (.inl ⟨cs,t,rfl,rfl⟩)))
 |af xs=>
  let(a,vs,rfl,h1,h2):=h.af;cases r;let(aw,r1,p,_):=I.tuple h1;exact .inr (.inr (.inr (.inr (.inl ⟨xs,a,vs,aw,rfl,rfl,rfl,h2,r1,p⟩))))
 |ai xs=>
  let(a,vs,rfl,h1,h2):=h.ai;cases r;let(aw,r1,p,_):=I.list h1;exact .inr (.inr (.inr (.inr (.inr ⟨xs,a,vs,aw,rfl,rfl,rfl,h2,r1,p.isList⟩))))
def Rg(I:Inv X ae Z H s)
  (ih:0<n->∀(px py:PV)(x y:V)(v u:ak)(A:bb),RW X.K O st H px x->RW X.K O st H py y->RelV x v->RelV y u->(bM px<=n-1\/bM py<=n-1)->A.units+(n-1)+1<c8->RcAt A s v u (aH px py)/\EqAt A s v u (aH px py))
  (px py:PV) (x y:V) (v u:ak) (A:bb) (hx:RW X.K O st H px x) (hy:RW X.K O st H py y) (rx:RelV x v) (ry:RelV y u) (hd:bM px<=n\/bM py<=n) (hu:A.units+n+1<c8) :
  RcAt A s v u (aH px py)/\EqAt A s v u (aH px py):=by
 let bO:A.units<c8:=by lia
 rcases Af I hx rx with⟨rfl,rfl⟩|⟨c1,rfl,rfl⟩|⟨i1,t,rfl,rfl⟩|⟨e1,t,rfl,rfl⟩|⟨e1,a,vs,aw,rfl,rfl,rfl,q1,r1,p1⟩|⟨e1,a,vs,aw,rfl,rfl,rfl,q1,r1,p1⟩<;>rcases Af I hy ry with⟨rfl,rfl⟩|⟨c2,rfl,rfl⟩|⟨i2,t',rfl,rfl⟩|⟨e2,t',rfl,rfl⟩|⟨e2,b,ws,eI,rfl,rfl,rfl,q2,r2,p2⟩|⟨e2,b,ws,eI,rfl,rfl,rfl,q2,r2,p2⟩
 .exact(.none_none,.same _)
 .exact(.none_bool _,.none_bool _)
 .exact(.none_int _ _,.none_int _ _)
 .exact(.none_str _ _,.none_str _ _)
 .exact(.none_tuple p2 bO,.none_tuple p2 bO)
 .exact(.none_list p2 bO,.none_list p2 bO)
 .exact(.bool_none _,.bool_none _)
 .exact(.bool_bool _ _,.bool_bool _ _)
 .exact(.bool_int _ _ _,.bool_int _ _ _)
 .exact(.bool_str _ _ _,.bool_str _ _ _)
 .exact(.bool_tuple _ p2 bO,.bool_tuple _ p2 bO)
 .exact(.bool_list _ p2 bO,.bool_list _ p2 bO)
 .exact(.int_none _ _,.int_none _ _)
 .exact(.int_bool _ _ _,.int_bool _ _ _)
 .exact(.int_int _ _ _ _,.int_int _ _ _ _)
 .exact(.int_str _ _ _ _,.int_str _ _ _ _)
 .exact(.int_tuple _ _ p2 bO,.int_tuple _ _ p2 bO)
 .exact(.int_list _ _ p2 bO,.int_list _ _ p2 bO)
 .exact(.str_none _ _,.str_none _ _)
 .exact(.str_bool _ _ _,.str_bool _ _ _)
 .exact(.str_int _ _ _ _,.str_int _ _ _ _)
 .rw[show aH (.str e1) (.str e2)=((⟨e1.toArray⟩:Str)==⟨e2.toArray⟩)by rw[Oy,aH]];exact(.str_str _ _ _ _,.str_str _ _ _ _)
 .exact(.str_tuple _ _ p2 bO,.str_tuple _ _ p2 bO)
 .exact(.str_list _ _ p2 bO,.str_list _ _ p2 bO)
 .exact(.tuple_none p1 bO,.tuple_none p1 bO)
 .exact(.tuple_bool _ p1 bO,.tuple_bool _ p1 bO)
 .exact(.tuple_int _ _ p1 bO,.tuple_int _ _ p1 bO)
 .exact(.tuple_str _ _ p1 bO,.tuple_str _ _ p1 bO)
 .let hn:0<n:=by simp at hd;lia
  let iK:cC e1<=n-1\/cC e2<=n-1:=by simp at hd;lia
  let it:=A8 (n:=n-1) (A:=A) (ih hn) q1 q2 r1 r2 iK ();let l1:=q1.length;let l2:=q2.length;let m1:=r1.length;let m2:=r2.length;let rc:RcAt A s (.ref a) (.ref b) (aH (.af e1) (.af e2)):=by
   let z:=RcAt.tuples p1 p2 bO it;rw[aH,qY];simp only[cV]at z;rw[l1,l2,m1,m2];exact z
  refine(rc,?_);by_cases kq:a=b
  .subst kq;let e:=RW.inj I hx hy;injection e with e;subst e;rw[DX];exact EqAt.same _
  .exact .of_refs kq rc
 .exact(.tuple_list p1 p2 bO,.tuple_list p1 p2 bO)
 .exact(.list_none p1 bO,.list_none p1 bO)
 .exact(.list_bool _ p1 bO,.list_bool _ p1 bO)
 .exact(.list_int _ _ p1 bO,.list_int _ _ p1 bO)
 .exact(.list_str _ _ p1 bO,.list_str _ _ p1 bO)
 .exact(.list_tuple p1 p2 bO,.list_tuple p1 p2 bO)
 .let hn:0<n:=by simp at hd;lia
  let iK:cC e1<=n-1\/cC e2<=n-1:=by simp at hd;lia
  let it:=A8 (n:=n-1) (A:=A) (ih hn) q1 q2 r1 r2 iK ();let l1:=q1.length;let l2:=q2.length;let m1:=r1.length;let m2:=r2.length;let rc:RcAt A s (.ref a) (.ref b) (aH (.ai e1) (.ai e2)):=by
   by_cases hz:aw.length=eI.length
   .let z:=RcAt.lists p1 p2 (by simpa using hz) bO it;rw[aH,qY];simp only[cV]at z;rw[l1,l2,m1,m2,<-hz,TQ,beq_self_eq_true,uh];exact z
   .let z:=RcAt.lists_lengths p1 p2 (by simpa using hz) bO;let e:aH (.ai e1) (.ai e2)=false:=by
     rw[aH,qY,Hg];exact .inr (by rw[beq_eq_false_iff_ne];lia)
    rw[e];exact z
  refine(rc,?_);by_cases kq:a=b
  .subst kq;let e:=RW.inj I hx hy;injection e with e;subst e;rw[DX];exact EqAt.same _
  .exact .of_refs kq rc
def E6(I:Inv X ae Z H s):∀(n:Nat)(px py:PV)(x y:V)(v u:ak)(A:bb),RW X.K O st H px x->RW X.K O st H py y->RelV x v->RelV y u ->
  (bM px<=n\/bM py<=n)->A.units+n+1<c8->RcAt A s v u (aH px py)/\EqAt A s v u (aH px py):=by
 intro n;induction n with
 |zero=>
  intro px py x y v u A hx hy rx ry hd hu;exact Rg I (λh=>absurd h ()) px py x y v u A hx hy rx ry hd hu
 |succ n ih=>exact λpx py x y v u A hx hy rx ry hd hu=>Rg I (λ_=>ih) px py x y v u A hx hy rx ry hd hu
def LU(hu:X.A.units+200<c8):cw X (compareOp .Eq) (λx y=>if eM (bM x) (bM y)then aa (.bl (aH x y))else aj):=by
 rintro ae s Z H x y v u Q I rx ry ⟨O,st,px,py,z,r,hx,hy,hz,q⟩;simp only[l_,fW]at hz;let(hd,hz):=hz;let iK:bM px<=100\/bM py<=100:=by simpa[eM]using hd
 exact(E6 I 100 px py x y v u X.A hx hy rx ry iK ()).1 _ _ _ _ ⟨.bl _,H,I,rfl,q _ _ (bt.refl H) (by rw[<-hz,RP])⟩
end
open PySem.StrLaws
open PySem.Builtin PySem.Builtin.Str
def Pl(x y:Str)(hi k f:Nat):∀l:List Nat,(forIn l ((#[k]:Array Nat),f) (occBody x y hi 1)).run.fst=#[k]
 |[]=>rfl
 | a::l=>by
  rw[rG];unfold occBody;split
  .rename_i hc
   simp at hc
  .exact Pl x y hi k f l
def wJ(cs bs:List Nat)(i:Nat)(hi:i<=cs.length):(i+bs.length<=cs.length/\subAt ⟨cs.toArray⟩ ⟨bs.toArray⟩ i=true)↔bs.isPrefixOf (cs.drop i)=true:=by
 rw[Hw,Tj];unfold subAt;let e:(⟨bs.toArray⟩:Str).length=bs.length:=dS bs;rw[e];let e2:(cs.toArray.extract i (i+bs.length))=((cs.drop i).take bs.length).toArray:=by
  apply Sv;simp[List.extract_eq_take_drop]
 constructor
 .rintro⟨_,h⟩;let h':cs.toArray.extract i (i+bs.length)=bs.toArray:=by simpa using h
  rw[e2]at h';let:=congrArg pB h';simpa using this.symm
 .intro h;let hl:=congrArg b7 h;rw[l5,iY]at hl;refine(by lia,?_);show(cs.toArray.extract i (i+bs.length)==bs.toArray)=true;rw[e2,<-h];simp
def Pn(cs bs:List Nat):∀(n i:Nat),i+n=cs.length ->
  (forIn (xw i (n+1)) ((#[]:Array Nat),0) (occBody ⟨cs.toArray⟩ ⟨bs.toArray⟩ cs.length 1)).run.fst.toList=match findIn bs (cs.drop i) i with |some k=>[k]|none=>[]
 | 0,i,h=>by
  let hd:cs.drop i=[]:=xy ();rw[Bk,rG];let q:=wJ cs bs i ();rw[hd]at q ⊢;unfold occBody;let e:(⟨bs.toArray⟩:Str).length=bs.length:=dS bs;by_cases hb:bs=[]
  .subst hb;let hs:=q.mpr (by simp);rw[if_pos (by rw[e];simp;exact(by lia,hs.2))];simp[findIn,xw]
  .let hs:¬bs.isPrefixOf ([]:List Nat)=true:=by cases bs<;>simp at hb ⊢
   rw [if_neg (by
    intro hc;rw[e]at hc;simp at hc;exact hs (q.mp ⟨by lia,by let:=hc.2;simpa using this⟩))]
   simp[findIn,xw,hb]
 | n+1,i,h=>by
  rw[Bk,rG];let q:=wJ cs bs i ();obtain⟨c,hc⟩:∃c,cs.drop i=c::cs.drop (i+1):=⟨cs[i],by rw[kO ()]⟩;let e:(⟨bs.toArray⟩:Str).length=bs.length:=dS bs;rw[hc]at q ⊢;rw[findIn];unfold occBody;by_cases hp:bs.isPrefixOf (c::cs.drop (i+1))=true
  .let hs:=q.mpr hp;rw[if_pos (by rw[e];simp;exact(by lia,hs.2)),if_pos hp];let:=Pl ⟨cs.toArray⟩ ⟨bs.toArray⟩ cs.length i (i+(⟨bs.toArray⟩:Str).length) (xw (i+1) (n+1));unfold occBody at this;simpa using congrArg pB this
  .rw [if_neg (by
    intro hc;rw[e]at hc;simp at hc;exact hp (q.mp ⟨by lia,by let:=hc.2;simpa using this⟩)),if_neg hp]
   let ih:=Pn cs bs n (i+1) ();unfold occBody at ih;simpa using ih
def Pm(cs bs:List Nat):occurrences ⟨cs.toArray⟩ ⟨bs.toArray⟩ 0 (dJ ⟨cs.toArray⟩) 1=match findIn bs cs 0 with |some k=>[k]|none=>[]:=by
 rw[occ_eq,dS];let:=Pn cs bs cs.length 0 ();rw[pF]at this;exact this
def Rj(bs:List Nat):∀(cs:List Nat)(k:Nat),kM bs cs=(findIn bs cs k).isSome
 |[],k=>by rw[kM,findIn];split<;>simp_all
 | c::r,k=>by
  rw[kM,findIn];split
  .rename_i h;rw[h];rfl
  .rename_i h;rw[Rj bs r (k+1)];simp at h;simp[h]
section
variable{X:Cx}
def EF(hu:X.A.units+200<c8):cw X (compareOp .In) (λx y=>(isIn x y).map .bl):=by
 rintro ae s Z H x y v u Q I rx ry ⟨O,st,px,py,z,r,hx,hy,hz,q⟩;let(b,hb,oy):=d9.mp hz;let fin:EP X ae Z Q (.bool b) s:=⟨.bl b,H,I,rfl,q _ _ (bt.refl H) (by rw[<-oy,RP])⟩
 let seq:∀{xs:List PV}{vs:List V}{aw:List ak},aC X.K H (aP O st) xs vs->ba vs aw->eM (bM px) (cC xs)=true ->
   ∃e:ak->Bool,(∀w,w∈aw.toArray->EqAt X.A.in1 s w v (e w))/\aw.toArray.any e=gO px xs:=by
  intro xs vs aw h r1 hd;let iK:bM px<=100\/cC xs<=100:=by simpa[eM]using hd
  classical
  let l1:=h.length;let l2:=r1.length;let val:∀(j:Nat)(hj:j<aw.length),∃y,xs[j]?=aa y/\EqAt X.A.in1 s aw[j] v (aH y px)/\∃w,RP X.K H (aP O st) y w/\RelV w aw[j]:=λj hj=>by
   let(y,w,a1,a2,a3,a4):=h.at r1 hj;let da:=AS a1;exact(y,a1,(E6 I 100 y px w x aw[j] v X.A.in1 (.inl a3) hx a4 rx () (by show X.A.units+1+100+1<c8;lia)).2,w,a3,a4)
  refine(λw=>decide (∃(j:Nat)(y:PV),aw[j]?=aa w/\xs[j]?=aa y/\aH y px=true),λw hw=>?_,?_)
  .let mM:w∈aw:=by simpa using hw
   let(j,hj,rfl):=gR mM;let(y,a1,a2,w1,a3,a4):=val j hj;let e:decide (∃(k:Nat)(y:PV),aw[k]?=aa aw[j]/\xs[k]?=aa y/\aH y px=true)=aH y px:=by
    rw[pC,decide_eq_true_eq];constructor
    .rintro⟨k,y',b1,b2,b3⟩;let(hk,b1):=dU.mp b1;let(y2,c1,_,w2,c3,c4):=val k hk;rw[b2]at c1;cases c1;rw[b1]at c4;let:=a4.inj c4;subst this;rw[RP.inj I y y' _ a3 c3];exact b3
    .intro hp;exact(j,y,bY hj,a1,hp)
   dsimp only;rw[e];exact a2
  .rw[pC];unfold gO;simp only[List.any_toArray,Ho,decide_eq_true_eq];constructor
   .rintro⟨w,_,j,y,b1,b2,b3⟩;exact(y,eE b2,b3)
   .rintro⟨y,sG,b3⟩;let(j,hj,rfl):=gR sG;let Kr:j<aw.length:=by lia
    exact(aw[j],rH Kr,j,xs[j],bY Kr,bY hj,b3)
 cases py with
 |str cs=>
  cases px with
  |str bs=>
   let gH:kM bs cs=b:=by simpa[isIn]using hb
   refine yw0 ae s Z H x y v u Q I rx ry ⟨_,_,hx.str.1,hy.str.1,?_⟩;rw[Pm];let e:(!(match findIn bs cs 0 with |some k=>[k]|none=>([]:List Nat)).isEmpty)=b:=by
    rw[<-gH,Rj bs cs 0];cases findIn bs cs 0<;>rfl
   rw[e];exact q _ _ (bt.refl H) (by rw[<-oy,RP])
  |_=>simp[isIn]at hb
 |af xs=>
  let(a,vs,rfl,h1,h2):=hy.af;cases ry;let(aw,r1,p,_):=I.tuple h1;let hc:eM (bM px) (cC xs)=true/\gO px xs=b:=by cases px<;>simpa[isIn]using hb
  let(e,he,CU):=seq h2 r1 hc.1;exact in_tupleAt e p he (by rw[CU,hc.2];exact fin)
 |ai xs=>
  let(a,vs,rfl,h1,h2):=hy.ai;cases ry;let(aw,r1,p,_):=I.list h1;let hc:eM (bM px) (cC xs)=true/\gO px xs=b:=by cases px<;>simpa[isIn]using hb
  let(e,he,CU):=seq h2 r1 hc.1;exact in_listAt e p.isList he (by rw[CU,hc.2];exact fin)
 |_=>cases px<;>simp[isIn]at hb
end
variable{Q:VK}{cR:kZ}{es:List Expr}{bx:List E}
section
variable{X:Cx}{C:a8}{a b c:Expr}{ia ib ic:E}{pos:aU}{cx:List Expr}
def xz9(ha:ST X C a ia):ST X C (.UnaryOp .Not a pos) (.not ia) :=
 PT.mono (xv0 ha) λZ H Q h_=>by
  let(env,O,st,k,ao,aD,e,q):=h_;rw[N_]at e;let(k',aA,e1,e):=ax.ki e;cases e;exact(env,O,st,k',ao,aD,e1,q)
@[reducible] def SW(X:Cx)(C:a8)(e:Expr)(ir:E):Prop:=PW X e (tT X.K C ir)
def xS5(h:SW X C e ir):ST X C e ir:=h.pt
def xd9(ha:ST X C a ia):SW X C (.BoolOp .And [a] pos) ia:=xb7 ha
def Z5(ha:ST X C a ia):SW X C (.BoolOp .Or [a] pos) ia:=xv3 ha
def Z4(ha:ST X C a ia)(hb:SW X C (.BoolOp .And (b::cx) pos) ib):SW X C (.BoolOp .And (a::b::cx) pos) (.and ia ib) :=
 PW.mono (xv2 ha hb) λZ H Q h_=>by
  let(env,O,st,k,ao,aD,e,q):=h_;rw[N8]at e;let(k',aA,e1,e):=ax.ki e;refine(env,O,st,k',aA,aD,e1,λH1 α1 x1 r1=>?_);cases k' with
  |true=>exact(env,α1,aA,k,ao,aD.next x1 r1,e,λH2 α2 x2 r2=>q H2 α2 (x1.trans x2) r2)
  |false=>cases e;exact q H1 α1 x1 r1
def xS4(ha:ST X C a ia)(hb:SW X C (.BoolOp .Or (b::cx) pos) ib):SW X C (.BoolOp .Or (a::b::cx) pos) (.or ia ib) :=
 PW.mono (xQ8 ha hb) λZ H Q h_=>by
  let(env,O,st,k,ao,aD,e,q):=h_;rw[ND]at e;let(k',aA,e1,e):=ax.ki e;refine(env,O,st,k',aA,aD,e1,λH1 α1 x1 r1=>?_);cases k' with
  |false=>exact(env,α1,aA,k,ao,aD.next x1 r1,e,λH2 α2 x2 r2=>q H2 α2 (x1.trans x2) r2)
  |true=>cases e;exact q H1 α1 x1 r1
def wj{k:Bool}{w:V}(h:RV K O st H (.p (.bl k)) w):w=.bl k:=by simpa[RV,RP]using h
def xx3{op}(h:SE X C a ia):SE X C (.BoolOp op [a] pos) ia:=xt5 h
def xw3(ha:SE X C a ia)(hb:SE X C (.BoolOp .And (b::cx) pos) ib):SE X C (.BoolOp .And (a::b::cx) pos) (.and ia ib) :=
 PE.mono (xs9 ha hb) λZ H Q h_=>by
  let(env,O,st,v,ao,aD,e,q):=h_;rw[N8]at e;let(k',aA,e1,e):=ax.ki e;refine(env,O,st,_,aA,aD,e1,λw H1 α1 x1 r1 v1=>⟨k',wj v1,?_⟩);cases k' with
  |true=>exact(env,α1,aA,v,ao,aD.next x1 r1,e,λw H2 α2 x2 r2=>q w H2 α2 (x1.trans x2) r2)
  |false=>cases e;exact q _ H1 α1 x1 r1 (by rw[RV,RP])
def xS2(ha:SE X C a ia)(hb:SE X C (.BoolOp .Or (b::cx) pos) ib):SE X C (.BoolOp .Or (a::b::cx) pos) (.or ia ib) :=
 PE.mono (xQ3 ha hb) λZ H Q h_=>by
  let(env,O,st,v,ao,aD,e,q):=h_;rw[ND]at e;let(k',aA,e1,e):=ax.ki e;refine(env,O,st,_,aA,aD,e1,λw H1 α1 x1 r1 v1=>⟨k',wj v1,?_⟩);cases k' with
  |false=>exact(env,α1,aA,v,ao,aD.next x1 r1,e,λw H2 α2 x2 r2=>q w H2 α2 (x1.trans x2) r2)
  |true=>cases e;exact q _ H1 α1 x1 r1 (by rw[RV,RP])
def xx2(ha:SE X C a ia):SE X C (.UnaryOp .Not a pos) (.not ia) :=
 PE.mono (xt4 ha) λZ H Q h_=>by
  let(env,O,st,v,ao,aD,e,q):=h_;rw[N_]at e;let(k',aA,e1,e):=ax.ki e;cases e;exact(env,O,st,_,ao,aD,e1,λw H1 α1 x1 r1 v1=>⟨k',wj v1,q _ H1 α1 x1 r1 (by rw[RV,RP])⟩)
def xw6(hc:ST X C c ic)(ha:SE X C a ia)(hb:SE X C b ib):SE X C (.IfExp c a b pos) (.ite ic ia ib) :=
 PE.mono (yI2 hc ha hb) λZ H Q h_=>by
  let(env,O,st,v,ao,aD,e,q):=h_;rw[xk9]at e;let(k',aA,e1,e):=ax.ki e;refine(env,O,st,k',aA,aD,e1,λH1 α1 x1 r1=>?_);cases k' with
  |true=>exact(env,α1,aA,v,ao,aD.next x1 r1,e,λw H2 α2 x2 r2=>q w H2 α2 (x1.trans x2) r2)
  |false=>exact(env,α1,aA,v,ao,aD.next x1 r1,e,λw H2 α2 x2 r2=>q w H2 α2 (x1.trans x2) r2)
def xz8(ho:cw X (compareOp op) g)(ha:SE X C a ia)(hb:SE X C b ib)(hm:nU op b=false)
  (hi:∀env st,az C ir env st=(az C ia env st).bind λx st=>(az C ib env st).bind λy st=>dR g x y st):ST X C (.Compare a [op] [b] pos) ir :=
 PT.mono (xb4 ho ha hb hm) λZ H Q h_=>by
  let(env,O,st,k,ao,aD,e,q):=h_;rw[hi]at e;let(va,aA,e1,e):=ax.bE e;let(vb,aI,e2,e):=ax.bE e;let(x,y,u,h1,h2,h3,h4,h5):=nH e;cases h4;subst h5;refine(env,O,st,va,aA,aD,e1,λw H1 α1 x1 r1 v1=>?_);refine(env,α1,aA,vb,ao,aD.next x1 r1,e2,λw2 H2 α2 x2 r2 v2=>?_);refine(α2,ao,x,y,_,r2,(x2.rv v1).view r2 h1,v2.view r2 h2,h3,λw3 H3 s3 rp=>?_);exact(k,by rw[RP]at rp;exact rp,q H3 α2 (x1.trans (x2.trans (.of_same r2 s3))) (r2.same s3))
def Rf{op cR:kg}{g':PV->PV->Option PV}(hg:dI op=g)(Xm:dI cR=g')(aD:At X.K O st H env Z)
  (e:az C (.chain op cR ia ib ic) env st=.ok v ao) (hB:∀x y z,g x y=aa z->∃k,z=.bl k)
  (q:∀w H' O',bD X.K O st H O' ao H'->bu X.K O' ao H'->RV X.K O' ao H' v w->Q w H') :
  Fx (λx y H Q=>∃O st px py z,bu X.K O st H/\RW X.K O st H px x/\RW X.K O st H py y/\g px py=aa z/\∀w H',bt H H'->RP X.K H' (aP O st) z w->Q w H')
   (λx y H Q=>∃O st px py z,bu X.K O st H/\RW X.K O st H px x/\RW X.K O st H py y/\g' px py=aa z/\∀w H',bt H H'->RP X.K H' (aP O st) z w->Q w H')
   (tP X.K C ia) (tP X.K C ib) (tP X.K C ic) Z H Q:=by
 subst hg Xm;rw[yD3]at e;let(va,aA,e1,e):=ax.bE e;let(vb,aI,e2,e):=ax.bE e;let(k,cK,e3,e):=ax.ki e;let(x,y,u,h1,h2,h3,h4,h5):=nH e3;cases h4;subst h5;refine(env,O,st,va,aA,aD,e1,λw H1 α1 x1 r1 v1=>?_);refine(env,α1,aA,vb,cK,aD.next x1 r1,e2,λw2 H2 α2 x2 r2 v2=>?_);refine(α2,cK,x,y,_,r2,(x2.rv v1).view r2 h1,v2.view r2 h2,h3,λw3 H3 s3 rp=>?_);refine(k,by rw[RP]at rp;exact rp,?_);let CF:bD X.K O st H α2 cK H3:=x1.trans (x2.trans (.of_same r2 s3));cases k with
 |false=>
  cases e;exact q _ H3 α2 CF (r2.same s3) (by rw[RV,RP])
 |true=>
  let(vc,d6,e4,e):=ax.bE e;let(x',y',u',g1,g2,g3,g4,g5):=nH e;subst g4 g5;refine(env,α2,cK,vc,ao,aD.next CF (r2.same s3),e4,λw4 H4 α4 x4 r4 v4=>?_);refine(α4,ao,x',y',u',r4,(((bD.of_same r2 s3).trans x4).rv v2).view r4 g1,v4.view r4 g2,g3,λw5 H5 s5 Zd=>?_);exact q _ H5 α4 (CF.trans (x4.trans (.of_same r4 s5))) (r4.same s5) Zd
def yK9{qc uW:kg}(ho:cw X (compareOp op) (dI qc))(fy:cw X (compareOp cR) (dI uW))(hB:∀x y z,dI qc x y=aa z->∃k,z=.bl k)(ha:SE X C a ia)(hb:SE X C b ib)(hc:SE X C c ic)
  (hm:uG [op,cR] [b,c]=false):ST X C (.Compare a [op,cR] [b,c] pos) (.chain qc uW ia ib ic) :=
 PT.mono (yI9 ho fy ha hb hc hm) λZ H Q ⟨env,O,st,k,ao,aD,e,q⟩ =>
  Rf rfl rfl aD e hB λw H' O' x r v=>⟨k,wj v,q H' O' x r⟩
def D9(K:aQ)(C:a8)(bx:List E):TA:=λZ H Q=>∃env O st vs ao,At K O st H env Z/\fG C bx env st=.ok vs ao /\
 ∀ws H' O',bD K O st H O' ao H'->bu K O' ao H'->cn (RV K O' ao H') vs ws->Q ws H'
@[reducible] def SA(X:Cx)(C:a8)(es:List Expr)(bx:List E):Prop:=PA X es (D9 X.K C bx)
def PA.mono{t t':TA}(h:PA X es t)(m:∀Z H Q,t' Z H Q->t Z H Q):PA X es t':=λpos ae s Z H Q I q=>h pos ae s Z H Q I (m _ _ _ q)
def Ow:SA X C [] []:=PA.mono Om λZ H Q h_=>by
 let(env,O,st,vs,ao,aD,e,q):=h_;rw[rf]at e;cases e;exact q [] H O .refl aD.rs .nil
def QI(ha:SE X C a ia)(hr:SA X C es bx)(hs:bA (a::es) X.env=(false,eval a X.env)::bA es X.env):SA X C (a::es) (ia::bx) :=
 PA.mono (Fh ha hr hs) λZ H Q h_=>by
  let(env,O,st,vs,ao,aD,e,q):=h_;rw[tU]at e;let(v,aA,e1,e):=ax.bE e;let(vr,aI,e2,e):=ax.bE e;cases e;exact(env,O,st,v,aA,aD,e1,λw H1 α1 x1 r1 v1=>⟨env,α1,aA,vr,ao,aD.next x1 r1,e2,λws H2 α2 x2 r2 p=>q _ H2 α2 (x1.trans x2) r2 (.cons (x2.rv v1) p)⟩)
def wF:∀{bx:List E}{env:Env}{st ao:ay}{xs:List PV},gX C bx env st=.ok xs ao->fG C bx env st=.ok (xs.map .p) ao
 |[],env,st,ao,xs,h=>by rw[xn]at h;cases h;rw[rf];rfl
 | i::r,env,st,ao,xs,h=>by
  rw[Bd]at h;let(x,aA,e1,h):=ax.mz h;let(ys,aI,e2,h):=ax.bE h;cases h;rw[tU,e1,ax.lb,wF e2];rfl
def Au{K:aQ}{O:Al}{st:ay}{H:Hp}:∀{xs:List PV}{ws:List V},cn (RV K O st H) (xs.map .p) ws->aC K H (aP O st) xs ws
 |[],ws,h=>by cases h;rw[aC]
 | x::r,ws,h=>by
  cases h with
  |cons q t=>rw[aC];exact(_,_,rfl,q,Au t)
def xm:∀{bx:List E}{env:Env}{st ao:ay}{xs:List PV},gX C bx env st=.ok xs ao->xs.length=bx.length
 |[],env,st,ao,xs,h=>by rw[xn]at h;cases h;rfl
 | i::r,env,st,ao,xs,h=>by
  rw[Bd]at h;let(x,aA,e1,h):=ax.mz h;let(ys,aI,e2,h):=ax.bE h;cases h;simp[xm e2]
def xx5{x1}(h:SA X C es bx)(hl:es.length<=1000)(hi:bx.length=es.length):SE X C (.Tuple es x1 pos) (.af bx) :=
 PE.mono (xt7 h) λZ H Q h_=>by
  let(env,O,st,v,ao,aD,e,q):=h_;rw[Oa]at e;let(xs,aA,e1,e):=ax.bE e;cases e;refine(env,O,st,_,ao,aD,wF e1,λws H1 α1 x1 r1 p=>?_);let rp:=Au p;refine(?_,λa ha=>?_)
  .rw[<-rp.length,xm e1,hi];exact df hl (by decide)
  .let s1:bt H1 (upd H1 a (.af ws)):=fB ha _;exact q _ _ α1 (x1.trans (.of_same r1 s1)) (r1.same s1) (by rw[RV,RP];exact(a,ws,rfl,bR.of dZ,(bD.of_same r1 s1).cE rp))
def xw7(h:SA X C es bx)(hl:es.length<=1000)(hi:bx.length=es.length):SE X C (.List es pos) (.list false bx) :=
 PE.mono (xt2 h) λZ H Q h_=>by
  let(env,O,st,v,ao,aD,e,q):=h_;rw[Qa]at e;let(xs,aA,e1,e):=ax.bE e;simp only[mk,eN,if_false]at e;cases e;refine(env,O,st,_,ao,aD,wF e1,λws H1 α1 x1 r1 p=>?_);let rp:=Au p;refine(?_,λa ha=>?_)
  .rw[<-rp.length,xm e1,hi];exact df hl (by decide)
  .let s1:bt H1 (upd H1 a (.ai ws)):=fB ha _;exact q _ _ α1 (x1.trans (.of_same r1 s1)) (r1.same s1) (by rw[RV,RP];exact(a,ws,rfl,bL.of dZ,r1.sN ha,(bD.of_same r1 s1).cE rp))
end
section
variable{X:Cx}{C:a8}{a b c:Expr}{ia ib ic:E}{pos:aU}
def yW7(hu:X.A.units+1<c8):k8 X (λx y H Q=>∃a v,x=.ref a/\sU H a y (aa v)/\Q v H):=by
 intro value slice ae s Z H x y v u Q I rx ry ⟨a,w,ex,g,q⟩ hs;subst ex;obtain rfl:v=b9 a:=rx;let hT:=zZ7 I g;let h2:aG (aN X.prog X.w) X.A (getItem (.ref a) u) (EP X ae Z Q) X.xe s:=yq2 hu I g ry λw' s3 I3 jd=>⟨w,H,I3,jd,q⟩;unfold subscriptTail;refine aE ?_;rw[getitemInPython_of_ne hT.not_modules];refine aE (VT hT PySem.F.slot_dict_getitem.lookup ?_);let fin:aG (aN X.prog X.w) X.A (IP slice false (.ref a) u) (λr s₃=>aG (aN X.prog X.w) X.A (letTemporaryGo value (.ref a) r >>= λ_=>pure r) (EP X ae Z Q) X.xe s₃) X.xe s:=by
  rw[hs];exact wpAny_operating (k7 h2 (λr s₃ h₃=>aE (wpAny_letTemporaryGo (aX h₃))) λ_ _ x=>x)
 first
  |exact aX (aE fin)
  |exact aE (aX (aE fin))
  |exact aE fin
def FY{a b:PV}{k:Key}(h1:keyOf a=aa k)(h2:keyOf b=aa k):a=b:=by
 cases a<;>simp only[keyOf,reduceCtorEq,fW]at h1<;>cases b<;>simp only[keyOf,reduceCtorEq,fW]at h2<;>subst h1
 .cases h2;rfl
 .cases h2
 .cases h2
 .injection h2 with h2;injection h2 with h2;exact congrArg PV.str (by simpa using(congrArg pB h2).symm)
def QE{K:aQ}{H:Hp}{lv:aq->Prop}{k x:PV}{k':Key}(hk:keyOf k=aa k'):∀{av:List (PV×PV)}{l:List (Key×V)},bS K H lv av l->eJ k av=aa x->∃v,jR l k'=aa v/\RP K H lv x v
 |[],l,h,e=>by simp[eJ]at e
 | (k1,x1)::r,l,h,e=>by
  rw[bS]at h;let(k2,v,l',rfl,h1,h2,h3):=h;rw[eJ]at e;by_cases hc:k1=k
  .subst hc;rw[if_pos rfl]at e;cases e;rw[h1]at hk;cases hk;exact(v,AO rfl,h2)
  .rw[if_neg hc]at e;let(w,g1,g2):=QE hk h3 e;refine(w,?_,g2);rw[AN]
   .exact g1
   .intro e';let:k2=k':=e';subst this;exact hc (FY h1 hk)
def QF{K:aQ}{H:Hp}{lv:aq->Prop}{k x:PV}:∀{av:List (PV×PV)}{l:List (Key×V)},bS K H lv av l->eJ k av=aa x->∃k',keyOf k=aa k'
 |[],l,h,e=>by simp[eJ]at e
 | (k1,x1)::r,l,h,e=>by
  rw[bS]at h;let(k2,v,l',rfl,h1,h2,h3):=h;rw[eJ]at e;by_cases hc:k1=k
  .subst hc;exact(k2,h1)
  .rw[if_neg hc]at e;exact QF h3 e
def N0{x:PV}{v:V}{k:Key}(h:RW K O st H x v)(e:keyOf x=aa k):v=kV k:=by
 cases x with
 |int i=>cases e;exact h.int
 |str cs=>cases e;exact h.str.1
 |_=>cases e
def xS0(hu:X.A.units+1<c8)(ha:SE X C a ia)(hb:SE X C b ib)(hs:Gy b):SE X C (.Subscript a b pos) (.ix ia ib) :=
 PE.mono (xQ2 (xn4.or (yW7 hu)) ha hb hs) λZ H Q h_=>by
  let(env,O,st,v,ao,aD,e,q):=h_;rw[υ]at e;let(o,aA,e1,e):=ax.bE e;let(iv,i,aI,e2,hi,e):=ax.se e;refine(env,O,st,o,aA,aD,e1,λw H1 α1 x1 r1 v1=>?_);refine(env,α1,aA,iv,aI,aD.next x1 r1,e2,λw2 H2 α2 x2 r2 v2=>?_);let wi:=v2.view r2 hi;let ro:=x2.rv v1;let seq:∀{x:PV},RW X.K α2 aI H2 x w->cQ (lL x i) aI=.ok v ao->(Mb X.K w w2 H2 Q):=by
   intro x rx hx;let(z,h1,h2,h3):=pz hx;subst h2 h3;let fin:∀{u:V},RP X.K H2 (aP α2 ao) z u->Q u H2:=λh=>q _ H2 α2 (x1.trans x2) r2 h;cases x with
   |af xs=>
    cases i with
    |int k=>
     let(p,vs,rfl,g1,g2):=rx.af;let(j,hj,hz):=BI.mp (show(aO xs.length k).bind (λj=>xs[j]?)=aa z from h1);let(u,gI,iM):=g2.get hz;exact .inr (.inl ⟨p,vs,k,u,rfl,wi.int,g1,by show(aO vs.length k).bind (λj=>vs[j]?)=aa u;rw[<-g2.length,hj];exact gI,fin iM⟩)
    |_=>simp[lL]at h1
   |ai xs=>
    cases i with
    |int k=>
     let(p,vs,rfl,g1,g2):=rx.ai;let(j,hj,hz):=BI.mp (show(aO xs.length k).bind (λj=>xs[j]?)=aa z from h1);let(u,gI,iM):=g2.get hz;exact .inl ⟨p,vs,k,u,rfl,wi.int,g1,by show(aO vs.length k).bind (λj=>vs[j]?)=aa u;rw[<-g2.length,hj];exact gI,fin iM⟩
    |_=>simp[lL]at h1
   |str cs=>
    cases i with
    |int k=>
     let(j,hj,hz):=BI.mp (show(aO cs.length k).bind (λj=>(cs[j]?).map λc=>PV.str [c])=aa z from h1);let(ch,W9,i9):=d9.mp hz;let(g1,g2):=rx.str;refine .inr (.inr ⟨_,k,ch,g1,wi.int,by rw[dS];exact g2,?_,fin (by rw[<-i9,RP];exact(rfl,by show 1<=a9;decide))⟩);show(aO cs.toArray.toList.length k).bind (λj=>cs.toArray.toList[j]?)=aa ch;simp only[xP];rw[hj];exact W9
    |_=>simp[lL]at h1
   |_=>cases i<;>simp[lL]at h1
  cases o with
  |p x=>exact .inl (seq (.inl ro) e)
  |ref n=>
   let e:(match aW aI n with |some (.ai xs)=>cQ (lL (.ai xs) i) aI |some (.bB av)=>cQ (eJ i av) aI |_=>.stuck)=ax.ok v ao:=e
   let(p,hw,hp):=id ro;cases ho:aW aI n with
   |none=>rw[ho]at e;cases e
   |some ob=>
    rw[ho]at e;cases ob with
    |dead=>cases e
    |dG _=>cases e
    |ai xs=>
     refine .inl (seq (x:=.ai xs) ?_ e);let(p',vs,h1,h2,h3):=r2.ai n xs ho;rw[hp]at h1;cases h1;exact .inr ⟨xs,p,vs,rfl,hw,bL.of h2,h3⟩
    |bB av=>
     let(z,h1,h2,h3):=pz e;subst h2 h3;let(p',l,g1,g2,g3):=r2.bB n av ho;rw[hp]at g1;cases g1;cases hk:keyOf i with
     |none=>
      let(k',f7):=QF g3 h1;rw[hk]at f7;cases f7
     |some k=>
      let(u,f1,f2):=QE hk g3 h1;refine .inr ⟨p,u,hw,?_,q _ H2 α2 (x1.trans x2) r2 f2⟩;rw[N0 wi hk,<-f1];exact sU.k g2
end
variable{ie ic:E}{c:Expr}
section
variable{X:Cx}{C:a8}{e:Expr}{es:List Expr}{bx:List E}{pos p:aU}
def jr(X:Cx)(f:ak)(g:List PV->Option PV):Prop :=
 nj X f λws H Q=>∃O st xs z,bu X.K O st H/\cn (RW X.K O st H) xs ws/\g xs=aa z/\∀w H',bt H H'->RP X.K H' (aP O st) z w->Q w H'
def Gw{K:aQ}{O:Al}{st:ay}{H:Hp}(r:bu K O st H):∀{vs:List aJ}{ws:List V}{xs:List PV},cn (RV K O st H) vs ws->bQ st vs=aa xs->cn (RW K O st H) xs ws
 |[],ws,xs,h,e=>by cases h;cases e;exact .nil
 | v::vr,ws,xs,h,e=>by
  cases h with
  |cons q t=>
   unfold bQ at e;cases e1:view st v with
   |none=>rw[e1]at e;cases e
   |some x=>
    rw[e1]at e;cases e2:bQ st vr with
    |none=>rw[e2]at e;cases e
    |some xr=>
     rw[e2]at e;cases e;exact .cons (q.view r e1) (Gw r t e2)
def FO{g:List PV->Option PV}(hi:∀env st,az C ir env st=(fG C bx env st).bind λvs st=>cM g vs st)
  (h:tP X.K C ir Z H Q):zA (λws H Q=>∃O st xs z,bu X.K O st H/\cn (RW X.K O st H) xs ws/\g xs=aa z/\∀w H',bt H H'->RP X.K H' (aP O st) z w->Q w H') (D9 X.K C bx) Z H Q:=by
 let(env,O,st,v,ao,aD,e,q):=h;rw[hi]at e;let(vs,aA,e1,e):=ax.bE e;refine(env,O,st,vs,aA,aD,e1,λws H1 α1 x1 r1 pr=>?_);unfold cM at e;cases e2:bQ aA vs with
 |none=>rw[e2]at e;cases e
 |some xs=>
  rw[e2]at e;let(z,h1,h2,h3):=pz e;subst h2 h3;exact(α1,ao,xs,z,r1,Gw r1 pr e2,h1,λw H2 s2 rp=>q w H2 α1 (x1.trans (.of_same r1 s2)) (r1.same s2) rp)
def yJ6{id:String}{g:List PV->Option PV}(hc:jr X (.builtin id) g)(hi:∀env st,az C ir env st=(fG C bx env st).bind λvs st=>cM g vs st)(hg:Gl X x)(hm:X.mg x=aj)(hv:gD x=aa (.builtin id))
  (ha:SA X C (e::es) bx) (hn:x ≠ "__name__") (gY:(x==("__debug__" : Str))=false) (he:bA (e::es) X.env=(false,eval e X.env)::bA es X.env) (dH:(dW pos (bA es X.env)).any (·.1)=false) :
  SE X C (.Call (.Name x p) (e::es) [] pos) ir:=PE.mono (Pt hc hg hm hv ha hn gY he dH) λ_ _ _ h=>FO hi h
def yy4{T:String}{g:List PV->Option PV}(hc:jr X (.type T) g)(hi:∀env st,az C ir env st=(fG C bx env st).bind λvs st=>cM g vs st)(hg:Gl X x)(hm:X.mg x=aj)(hv:gD x=aa (.type T))
  (ha:SA X C (e::es) bx) (hn:x ≠ "__name__") (gY:(x==("__debug__" : Str))=false) (he:bA (e::es) X.env=(false,eval e X.env)::bA es X.env) (dH:(dW pos (bA es X.env)).any (·.1)=false) :
  SE X C (.Call (.Name x p) (e::es) [] pos) ir:=PE.mono (yw3 hc hg hm hv ha hn gY he dH) λ_ _ _ h=>FO hi h
def xN9:jr X (.builtin "len") (f1 Ew):=by
 rintro ae s Z H ws us Q I rs ⟨O,st,xs,z,r,pr,hz,q⟩;cases pr with
 |nil=>cases hz
 |cons h t=>
  cases t with
  |cons _ _=>cases hz
  |nil=>
   rename_i x w
   let hz:Ew x=aa z:=hz;let fin:∀{n:Int},z=.int n->Q (.int n) H:=λe=>q _ _ (bt.refl H) (by rw[e,RP]);cases x with
   |af l=>
    let(a,vs,rfl,h1,h2):=h.af;exact QR ae s Z H _ us Q I rs ⟨a,vs,rfl,.inr h1,fin (by rw[<-h2.length];cases hz;rfl)⟩
   |ai l=>
    let(a,vs,rfl,h1,h2):=h.ai;exact QR ae s Z H _ us Q I rs ⟨a,vs,rfl,.inl h1,fin (by rw[<-h2.length];cases hz;rfl)⟩
   |str cs=>
    let(h1,h2):=h.str;subst h1;refine zT6 ae s Z H _ us Q I rs ⟨_,rfl,by rw[dS];exact h2,fin ?_⟩;rw[dS];cases hz;rfl
   |_=>cases hz
def yU0{k:Int->Int->Int}{z:PV}(h:f2 (si k) xs=aa z):∃i j,xs=[.int i,.int j]/\z=.int (k i j):=by
 match xs,h with
 |[x,y],h=>
  let h:si k x y=aa z:=h;cases x<;>cases y<;>simp only[si,reduceCtorEq,fW]at h;exact(_,_,rfl,h.symm)
def xq9(hc:X.calm=true):jr X (.builtin "max") (f2 (si λi j=>if i<j then j else i)):=by
 rintro ae s Z H ws us Q I rs ⟨O,st,xs,z,r,pr,hz,q⟩;let(i,j,rfl,rfl):=yU0 hz;cases pr with
 |cons h1 t=>
  cases t with
  |cons h2 t=>
   cases t;let e1:=h1.int;let e2:=h2.int;subst e1 e2;exact yo7 hc ae s Z H _ us Q I rs ⟨i,j,rfl,q _ _ (bt.refl H) (by rw[RP])⟩
def xl3{z:PV}(h:f1 Eu xs=aa z):(∃i,xs=[.int i])\/(∃b,xs=[.bl b])\/∃cs,xs=[.str cs]:=by
 match xs with
 |[.int i]=>exact .inl ⟨i,rfl⟩
 |[.bl b]=>exact .inr (.inl ⟨b,rfl⟩)
 |[.aL]=>cases h
 |[.str cs]=>exact .inr (.inr ⟨cs,rfl⟩)
 |[.af _]=>cases h
 |[.ai _]=>cases h
 |[]=>cases h
 |_::_::_=>cases h
def xN8:jr X (.type "int") (f1 Eu):=by
 rintro ae s Z H ws us Q I rs ⟨O,st,xs,z,r,pr,hz,q⟩;rcases xl3 hz with⟨i,rfl⟩|⟨b,rfl⟩|⟨cs,rfl⟩
 .cases pr with
  |cons h1 t=>
   cases t;let e1:=h1.int;subst e1;exact RD ae s Z H _ us Q I rs (.inl ⟨i,rfl,q _ _ (bt.refl H) (by cases hz;rw[RP])⟩)
 .cases pr with
  |cons h1 t=>
   cases t;let e1:=h1.bl;subst e1;exact RD ae s Z H _ us Q I rs (.inr ⟨b,rfl,q _ _ (bt.refl H) (by cases hz;rw[RP])⟩)
 .cases pr with
  |cons h1 t=>
   cases t;let e1:=h1.str.1;subst e1;let hz:(if cs≠[]/\cs.all jU=true/\cs.length<=640 then aa (PV.int (Fs cs:Nat))else aj)=aa z:=hz
   by_cases hc:cs≠[]/\cs.all jU=true/\cs.length<=640
   .rw[if_pos hc]at hz;cases hz;cases rs with
    |cons ru rt=>
     cases rt;let(t1,rfl):=ru;refine PySem.W.KIN.call_text (PySem.intText_digits (x:=⟨cs.toArray⟩) (λc m=>by simpa[jU]using c_.mp hc.2.1 c m) hc.1 (df (show cs.toArray.size<=640 from hc.2.2) (by decide))) hc.2.2 ⟨.int _,H,I.tok _,⟨_,rfl⟩,q _ _ (bt.refl H) (by rw[RP];rfl)⟩
   .rw[if_neg hc]at hz;cases hz
def tS(K:aQ)(C:a8)(W:Nat)(ss:List S):TS:=λD Z H=>∃env O st fl ao,At K O st H env Z/\b_ C W ss env st=.ok fl ao /\
 match fl with
 |.next be=>∀Z' H' O',bD K O st H O' ao H'->At K O' ao H' be Z'->D.nx Z' H'
 |.ret v=>∀w H' O',bD K O st H O' ao H'->bu K O' ao H'->RV K O' ao H' v w->D.rt w H'
def MB(K:aQ)(C:a8)(W:Nat)(ss:S):TS:=λD Z H=>∃env O st fl ao,At K O st H env Z/\f6 C W ss env st=.ok fl ao /\
 match fl with
 |.next be=>∀Z' H' O',bD K O st H O' ao H'->At K O' ao H' be Z'->D.nx Z' H'
 |.ret v=>∀w H' O',bD K O st H O' ao H'->bu K O' ao H'->RV K O' ao H' v w->D.rt w H'
@[reducible] def mr(X:Cx)(C:a8)(W:Nat)(b:List bW)(ss:List S):Prop:=fF X b (tS X.K C W ss)
@[reducible] def SS(X:Cx)(C:a8)(W:Nat)(b:bW)(ss:S):Prop:=PS X b (MB X.K C W ss)
variable{W:Nat}
def PS.mono{st:bW}{t t':TS}(h:PS X st t)(m:∀D Z H,t' D Z H->t D Z H):PS X st t':=λae s Z H D I q=>h ae s Z H D I (m _ _ _ q)
def fF.mono{st:List bW}{t t':TS}(h:fF X st t)(m:∀D Z H,t' D Z H->t D Z H):fF X st t':=λae s Z H D I q=>h ae s Z H D I (m _ _ _ q)
def At.set{w:V}(a:At K O st H env Z)(h:RV K O st H v w):At K O st H (env.set i (aa v)) (Z.set i (aa w)):=by
 refine(by simp[a.len],a.rs,λj u hj=>?_);by_cases sC:i=j
 .subst sC;by_cases hl:i<env.length
  .rw[xD hl]at hj;cases hj;exact(w,by rw[xD (by rw[<-a.len];exact hl)],h)
  .rw[l0 (by simp;lia)]at hj;cases hj
 .rw[xC sC]at hj;let(w',h1,h2):=a.env j u hj;exact(w',by rw[xC sC];exact h1,h2)
def xz5:mr X C W [] []:=fF.mono xb3 λD Z H h_=>by
 let(env,O,st,fl,ao,aD,e,q):=h_;rw[exs_nil]at e;cases e;exact q Z H O .refl aD
def xd6{st:bW}{cx:List bW}{i:S}{ir:List S}(h1:SS X C W st i)(h2:mr X C W cx ir):mr X C W (st::cx) (i::ir) :=
 fF.mono (yI8 h1 h2) λD Z H h_=>by
  let(env,O,st,fl,ao,aD,e,q):=h_;rw[exs_cons]at e;let(f1,aA,e1,e):=ax.bE e;refine(env,O,st,f1,aA,aD,e1,?_);cases f1 with
  |ret v=>
   cases e;exact q
  |next Ws=>
   intro σ1 H1 α1 x1 k9;refine(Ws,α1,aA,fl,ao,k9,e,?_);cases fl with
   |next bz=>exact λσ2 H2 α2 x2 eR=>q σ2 H2 α2 (x1.trans x2) eR
   |ret v=>exact λw H2 α2 x2 r2 rv=>q w H2 α2 (x1.trans x2) r2 rv
def xd7(h:SE X C e ie)(hs:pZ e aj pos.line X.env=pure false):SS X C W (.Expr e pos) (.expr ie) :=
 PS.mono (xb1 h hs) λD Z H h_=>by
  let(env,O,st,fl,ao,aD,e,q):=h_;rw[yT9]at e;let(v,aA,e1,e):=ax.bE e;cases e;exact(env,O,st,v,ao,aD,e1,λw H1 α1 x1 r1 v1=>q Z H1 α1 x1 (aD.next x1 r1))
def xz6(h:SE X C e ie):SS X C W (.Return (aa e) pos) (.ret ie) :=
 PS.mono (xu8 h) λD Z H h_=>by
  let(env,O,st,fl,ao,aD,e,q):=h_;rw[Fq]at e;let(v,aA,e1,e):=ax.bE e;cases e;exact(env,O,st,v,ao,aD,e1,q)
def xS3{a b:List bW}{sa sb:List S}(hc:ST X C c ic)(ha:mr X C W a sa)(hb:mr X C W b sb):SS X C W (.If c a b pos) (.ite ic sa sb) :=
 PS.mono (xQ7 hc ha hb) λD Z H h_=>by
  let(env,O,st,fl,ao,aD,e,q):=h_;rw[Aq]at e;let(k,aA,e1,e):=ax.ki e;refine(env,O,st,k,aA,aD,e1,λH1 α1 x1 r1=>?_);let go:∀{ss:List S},b_ C W ss env aA=.ok fl ao->tS X.K C W ss D Z H1:=λ{ss} e2=>by
   refine(env,α1,aA,fl,ao,aD.next x1 r1,e2,?_);cases fl with
   |next bz=>exact λσ2 H2 α2 x2 eR=>q σ2 H2 α2 (x1.trans x2) eR
   |ret v=>exact λw H2 α2 x2 r2 rv=>q w H2 α2 (x1.trans x2) r2 rv
  cases k with
  |true=>exact go e
  |false=>exact go e
def xz7{dn:aU}(hN:X.N.Nodup)(hi:X.N[i]?=aa x)(hx:Loc X.env.scope x)(h:SE X C e ie)(hs:pZ e (aa (.Name x dn)) pos.line X.env=pure false)(hf:X.fn x=true\/X.env.scope.names.lookup x=aa .local):
  SS X C W (.Assign [.Name x dn] e pos) (.set i ie) :=
 PS.mono (xu9 hN hi hx h hs hf) λD Z H h_=>by
  let(env,O,st,fl,ao,aD,e,q):=h_;rw[Oc]at e;let(v,aA,e1,e):=ax.bE e;cases e;exact(env,O,st,v,ao,aD,e1,λw H1 α1 x1 r1 v1=>q _ H1 α1 x1 ((aD.next x1 r1).set v1))
end
def yl(cs:List Nat):L2.It:=⟨λi _=>i<cs.length,λi H x H'=>H'=H/\∃c,cs[i]?=aa c/\x=.str ⟨#[c]⟩,λi _=>cs.length<=i⟩
variable{tg:Expr}
def PF{P:Program}{w:aY}(it:aq)(cs:List Nat)(t:dt)(ty:String)
  (d4:["enumerate","zip","dict_itemiterator","dict_reverseitemiterator","odict_iterator","itertools.zip_longest","itertools.pairwise"].contains ty=false)
  (item:∀{A:bb}{E:ak->au->Prop}{s:au}{i c:Nat}{Q:Option ak->au->Prop},s.heap.IsStrIter it ty ⟨cs.toArray⟩ t i->(⟨cs.toArray⟩:Str).cps[i]?=aa c ->
   (∀h',h'.IsStrIter it ty ⟨cs.toArray⟩ t (i+1)->gS it s.heap h'->Q (aa (.str ⟨#[c]⟩ s.toks)) { s with heap:=h',toks:=s.toks+1 })->aG (aN P w) A (pyNext (.ref it)) Q E s)
  (done:∀{A:bb}{E:ak->au->Prop}{s:au}{i:Nat}{Q:Option ak->au->Prop},A.handled=aj->s.heap.IsStrIter it ty ⟨cs.toArray⟩ t i->(⟨cs.toArray⟩:Str).cps[i]?=aj ->
   (∀h',Ik it s.heap h'->Q aj { s with heap:=h' })->aG (aN P w) A (pyNext (.ref it)) Q E s)
  (self:∀{A:bb}{E:ak->au->Prop}{s:au}{i:Nat}{Q:ak->au->Prop},s.heap.IsStrIter it ty ⟨cs.toArray⟩ t i->Q (.ref it) s->aG (aN P w) A (pyIter (.ref it)) Q E s) :
  qB P w K tg (yl cs) [it] it (λi h=>h.IsStrIter it ty ⟨cs.toArray⟩ t i) where
 mem:=by simp
 obj:=λi h st b hb=>by
  let e:b=it:=by simpa using hb
  subst e;let(o,e,c,d):=st;exact(o,e,λv z=>by rw[d]at z;cases z)
 keep:=λi h h' st k=>by
  let(o,e,c,d):=st;exact(o,k it (by simp) o e,c,d)
 item:=by
  intro X hP hw hK hc i ae s Z H E I hf st hg;subst hP hw hK;let(f0,f1,f2,f3,f4,f5):=hf it (by simp);let hg:i<cs.length:=hg;refine item st (c:=cs[i]) (by simp[hg]) λh' ao sb=>?_;let I1:Inv X ae Z H { s with heap:=h',toks:=s.toks+1 }:=I.turned (λb o hb e=>(sb.2 b hb).trans e) f0 f1 f3 f4 f5
  let(o,e,c,d):=id ao;exact(_,rfl,Aa (s:={ s with heap:=h',toks:=s.toks+1 }) e c d d4 ⟨.str ⟨#[cs[i]]⟩,H,I1,⟨_,rfl⟩,⟨rfl,cs[i],by simp[hg],rfl⟩,ao,λb hb=>(hf b hb).1⟩)
 done:=by
  intro X hP hw hK hc i ae s Z H E I hf st hg;subst hP hw hK;let(f0,f1,f2,f3,f4,f5):=hf it (by simp);let hg:cs.length<=i:=hg;exact done (I.ok.hd hc) st (by simp[hg]) λh' eb=>⟨rfl,I.turned (t':=s.toks) (λb o hb e=>eb b o hb e) f0 f1 f3 f4 f5⟩
 self:=λ_ _ _ _ _ st h=>self st h
def Yf(K:aQ)(tl:TE):TI:=λZ H R=>tl Z H λx H1 =>
 (∃a xs,x=.ref a/\bL K H1 a xs/\(xs.length<=a9->R (Jc K a) H1))\/(∃a xs,x=.ref a/\bR K H1 a xs/\(xs.length<=a9->R (Ca K a) H1))\/∃cs,x=.str ⟨cs.toArray⟩/\R (yl cs) H1
def xu1{l:Expr}{tl:TE}(hl:PE X l tl):PI X tg l (Yf X.K tl):=by
 intro ae s Z H R I h;refine bf (hl ae s Z H _ I h) λv s1 h_=>?_;let(x,H1,I1,r1,q1):=h_;rcases q1 with⟨a,xs,e,hq,q⟩|⟨a,xs,e,hq,q⟩|⟨cs,e,q⟩
 .subst e;cases r1;let(aw,rv,p,hz):=I1.list hq;refine IY p.isList ?_;refine(s1.heap.objs.size,[s1.heap.objs.size],_,_,H1,rfl,I1.kept (t':=s1.toks) λb o e=>cv _ e,yz9 a _,⟨_,dY _ rfl,rfl,rfl⟩,λb hb=>?_,q hz);let e:b=s1.heap.objs.size:=by simpa using hb
  subst e;exact I1.sk (bF _) (I1.aF.fresh (bF _))
 .subst e;cases r1;let(aw,rv,p,hz):=I1.tuple hq;refine IZ (show s1.heap.IsTuple a aw.toArray from p) ?_;refine(s1.heap.objs.size,[s1.heap.objs.size],_,_,H1,rfl,I1.kept (t':=s1.toks) λb o e=>cv _ e,yn3 a _,⟨_,dY _ rfl,rfl,rfl⟩,λb hb=>?_,q hz);let e:b=s1.heap.objs.size:=by simpa using hb
  subst e;exact I1.sk (bF _) (I1.aF.fresh (bF _))
 .subst e;let(t,rfl):=r1;let fp:∀b∈[s1.heap.objs.size],hG X ae H1 b:=λb hb=>by
   let e:b=s1.heap.objs.size:=by simpa using hb
   subst e;exact I1.sk (bF _) (I1.aF.fresh (bF _))
  cases ha:(⟨cs.toArray⟩:Str).cps.all (· < 128)
  .refine wpAny_pyIter_wide ha ?_
   exact(s1.heap.objs.size,[s1.heap.objs.size],_,_,H1,rfl,I1.kept (t':=s1.toks) λb o e=>cv _ e,
    PF _ cs t "str_iterator" (by decide) (λh1 h2 h3=>wpAny_pyNext_wide_item h1 h2 h3) (λh0 h1 h2 h3=>wpAny_pyNext_wide_end h0 h1 h2 h3) (λh1 h2=>wpAny_pyIter_striter_wide h1 h2),⟨_,dY _ rfl,rfl,rfl⟩,fp,q)
  .refine wpAny_pyIter_ascii ha ?_
   exact(s1.heap.objs.size,[s1.heap.objs.size],_,_,H1,rfl,I1.kept (t':=s1.toks) λb o e=>cv _ e,
    PF _ cs t "str_ascii_iterator" (by decide) (λh1 h2 h3=>wpAny_pyNext_ascii_item h1 h2 h3) (λh0 h1 h2 h3=>wpAny_pyNext_ascii_end h0 h1 h2 h3) (λh1 h2=>wpAny_pyIter_striter_ascii h1 h2),⟨_,dY _ rfl,rfl,rfl⟩,fp,q)
structure WalkAt(K:aQ)(O:Al)(st:ay)(H:Hp)(J:L2.It)(xs:List PV):Prop where
 go:∀(i:Nat),i<xs.length->J.go i H
 qK:∀(i:Nat) x w H',xs[i]?=aa x->J.qK i H w H'->bt H H'/\RP K H' (aP O st) x w
 stop:∀(i:Nat),xs.length<=i->J.stop i H
def Walk(K:aQ)(O:Al)(st:ay)(H:Hp)(J:L2.It)(cb:Option (Nat×List PV))(xs:List PV):Prop:=∀O' ao H',Lk K O st H O' ao H'->bu K O' ao H'->iA ao cb=true->WalkAt K O' ao H' J xs
def tI(K:aQ)(C:a8)(it:It):TI:=λZ H R=>∃env O st xs cb ao,At K O st H env Z/\iI C it env st=.ok (xs,cb) ao /\
 ∀J H' O',bD K O st H O' ao H'->bu K O' ao H'->Walk K O' ao H' J cb xs->xs.length<=a9->R J H'
@[reducible] def SI(X:Cx)(C:a8)(tg iter:Expr)(it:It):Prop:=PI X tg iter (tI X.K C it)
def PI.mono{iter:Expr}{t t':TI}(h:PI X tg iter t)(m:∀Z H R,t' Z H R->t Z H R):PI X tg iter t':=λae s Z H R I q=>h ae s Z H R I (m _ _ _ q)
variable{ib:List S}
section
variable{X:Cx}{C:a8}{W:Nat}{tg l:Expr}{il:E}{pos p:aU}
def xy2(hl:SE X C l il):SI X C tg l (.of il):=PI.mono (xu1 hl) λZ H R h_=>by
 let(env,O,st,xs,cb,ao,aD,e,q):=h_;rw[yT7]at e;let(v,aA,e1,e):=ax.bE e;refine(env,O,st,v,aA,aD,e1,λw H1 α1 x1 r1 v1=>?_);unfold walkOf at e;cases v with
 |ref n=>
  cases hv:view aA (.ref n)with
  |none=>rw[hv]at e;cases e
  |some y=>
   rw[hv]at e;let hy:∃ys,y=.ai ys/\aW aA n=aa (.ai ys):=by
    let hv:(match aW aA n with |some (.ai xs)=>aa (PV.ai xs)|_=>aj)=aa y:=hv
    cases ho:aW aA n with
    |none=>rw[ho]at hv;cases hv
    |some ob=>
     rw[ho]at hv;cases ob with
     |ai ys=>cases hv;exact(ys,rfl,rfl)
     |bB _=>cases hv
     |dG _=>cases hv
     |dead=>cases hv
   let(ys,rfl,ho):=hy;cases e;let(a,hw,ha):=v1;let(a',vs,h1,h2,h3):=r1.ai n xs ho;rw[ha]at h1;cases h1;refine .inl ⟨a,vs,hw,bL.of h2,λhz=>q _ _ _ x1 r1 (λα2 aI H2 x2 r2 so=>?_) (by rw[h3.length];exact hz)⟩;let so:view aI (.ref n)=aa (.ai xs):=of_decide_eq_true so;let dk:aW aI n=aa (.ai xs):=by
    let so:(match aW aI n with |some (.ai xs)=>aa (PV.ai xs)|_=>aj)=aa (.ai xs):=so
    cases ho:aW aI n with
    |none=>rw[ho]at so;cases so
    |some ob=>
     rw[ho]at so;cases ob with
     |ai ys=>cases so;rfl
     |bB _=>cases so
     |dG _=>cases so
     |dead=>cases so
   let(a',vY,k1,k2,g2):=r2.ai n xs dk;rw[x2.pre n a ha]at k1;cases k1;let g1:bL X.K H2 a vY:=bL.of k2;let gl:=g2.length;refine(λi hi=>⟨vY,vY[i],g1,bY (by omega)⟩,λi x w H' hx ⟨iN,lF⟩=>?_,λi hi=>⟨vY,g1,by omega⟩);subst iN;let(u,gI,iM):=g2.get hx;rw[lF vY g1]at gI;cases gI;exact(bt.refl _,iM)
 |p y=>
  let e:(match bI y with |some xs=>ax.ok (xs,aj) aA |none=>.stuck)=ax.ok (xs,cb) ao:=e
  cases y with
  |af ys=>
   cases e;let v1:RP X.K H1 (aP α1 ao) (.af xs) w:=v1;rw[RP]at v1;let(a,vs,rfl,h1,h2):=v1;refine .inr (.inl ⟨a,vs,rfl,h1,λhz=>q _ _ _ x1 r1 (λα2 aI H2 x2 _ _=>?_) (by rw[h2.length];exact hz)⟩);let g1:=x2.af a vs h1;let g2:=x2.cE h2;let gl:=g2.length;refine(λi hi=>⟨vs,vs[i],g1,bY (by omega)⟩,λi x w H' hx ⟨iN,lF⟩=>?_,λi hi=>⟨vs,g1,by omega⟩);subst iN;let(u,gI,iM):=g2.get hx;rw[lF vs g1]at gI;cases gI;exact(bt.refl _,iM)
  |ai ys=>
   cases e;let v1:RP X.K H1 (aP α1 ao) (.ai xs) w:=v1;rw[RP]at v1;let(a,vs,rfl,h1,h0,h2):=v1;refine .inl ⟨a,vs,rfl,h1,λhz=>q _ _ _ x1 r1 (λα2 aI H2 x2 _ _=>?_) (by rw[h2.length];exact hz)⟩;let g1:=(x2.ai a vs h1 h0).1;let g2:=x2.cE h2;let gl:=g2.length;refine(λi hi=>⟨vs,vs[i],g1,bY (by omega)⟩,λi x w H' hx ⟨iN,lF⟩=>?_,λi hi=>⟨vs,g1,by omega⟩);subst iN;let(u,gI,iM):=g2.get hx;rw[lF vs g1]at gI;cases gI;exact(bt.refl _,iM)
  |str cs=>
   cases e;let v1:RP X.K H1 (aP α1 ao) (.str cs) w:=v1;rw[RP]at v1;refine .inr (.inr ⟨cs,v1.1,q _ _ _ x1 r1 (λα2 aI H2 x2 _ _=>?_) (by simpa using v1.2)⟩);refine(λi hi=>by simpa[yl]using hi,λi x w H' hx ⟨iN,c,hc,hw⟩=>?_,λi hi=>by simpa[yl]using hi);subst iN;refine(bt.refl _,?_);rw[eC,hc]at hx;cases hx;rw[RP];exact(hw,by show 1<=a9;decide)
  |_=>cases e
def yK5{a:Expr}{ia:E}(hg:Gl X "range")(hm:X.mg "range" = aj)(ha:SE X C a ia)(hs:bA [a] X.env=[(false,eval a X.env)]):SI X C tg (.Call (.Name "range" p) [a] [] pos) (.range ia) :=
 PI.mono (yw5 hg hm (QI ha Ow hs) hs) λZ H R h_=>by
  let(env,O,st,xs,cb,ao,aD,e,q):=h_;rw[yj9]at e;let(v,y,aA,e1,hv,e):=ax.se e;refine(env,O,st,[v],aA,aD,by rw[tU,e1];rfl,λws H1 α1 x1 r1 pr=>?_);cases pr with
  |cons h t=>
   cases t;cases y with
   |int i=>
    let e:(if -1000000<=i/\i<=SZ then ax.ok ((cF i.toNat).map (λk:Nat=>PV.int (k:Int)),aj) aA else .stuck)=ax.ok (xs,cb) ao:=e
    by_cases hc:-1000000<=i/\i<=SZ
    .rw[if_pos hc]at e;cases e;let hi:=(h.view r1 hv).int;subst hi;let(c1,c2):=hc;unfold SZ at c2;let oz:((cF i.toNat).map (λk:Nat=>PV.int (k:Int))).length<=a9:=by
      let e:a9=16777216:=by decide
      rw[cy,Hz,e];omega
     refine(i,rfl,by omega,by omega,q _ _ _ x1 r1 (λα2 aI H2 x2 _ _=>?_) oz);refine(λk hk=>by simpa[uP]using hk,λk x w H' hx ⟨iN,lF⟩=>?_,λk hk=>by simpa[uP]using hk);subst iN lF;refine(bt.refl _,?_);let hk:k<i.toNat:=by
      let:=(dU.mp hx).1;simpa using this
     rw[eC,Hu hk]at hx;cases hx;rw[RP];simp
    .rw[if_neg hc]at e;cases e
   |_=>cases e
def tG(K:aQ)(t:Tg):TG:=λv Z H Q=>∃env O st x be,At K O st H env Z/\RP K H (aP O st) x v/\iq t (.p x) st env=aa be/\∀Z',At K O st H be Z'->Q Z' H
@[reducible] def SG(X:Cx)(tg:Expr)(t:Tg):Prop:=PG X tg (tG X.K t)
def PG.mono{t t':TG}(h:PG X tg t)(m:∀v Z H Q,t' v Z H Q->t v Z H Q):PG X tg t':=λae s Z H v u Q I r q=>h ae s Z H v u Q I r (m _ _ _ _ q)
def xc7(hN:X.N.Nodup)(hi:X.N[i]?=aa x)(hx:Loc X.env.scope x)(hf:X.fn x=true\/X.env.scope.names.lookup x=aa .local):SG X (.Name x pos) (.name i) :=
 PG.mono (Qy hN hi hx hf) λv Z H Q h_=>by
  let(env,O,st,x,be,aD,rp,e,q):=h_;cases e;exact q _ (aD.set rp)
def xz4{iter:Expr}{body:List bW}{it:It}{t:Tg}(hp:PassesOwn (aN X.prog X.w) X.A X.env X.xe)(hc:X.calm=true)(hi:SI X C tg iter it)(hg:SG X tg t)(hb:mr X C W body ib)
  (hs:∀x,BW iter X.env x=pure x):SS X C W (.For tg iter body [] pos) (.for t it ib) :=
 PS.mono (xu7 hp hc hi hg hb hs) λD Z H h_=>by
  let(env,O,st,fl,ao,aD,e,q):=h_;rw[xl2]at e;obtain⟨⟨xs,cb⟩,aA,e1,e⟩:=ax.bE e;refine(env,O,st,xs,cb,aA,aD,e1,λJ H1 α1 x1 r1 wk _=>?_);let e:kL (b_ C W ib) t cb xs env aA=.ok fl ao:=e
  letI Pv:Nat->L2.St->Hp->Prop:=λi Z H2=>∃bz α2 aI,At X.K α2 aI H2 bz Z/\bD X.K α1 aA H1 α2 aI H2/\kL (b_ C W ib) t cb (xs.drop i) bz aI=.ok fl ao
  refine(λi m Z H2=>m=xs.length-i/\i<=xs.length/\Pv i Z H2,⟨xs.length,by simp,ft _,env,α1,aA,aD.next x1 r1,.refl,e⟩,?_);rintro i m σ2 H2 ⟨rfl,vi,bz,α2,aI,eR,x2,e2⟩;by_cases cq:i<xs.length
  .rw[kO cq,kL]at e2;by_cases so:iA aI cb=true
   .rw[if_pos so]at e2;let wa:=wk α2 aI H2 x2.lk eR.rs so;refine .inr ⟨wa.go i cq,Pv (i+1),λσ3 H3 p3=>⟨xs.length-(i+1),by omega,rfl,cq,p3⟩,λw H3 hy=>?_⟩;let(s3,rp):=wa.qK i xs[i] w H3 (bY cq) hy;let x3:bD X.K α2 aI H2 α2 aI H3:=.of_same eR.rs s3;let k_:=eR.next x3 (eR.rs.same s3);cases qh:iq t (.p xs[i]) aI bz with
    |none=>rw[qh]at e2;cases e2
    |some kj=>
     rw[qh]at e2;let(f,d6,e4,e2):=ax.bE e2;refine(bz,α2,aI,xs[i],kj,k_,rp,qh,λσ3 yt=>?_);refine(kj,α2,aI,f,d6,yt,e4,?_);cases f with
     |next sg=>exact λσ5 H5 α5 x5 r_=>⟨sg,α5,d6,r_,x2.trans (x3.trans x5),e2⟩
     |ret v=>
      cases e2;exact λw H5 α5 x5 r5 rv=>q w H5 α5 (x1.trans (x2.trans (x3.trans x5))) r5 rv
   .rw[if_neg so]at e2;cases e2
  .let vh:xs.drop i=[]:=xy (by omega);rw[vh,kL]at e2;by_cases so:iA aI cb=true
   .rw[if_pos so]at e2;cases e2;exact .inl ⟨(wk α2 ao H2 x2.lk eR.rs so).stop i (by omega),q σ2 H2 α2 (x1.trans x2) eR⟩
   .rw[if_neg so]at e2;cases e2
end
def Fz{env:j9}(f:(Str×k6)->List (Str×aq)->fh (ForInStep (List (Str×aq))))
  (h1:∀x r c,x.2=.free->env.cells.lookup x.1=aa c->f x r=pure (.yield ((x.1,c)::r))) (h2:∀x r,x.2≠.free->f x r=pure (.yield r)) :
  ∀(l:List (Str×k6)) (acc:List (Str×aq)),(∀x∈l,x.2=.free->∃c,env.cells.lookup x.1=aa c)->(∀x c,acc.lookup x=aa c->env.cells.lookup x=aa c) ->
   ∃cl,forIn l acc f=pure cl/\(∀x c,cl.lookup x=aa c->env.cells.lookup x=aa c)/\(∀x∈l,x.2=.free->∃c,cl.lookup x.1=aa c)/\∀x,(∃c,acc.lookup x=aa c)->∃c,cl.lookup x=aa c
 |[],acc,_,ha=>⟨acc,rfl,ha,λx hx=>absurd hx (by simp),λx h=>h⟩
 | y::r,acc,hl,ha=>by
  by_cases hy:y.2=.free
  .let(c,hc):=hl y gy hy;let lx:∀x c',((y.1,c)::acc).lookup x=aa c'->env.cells.lookup x=aa c':=λx c' e=>by
    rw[j6]at e;split at e
    .rename_i hx
     cases e;let:x=y.1:=by simpa using hx
     rw[this];exact hc
    .exact ha x c' e
   let(cl,g1,g2,g3,g4):=Fz f h1 h2 r ((y.1,c)::acc) (λx hx=>hl x (b5 _ hx)) lx;let keep:∀x,(∃c',acc.lookup x=aa c')->∃c',((y.1,c)::acc).lookup x=aa c':=λx h_=>by
    let(c',e):=h_;rw[j6];split
    .exact(c,rfl)
    .exact(c',e)
   refine(cl,?_,g2,λx hx hf=>?_,λx hx=>g4 x (keep x hx))
   .rw[rG,h1 y acc c hy hc];exact g1
   .rcases bN.mp hx with e |hx
    .subst e;exact g4 _ ⟨c,by rw[j6];simp⟩
    .exact g3 x hx hf
  .let(cl,g1,g2,g3,g4):=Fz f h1 h2 r acc (λx hx=>hl x (b5 _ hx)) ha;refine(cl,?_,g2,λx hx hf=>?_,g4)
   .rw[rG,h2 y acc hy];exact g1
   .rcases bN.mp hx with e |hx
    .subst e;exact absurd hf hy
    .exact g3 x hx hf
variable{scope:cB}
def yj3{env:j9}(h:∀x∈scope.names,x.2=.free->∃c,env.cells.lookup x.1=aa c):
  ∃cl,closureFor scope env=pure cl/\(∀x c,cl.lookup x=aa c->env.cells.lookup x=aa c)/\∀x∈scope.names,x.2=.free->∃c,cl.lookup x.1=aa c:=by
 unfold closureFor;obtain ⟨cl,g1,g2,g3,_⟩:=Fz (env:=env) (λ(x:Str×k6)(r:List (Str×aq))=>(match x with
  | (name,kind)=>if(kind == .free)=true then(do
    let c <-cellOf env name
    pure (ui ((name,c)::r)))else pure (ui r):fh (ForInStep (List (Str×aq)))))
  (λx r c hx hc=>by
   let(n,k):=x;simp only at hx hc ⊢;subst hx;unfold cellOf;rw[hc];rfl)
  (λx r hx=>by
   let(n,k):=x;simp only at hx ⊢;rw[if_neg (by simpa using hx)])
  scope.names [] h (λx c e=>by simp at e)
 refine(cl,?_,g2,g3);show(forIn scope.names [] _ >>= λcs=>pure cs)=pure cl;rw[show(forIn scope.names ([]:List (Str×aq)) _)=pure cl from g1];rfl
section
variable{X:Cx}{ae:List (aq×aV)}{Z:L2.St}{H:Hp}{s:au}{scope:cB}{N:List Str}{cl:List (Str×aq)}{fp:List aq}{bc:List Nat}
end
section
variable{prog:Program}{w:aY}{A:bb}{R:Result->au->Prop}{s:au}
def yp3{bU target iter:Expr}{ifs:List Expr}{pos:aU}{it acc:ak}{env:j9}(I:Nat->au->Prop)
  (turn:∀n s,I n s->aG (aN prog w) A (pyNext it) (λr s₁=>match r with
   |none=>R (.ok .next) s₁
   |some v=>aG (aN prog w) A (BZ target it v) (λ_ My=>aG (aN prog w) A (assign target env v) (λ_ s₂=>
     aG (aN prog w) A (forIn ifs true λc r=>if r=true then do let ok <-isTrue c env (eval c env);pure (ui ok)else pure (ui r)) (λok s₃ =>
      if ok=true then aG (aN prog w) A (eval bU env) (λx s₄ =>
       aG (aN prog w) A (call (.builtin "list.append") [acc,x]) (λ_ s₅=>∃m,m<n/\I m s₅) (λ_ _=>False) s₄) (λ_ _=>False) s₃
      else ∃m,m<n/\I m s₃) (λ_ _=>False) s₂) (λ_ _=>False) My) (λ_ _=>False) s₁) (λ_ _=>False) s)
  (n:Nat) (h:I n s):nV (aN prog w) A (.compLoop (.ListComp bU [⟨target,iter,ifs,0⟩] scope pos) 0 it acc env) R s:=by
 refine codeAny_loop rfl I (λn s hI=>?_) n h;show aG _ A ((compTurn (.ListComp bU [⟨target,iter,ifs,0⟩] scope pos) 0 it acc env).onRaise (λx=>do noteFrame x env;theTreesLotGoes x)) _ _ s
 refine wpAny_noted ?_;rw[compTurn_list];refine aE (I0 (aE (k7 (turn n s hI) (λr s₁ h₁=>?_) λ_ _ h'=>h'.elim)));cases r with
 |none=>exact aX h₁
 |some v=>
  refine aE (k7 h₁ (λ_ My Yd=>?_) λ_ _ h'=>h'.elim);refine aE (k7 Yd (λ_ s₂ h₂=>aE (k7 h₂ (λok s₃ h₃=>?_) λ_ _ h'=>h'.elim)) λ_ _ h'=>h'.elim);cases ok with
  |false=>exact aX ⟨rfl,h₃⟩
  |true=>
   exact aE (aE (k7 h₃ (λx s₄ h₄=>aE (k7 h₄ (λ_ s₅ h₅=>aX (aX ⟨rfl,h₅⟩)) λ_ _ h'=>h'.elim)) λ_ _ h'=>h'.elim))
end
def n8(bc:List Nat)(n:Nat)(Z:L2.St):L2.St:=bc.map (λi=>(Z[i]?).join)++cG n aj
def qI(K:aQ)(bc:List Nat)(n:Nat)(wi:TI)(g:TG)(tc:TT)(te:TE):TE:=λZ H Q=>wi Z H λJ H1=>∀D,H1 D=aj->K.lookup D=aj->∃W:Nat->Nat->L2.St->Hp->List V->Prop,
 (∃m,W 0 m (n8 bc n Z) (upd H1 D (.ai [])) []) /\
 ∀ i m Z' H' ys,W i m Z' H' ys->H' D=aa (.ai ys)/\((J.stop i H'/\Q (.ref D) H')\/(J.go i H'/\ys.length<a9/\∀x H2,J.qK i H' x H2->g x Z' H2 λσ2 H3=>tc σ2 H3 λb H4 =>
  if b=true then te σ2 H4 λy H5=>H5 D=aa (.ai ys)/\∃m',m'<m/\W (i+1) m' σ2 (upd H5 D (.ai (ys++[y]))) (ys++[y])else ∃m',m'<m/\W (i+1) m' σ2 H4 ys))
def rW(X:Cx)(ifs:List Expr)(t:TT):Prop :=
 ∀(ae:List (aq×aV)) (s:au) (Z:L2.St) (H:Hp) (Q:Bool->Hp->Prop),Inv X ae Z H s->t Z H Q ->
  aG (aN X.prog X.w) X.A (forIn ifs true λc r=>if r=true then do let ok <-isTrue c X.env (eval c X.env);pure (ui ok)else pure (ui r)) (TP X ae Z Q) X.xe s
def xb5:rW X [] (λ_ H Q=>Q true H):=λae s Z H Q I h=>wpAny_tests_nil ⟨H,I,h⟩
def xb6{t:TT}(h:PT X c t):rW X [c] t:=λae s Z H Q I q=>wpAny_tests_one (h ae s Z H Q I q)
section
variable{X:Cx}{bU iter tg:Expr}{ifs:List Expr}{scope:cB}{pos:aU}{N:List Str}{bc:List Nat}{n:Nat}{wi:TI}{g:TG}{tc:TT}{te:TE}
def w6{l:List (Str×k6)}{k:k6}(h:l.lookup x=aa k):(x,k)∈l:=uH h
end
variable{D:aq}{ys:List V}
section
variable{X:Cx}{C:a8}{bU iter tg:Expr}{dj:E}{it:It}{t:Tg}{scope:cB}{pos:aU}{N:List Str}{bc:List Nat}{n:Nat}
def Al.hold(O:Al)(D:aq):Al:=⟨O.adr,λa=>a=D\/O.bq a⟩
def RQ:aP (O.hold D) st a↔a=D\/aP O st a:=by
 unfold aP Al.hold;simp only;constructor
 .rintro ((h |h)|h)
  .exact .inl h
  .exact .inr (.inl h)
  .exact .inr (.inr h)
 .rintro (h |h |h)
  .exact .inl (.inl h)
  .exact .inl (.inr h)
  .exact .inr h
def FV{o:HO}(hD:H D=aj)(hK:K.lookup D=aj):
  (∀a vs,bR K H a vs->bR K (upd H D o) a vs)/\∀a vs,bL K H a vs->¬aP O st a->bL K (upd H D o) a vs/\¬aP (O.hold D) st a:=by
 let s:=fB hD o;refine(λa vs h=>bR.same s h,λa vs h n=>⟨bt.seq s h,λl=>?_⟩);rcases RQ.mp l with e |e
 .subst e;rcases h with(h |⟨_,h⟩)|⟨_,_,_,h,_⟩
  .rw[hD]at h;cases h
  .rw[hD]at h;cases h
  .rw[hK]at h;cases h
 .exact n e
def yE7(r:bu K O st H)(hD:H D=aj)(hK:K.lookup D=aj):bu K (O.hold D) st (upd H D (.ai vs)):=by
 let(mt,ml):=FV (O:=O) (st:=st) (o:=.ai vs) hD hK;let s:=fB hD (.ai vs);refine(r.len,λm xs h=>?_,λm av h=>?_,λm av h=>?_,r.inj,λa h=>?_,λm a o h1 h2 h3 hr=>?_,λa h=>?_)
 .let(a,ws,h1,h2,h3):=r.ai m xs h;exact(a,ws,h1,s _ _ h2,aC.mono mt ml _ _ h3)
 .let(a,ws,h1,h2,h3):=r.bB m av h;exact(a,ws,h1,s _ _ h2,bS.mono mt ml _ _ h3)
 .let(a,ws,h1,h2,h3):=r.dG m av h;exact(a,ws,h1,s _ _ h2,eO.mono mt ml _ _ h3)
 .rcases RQ.mp h with e |e
  .subst e;exact hK
  .exact r.nk a e
 .rcases hr with e |e
  .subst e;rcases r.live (.inr ⟨m,o,h1,h2,h3⟩)with⟨_,z⟩|⟨_,z⟩|⟨_,z⟩<;>rw[hD]at z<;>cases z
  .exact r.gF m a o h1 h2 h3 e
 .rcases h with e |e
  .subst e;exact(vs,dZ)
  .let(ws,h1):=r.bq a e;exact(ws,s _ _ h1)
def RJ{zs:List V}(hr:O.bq D)(hH:H D=aa (.ai ys))(hK:K.lookup D=aj):
  (∀a vs,bR K H a vs->bR K (upd H D (.ai zs)) a vs)/\∀a vs,bL K H a vs->¬aP O st a->bL K (upd H D (.ai zs)) a vs/\¬aP O st a:=by
 refine(λa vs h=>?_,λa vs h n=>⟨?_,n⟩)
 .rcases h with(h |⟨o,h⟩)|h
  .exact .inl (.inl (by rw[cL (by rintro rfl;rw[hH]at h;cases h)];exact h))
  .exact .inl (.inr ⟨o,by rw[cL (by rintro rfl;rw[hH]at h;cases h)];exact h⟩)
  .exact .inr h
 .let ne:a≠D:=by rintro rfl;exact n (.inl hr)
  rcases h with(h |⟨o,h⟩)|h
  .exact .inl (.inl (by rw[cL ne];exact h))
  .exact .inl (.inr ⟨o,by rw[cL ne];exact h⟩)
  .exact .inr h
def yE4{zs:List V}(r:bu K O st H)(hr:O.bq D)(hH:H D=aa (.ai ys)):bu K O st (upd H D (.ai zs)):=by
 let hK:=r.nk D (.inl hr);let(mt,ml):=RJ (K:=K) (O:=O) (st:=st) (zs:=zs) hr hH hK;let ne:∀{m:Nat}{a:aq}{o:b6},O.adr[m]?=aa a->aW st m=aa o->o≠.dead->a≠D:=λh1 h2 h3 e=>r.gF _ _ _ h1 h2 h3 (e▸hr);refine(r.len,λm xs h=>?_,λm av h=>?_,λm av h=>?_,r.inj,r.nk,r.gF,λa h=>?_)
 .let(a,ws,h1,h2,h3):=r.ai m xs h;exact(a,ws,h1,by rw[cL (ne h1 h (by intro z;cases z))];exact h2,aC.mono mt ml _ _ h3)
 .let(a,ws,h1,h2,h3):=r.bB m av h;exact(a,ws,h1,by rw[cL (ne h1 h (by intro z;cases z))];exact h2,bS.mono mt ml _ _ h3)
 .let(a,ws,h1,h2,h3):=r.dG m av h;exact(a,ws,h1,by rw[cL (ne h1 h (by intro z;cases z))];exact h2,eO.mono mt ml _ _ h3)
 .by_cases e:a=D
  .subst e;exact(zs,dZ)
  .let(ws,h1):=r.bq a h;exact(ws,by rw[cL e];exact h1)
end
def Al.as(O:Al)(ρ:aq->Prop):Al:=⟨O.adr,ρ⟩
def tE{ρ:aq->Prop}(hs:∀a,ρ a->O.bq a)(h:aP (O.as ρ) st a):aP O st a:=by
 rcases h with h |h
 .exact .inl (hs a h)
 .exact .inr h
def bu.as{ρ:aq->Prop}(r:bu K O st H)(hs:∀a,ρ a->O.bq a):bu K (O.as ρ) st H:=by
 let ml:∀a vs,bL K H a vs->¬aP O st a->bL K H a vs/\¬aP (O.as ρ) st a:=λa vs h n=>⟨h,λl=>n (tE hs l)⟩;refine(r.len,λm xs h=>?_,λm av h=>?_,λm av h=>?_,r.inj,λa h=>r.nk a (tE hs h),λm a o h1 h2 h3 h4=>r.gF m a o h1 h2 h3 (hs a h4),λa h=>r.bq a (hs a h))
 .let(a,ws,h1,h2,h3):=r.ai m xs h;exact(a,ws,h1,h2,aC.mono (λ_ _ h=>h) ml _ _ h3)
 .let(a,ws,h1,h2,h3):=r.bB m av h;exact(a,ws,h1,h2,bS.mono (λ_ _ h=>h) ml _ _ h3)
 .let(a,ws,h1,h2,h3):=r.dG m av h;exact(a,ws,h1,h2,eO.mono (λ_ _ h=>h) ml _ _ h3)
variable{cond:Option E}{aA:ay}
section
variable{X:Cx}{C:a8}{bU iter tg:Expr}{ifs:List Expr}{dj:E}{it:It}{t:Tg}{scope:cB}{pos:aU}{N:List Str}{bc:List Nat}{n:Nat}
def xj2(a:At K O st H env Z):At K O st H (nJ bc n env) (n8 bc n Z):=by
 refine(by simp[nJ,n8],a.rs,λj v h=>?_);unfold nJ at h;unfold n8;by_cases hj:j<bc.length
 .rw[jv (by simpa using hj),eC,bY hj]at h ⊢;let h:(env[bc[j]]?).join=aa v:=dE h;cases he:env[bc[j]]? with
  |none=>rw[he]at h;cases h
  |some o=>
   rw[he]at h;let h:o=aa v:=h;subst h;let(w,h1,h2):=a.env _ v he;exact(w,by show aa ((Z[bc[j]]?).join)=aa (aa w);rw[h1];rfl,h2)
 .rw[uo (by simpa using hj),Bu]at h;split at h<;>cases h
abbrev oJ(K:aQ)(C:a8):Option E->TT
 |none=>λ_ H Q=>Q true H
 |some c=>tT K C c
abbrev sX(C:a8):Option E->Option (Env->ay->ax aJ)
 |none=>aj
 |some c=>aa (az C c)
def yC1{cb:Option (Nat×List PV)}{acc:List PV}:fV C dj cond t cb xs env st acc=compLoop (az C dj) (sX C cond) t cb xs env st acc:=by cases cond<;>rfl
def OV{zs:List PV}{cb:Option (Nat×List PV)}(aD:At X.K O st H env Z)(e1:iI C it env st=.ok (xs,cb) aA)(e2:fV C dj cond t cb xs (nJ bc n env) aA []=.ok zs ao)
  (fin:∀D ys α1 aA H1 α2 H2,bD X.K O st H α1 aA H1->Lk X.K α1 aA H1 α2 ao H2->bu X.K α2 ao H2->α2.bq=(α1.hold D).bq->¬α1.bq D->H2 D=aa (.ai ys)->aC X.K H2 (aP α2 ao) zs ys->Q (.ref D) H2) :
  qI X.K bc n (tI X.K C it) (tG X.K t) (oJ X.K C cond) (tP X.K C dj) Z H Q:=by
 refine(env,O,st,xs,cb,aA,aD,e1,λJ H1 α1 x1 r1 wk hz D hD hK=>?_);rw[yC1]at e2;let k9:=aD.next x1 r1;let nD:¬α1.bq D:=λh=>by let(vs,z):=r1.bq D h;rw[hD]at z;cases z
 refine(λi m Z' H' ys=>m=xs.length-i/\i<=xs.length/\H' D=aa (.ai ys)/\∃bz α2 aI acc,At X.K α2 aI H' bz Z'/\(α2.bq=(α1.hold D).bq)/\Lk X.K α1 aA H1 α2 aI H'/\aC X.K H' (aP α2 aI) acc ys/\acc.length<=i /\
  compLoop (az C dj) (sX C cond) t cb (xs.drop i) bz aI acc=.ok zs ao,⟨xs.length,by simp,ft _,dZ,nJ bc n env,α1.hold D,aA,[],?_,rfl,?_,by rw[aC],bF _,e2⟩,?_)
 .let rh:=yE7 (vs:=[]) k9.rs hD hK;let(mt,ml):=FV (O:=α1) (st:=aA) (o:=.ai []) hD hK;let a2:At X.K (α1.hold D) aA (upd H1 D (.ai [])) env Z:=⟨k9.len,rh,λi v h=>by
   let(w,h1,h2):=k9.env i v h;refine(w,h1,?_);cases v with
   |p x=>exact RP.mono mt ml _ _ h2
   |ref k=>exact h2⟩
  exact xj2 a2
 .let(mt,ml):=FV (K:=X.K) (O:=α1) (st:=aA) (o:=.ai []) hD hK;exact(λ_ _ h=>h,mt,ml,λa h=>.inr h,λa h=>by rw[cL (by rintro rfl;exact nD h)])
 rintro i m σ2 H2 ys ⟨rfl,vi,jG,bz,α2,aI,acc,eR,jK,lk,cE,yB,e3⟩;let oi:α2.bq D:=by rw[jK];exact .inl rfl
 refine(jG,?_);let kE:∀a,α1.bq a->α2.bq a:=lk.sub;let exB:bD X.K α1 aA H1 (α2.as α1.bq) aI H2:=⟨lk.pre,lk.af,λa vs h nn=>let⟨h1,n1⟩:=lk.ai a vs h nn;⟨h1,λl=>n1 (tE kE l)⟩,rfl,lk.raw⟩;let rsB:bu X.K (α2.as α1.bq) aI H2:=eR.rs.as kE;by_cases cq:i<xs.length
 .rw[kO cq,compLoop]at e3;by_cases so:iA aI cb=true
  .rw[if_pos so]at e3;let wa:=wk α2 aI H2 lk eR.rs so;let lyl:acc.length=ys.length:=cE.length;refine .inr ⟨wa.go i cq,by omega,λw H3 hy=>?_⟩;let(s3,rp):=wa.qK i xs[i] w H3 (bY cq) hy;let x3:bD X.K α2 aI H2 α2 aI H3:=.of_same eR.rs s3;let k_:=eR.next x3 (eR.rs.same s3);let LB:=lk.step x3;let Mm:=x3.cE cE;let WU:H3 D=aa (.ai ys):=s3 _ _ jG;cases qh:iq t (.p xs[i]) aI bz with
   |none=>rw[qh]at e3;cases e3
   |some kj=>
    rw[qh]at e3;refine(bz,α2,aI,xs[i],kj,k_,rp,qh,λσ3 yt=>?_)
    let go:∀{b:Bool}{d6:ay}{H4:Hp}{α4:Al},bD X.K α2 aI H3 α4 d6 H4->bu X.K α4 d6 H4 ->
      (if b then(az C dj kj d6).cg λy jM=>compLoop (az C dj) (sX C cond) t cb (xs.drop (i+1)) kj jM (acc++[y])else compLoop (az C dj) (sX C cond) t cb (xs.drop (i+1)) kj d6 acc)=.ok zs ao ->
      if b=true then tP X.K C dj σ3 H4 (λy H5=>H5 D=aa (.ai ys)/\∃m',m'<xs.length-i/\(m'=xs.length-(i+1)/\i+1<=xs.length/\(upd H5 D (.ai (ys++[y]))) D=aa (.ai (ys++[y]))/\∃bz α2 aI acc,At X.K α2 aI (upd H5 D (.ai (ys++[y]))) bz σ3/\(α2.bq=(α1.hold D).bq)/\Lk X.K α1 aA H1 α2 aI (upd H5 D (.ai (ys++[y])))/\aC X.K (upd H5 D (.ai (ys++[y]))) (aP α2 aI) acc (ys++[y])/\acc.length<=i+1 /\
        compLoop (az C dj) (sX C cond) t cb (xs.drop (i+1)) bz aI acc=.ok zs ao))
      else ∃m',m'<xs.length-i/\(m'=xs.length-(i+1)/\i+1<=xs.length/\H4 D=aa (.ai ys)/\∃bz α2 aI acc,At X.K α2 aI H4 bz σ3/\(α2.bq=(α1.hold D).bq)/\Lk X.K α1 aA H1 α2 aI H4/\aC X.K H4 (aP α2 aI) acc ys/\acc.length<=i+1 /\
        compLoop (az C dj) (sX C cond) t cb (xs.drop (i+1)) bz aI acc=.ok zs ao):=by
     intro b d6 H4 α4 x4 r4 e4;let Cm:=yt.next x4 r4;let J5:H4 D=aa (.ai ys):=(x4.raw D oi).trans WU;cases b with
     |false=>exact(_,by omega,rfl,cq,J5,kj,α4,d6,acc,Cm,x4.bq.trans jK,LB.step x4,x4.cE Mm,by omega,e4)
     |true=>
      let(y0,jM,e5,e6):=ax.mz e4;refine(kj,α4,d6,_,jM,Cm,e5,λy H5 α5 x5 r5 rv=>?_);let Dp:α5.bq D:=by rw[x5.bq,x4.bq];exact oi
      let CT:H5 D=aa (.ai ys):=(x5.raw D (by rw[x4.bq];exact oi)).trans J5;let r_:=Cm.next x5 r5;let vH:=(LB.step x4).step x5;let(mt,ml):=RJ (K:=X.K) (O:=α5) (st:=jM) (zs:=ys++[y]) Dp CT (r5.nk D (.inl Dp));refine(CT,_,by omega,rfl,cq,dZ,kj,α5,jM,acc++[y0],⟨r_.len,yE4 r5 Dp CT,λk v h=>?_⟩,x5.bq.trans (x4.bq.trans jK),⟨vH.pre,λa vs h=>mt a vs (vH.af a vs h),λa vs h nn=>let⟨h1,n1⟩:=vH.ai a vs h nn;ml a vs h1 n1,vH.sub,λa h=>?_⟩,?_,by simp;omega,e6)
      .let(w',h1,h2):=r_.env k v h;refine(w',h1,?_);cases v with
       |p z=>exact RP.mono mt ml _ _ h2
       |ref _=>exact h2
      .rw[cL (by rintro rfl;exact nD h)];exact vH.raw a h
      .exact aC.mono mt ml _ _ ((x5.cE (x4.cE Mm)).snoc rv)
    cases cond with
    |none=>exact go (b:=true) .refl k_.rs e3
    |some c=>
     let(b,d6,e4,e5):=ax.ki e3;exact(kj,α2,aI,b,d6,yt,e4,λH4 α4 x4 r4=>go x4 r4 e5)
  .rw[if_neg so]at e3;cases e3
 .let vh:xs.drop i=[]:=xy (by omega);rw[vh,compLoop]at e3;by_cases so:iA aI cb=true
  .rw[if_pos so]at e3;cases e3;exact .inl ⟨(wk α2 ao H2 lk eR.rs so).stop i (by omega),fin D ys α1 aA H1 α2 H2 x1 lk eR.rs jK nD jG cE⟩
  .rw[if_neg so]at e3;cases e3
def yC2{α1:Al}{H1:Hp}{zs:List PV}(x1:bD K O st H α1 aA H1)(lk:Lk K α1 aA H1 α2 ao H2)(r2:bu K α2 ao H2)(jK:α2.bq=(α1.hold D).bq)(nD:¬α1.bq D)(jG:H2 D=aa (.ai ys))(cE:aC K H2 (aP α2 ao) zs ys):
  bD K O st H (α2.as α1.bq) ao H2/\bu K (α2.as α1.bq) ao H2/\RV K (α2.as α1.bq) ao H2 (.p (.ai zs)) (.ref D):=by
 let oi:α2.bq D:=by rw[jK];exact .inl rfl
 let kE:∀a,α1.bq a->α2.bq a:=lk.sub;refine(x1.trans ⟨lk.pre,lk.af,λa vs h nn=>let⟨h1,n1⟩:=lk.ai a vs h nn;⟨h1,λl=>n1 (tE kE l)⟩,rfl,lk.raw⟩,r2.as kE,?_);rw[RV,RP];refine(D,ys,rfl,bL.of jG,λl=>?_,aC.mono (λ_ _ h=>h) (λa vs h nn=>⟨h,λl=>nn (tE kE l)⟩) _ _ cE);rcases l with l |⟨k,o,l1,l2,l3⟩
 .exact nD l
 .exact r2.gF k D o l1 l2 l3 oi
def RF(h:tP X.K C (.comp false dj t it cond bc n) Z H Q):qI X.K bc n (tI X.K C it) (tG X.K t) (oJ X.K C cond) (tP X.K C dj) Z H Q:=by
 let(env,O,st,v,ao,aD,e,q):=h;rw[P9]at e;obtain⟨⟨xs,cb⟩,aA,e1,e⟩:=ax.bE e;let(zs,aI,e2,e):=ax.bE e;simp only[mk,eN,if_false]at e;cases e;refine OV aD e1 e2 λD ys α1 aA H1 α2 H2 x1 lk r2 jK nD jG cE=>?_;let(a,b,c):=yC2 x1 lk r2 jK nD jG cE;exact q _ H2 _ a b c
end
def je(K:aQ)(P:List FD)(W d k:Nat)(np:Nat):Sp:=λvs H Q _=>vs.length=np/\∃O st us v ao,bu K O st H/\cn (RV K O st H) us vs/\a0 P W d k us st=.ok v ao /\
 ∀w H' O',bD K O st H O' ao H'->bu K O' ao H'->RV K O' ao H' v w->Q w H'
def Al.cut(O:Al)(k:Nat):Al:=⟨O.adr.take k,O.bq⟩
def qV{k:Nat}{o:b6}(h:aW (st.take k) n=aa o):n<k/\aW st n=aa o:=by
 unfold aW at h ⊢;rw[xE]at h;split at h
 .exact(by assumption,h)
 .cases h
def Az{l:List aq}{k:Nat}(h:(l.take k)[n]?=aa a):l[n]?=aa a:=by
 rw[xE]at h;split at h
 .exact h
 .cases h
def AF{k:Nat}(h:aP (O.cut k) (st.take k) a):aP O st a:=by
 rcases h with h |⟨n,o,h1,h2,h3⟩
 .exact .inl h
 .exact .inr ⟨n,o,Az h1,(qV h2).2,h3⟩
def bu.cut(r:bu K O st H)(k:Nat):bu K (O.cut k) (st.take k) H:=by
 let ml:∀a vs,bL K H a vs->¬aP O st a->bL K H a vs/\¬aP (O.cut k) (st.take k) a:=λa vs h n=>⟨h,λl=>n (AF l)⟩;let up:∀{n:Nat}{a:aq},n<k->O.adr[n]?=aa a->(O.adr.take k)[n]?=aa a:=λhn h=>by rw[xE,if_pos hn];exact h
 refine(?_,λm xs h=>?_,λm av h=>?_,λm av h=>?_,λn m a o o' cj h1 h2 h3 h4=>r.inj n m a o o' cj (Az h1) (Az h2) (qV h3).2 (qV h4).2,λa h=>r.nk a (AF h),λm a o h1 h2 h3=>r.gF m a o (Az h1) (qV h2).2 h3,r.bq)
 .show(O.adr.take k).length=(st.take k).length;rw[l5,l5,r.len]
 .let(hm,h):=qV h;let(a,ws,h1,h2,h3):=r.ai m xs h;exact(a,ws,up hm h1,h2,aC.mono (λ_ _ h=>h) ml _ _ h3)
 .let(hm,h):=qV h;let(a,ws,h1,h2,h3):=r.bB m av h;exact(a,ws,up hm h1,h2,bS.mono (λ_ _ h=>h) ml _ _ h3)
 .let(hm,h):=qV h;let(a,ws,h1,h2,h3):=r.dG m av h;exact(a,ws,up hm h1,h2,eO.mono (λ_ _ h=>h) ml _ _ h3)
def bD.cut(e:bD K O st H O' ao H')(hl:O.adr.length=st.length):bD K O st H (O'.cut st.length) (ao.take st.length) H':=by
 refine(λn a h=>?_,e.af,λa vs h n=>let⟨h1,n1⟩:=e.ai a vs h n;⟨h1,λl=>n1 (AF l)⟩,e.bq,e.raw);let hn:n<st.length:=by rw[<-hl];exact(dU.mp h).1
 show(O'.adr.take st.length)[n]?=aa a;rw[xE,if_pos hn];exact e.pre n a h
def FI{O:Type}{F:O->β->Prop}{a:List O}{b:List β}(h:cn F a b):a.length=b.length:=BO h
variable{N:List Str}
def yB2:∀{us:List aJ}{vs:List V},bu K O st H->cn (RV K O st H) us vs->At K O st H (us.map aa++cG (N.length-us.length) aj) (L2.start N vs):=by
 intro us vs r p;let hl:=FI p;refine(by unfold L2.start;simp[hl],r,λi v h=>?_);let get:∀{us:List aJ}{vs:List V}{i:Nat}{v:aJ},cn (RV K O st H) us vs->us[i]?=aa v->∃w,vs[i]?=aa w/\RV K O st H v w:=by
  intro us vs i v p;induction p generalizing i with
  |nil=>intro h;simp at h
  |cons q t ih=>
   intro h;cases i with
   |zero=>simp at h;subst h;exact(_,rfl,q)
   |succ i=>simpa using ih (by simpa using h)
 by_cases hi:i<us.length
 .rw[jv (by simpa using hi),eC,bY hi]at h;cases h;let(w,h1,h2):=get p (bY hi);refine(w,?_,h2);unfold L2.start;rw[jv (by rw[cy];lia),eC,h1];rfl
 .rw[uo (by simpa using hi),Bu]at h;split at h<;>cases h
variable{f:aq}{fd:j_}{ps:List Str}
section
variable{P:Program}{w:aY}{K:aQ}{mg:Str->Option ak}{base:aT}{PR:List FD}{W d k:Nat}
def Qc:gc P w K mg base gU 0 f fd ps (je K PR W 0 k ps.length):=by
 refine(λvs H Q E h=>h.1,λA outer s H args us vs Q E _ _ _ _ h=>?_);let(_,O,st,MN,v,ao,_,_,e,_):=h;cases e
def yU5{qual:Str}{st:bW}(F:mo K x qual st f fd)(S:wB N ps (gN st))(hP:PR[k]?=aa ⟨ps.length,N.length,ib⟩)
  (hb:∀(cdv:ak)(A:bb)(outer:List j9)(s:au)(H:Hp)(E:XK),gf d (A.deeper (md qual (gN st) s.heap.objs.size f cdv)) ->
   mr (qF gU P w K mg base N qual (gN st) f cdv A outer s H E).vO (a0 PR W d) W (lV st) ib):gc P w K mg base gU (d+1) f fd ps (je K PR W (d+1) k ps.length):=by
 refine F.ok S (λvs H Q E h=>h.1) λcdv A outer s H vs Q E hr h=>⟨_,hb cdv A outer s H E hr,?_⟩;let(hl,O,st0,us,v,ao,r,pr,e,q):=h;let om:us.length=ps.length:=by rw[FI pr,hl]
 rw[aS hP (by exact om)]at e;let(fl,aA,e1,e2):=ax.bE e;let Jl:=yB2 (N:=N) r pr;rw[om]at Jl;refine(_,O,st0,fl,aA,Jl,e1,?_);cases fl with
 |next be=>
  intro Z' H' O' x1 k9;cases e2;exact q _ H' (O'.cut st0.length) (x1.cut r.len) (k9.rs.cut _) (by rw[RV,RP])
 |ret u=>
  intro w1 H' O' x1 r1 rv;rw[FZ]at e2;cases e2;cases v with
  |p y=>exact q _ H' (O'.cut st0.length) (x1.cut r.len) (r1.cut _) (RP.mono (λ_ _ h=>h) (λa vs h n=>⟨h,λl=>n (AF l)⟩) _ _ rv)
  |ref m=>
   unfold ng at q;by_cases hm:m<st0.length
   .simp only[hm,if_true]at q;let(a,h1,h2):=rv;exact q _ H' (O'.cut st0.length) (x1.cut r.len) (r1.cut _) ⟨a,h1,by show(O'.adr.take st0.length)[m]?=aa a;rw[xE,if_pos hm];exact h2⟩
   .simp only[hm,if_false]at q;exact q _ H' O' x1 r1 rv
end
section
variable{X:Cx}{PR:List FD}{W d k:Nat}{e:Expr}{es:List Expr}{bx:List E}{pos p:aU}
def xc3(F:gc X.prog X.w X.K X.mg X.base gU d f fd ps (je X.K PR W d k ps.length))(hr:gf d X.A)(hg:Gl X x)(hm:X.mg x=aa (.ref f))(hk:pU X.K (.ref f)=true)(hb:Binds X.K fd ps [])
  (ha:SA X (a0 PR W d) (e::es) bx) (hn:bx.length=ps.length) (gY:(x==("__debug__" : Str))=false) (he:bA (e::es) X.env=(false,eval e X.env)::bA es X.env) (dH:(dW pos (bA es X.env)).any (·.1)=false) :
  SE X (a0 PR W d) (.Call (.Name x p) (e::es) [] pos) (.call k bx) :=
 PE.mono (xa3 F hr hg hm hk hb .nil NP ha gY he dH) λZ H Q h_=>by
  let(env,O,st,v,ao,aD,e,q):=h_;rw[P8]at e;let(vs,aA,e1,e):=ax.bE e;refine(env,O,st,vs,aA,aD,e1,λws H1 α1 x1 r1 pr=>?_);show je X.K PR W d k ps.length (ws++[]) H1 Q E0;rw[lZ];let lv:∀{bx:List E}{env:Env}{st ao:ay}{vs:List aJ},fG (a0 PR W d) bx env st=.ok vs ao->vs.length=bx.length:=by
   intro bx;induction bx with
   |nil=>intro env st ao vs h;rw[rf]at h;cases h;rfl
   |cons i r ih=>
    intro env st ao vs h;rw[tU]at h;let(x,aA,e1,h):=ax.bE h;let(ys,aI,e2,h):=ax.bE h;cases h;simp[ih e2]
  exact(by rw[<-FI pr,lv e1,hn],α1,aA,vs,v,ao,r1,pr,e,λw H2 α2 x2 r2 rv=>q w H2 α2 (x1.trans x2) r2 rv)
end
variable{lv:aq->Prop}
section
variable{K:aQ}{O:Al}{st:ay}{H:Hp}{n:Nat}{a:aq}{o o':b6}
def gM{m:Nat}{x:b6}(h:aW (st.set n o') m=aa x):(m=n/\x=o')\/(m≠n/\aW st m=aa x):=by
 by_cases hm:m=n
 .subst hm;let hl:m<st.length:=by let:=pj h;simpa using this
  rw[t5 hl]at h;cases h;exact .inl ⟨rfl,rfl⟩
 .rw[G2 hm]at h;exact .inr ⟨hm,h⟩
def Pf(ho:aW st n=aa o)(h1:o≠.dead)(h2:o'≠.dead){b:aq}:aP O (st.set n o') b↔aP O st b:=by
 constructor
 .rintro (h |⟨m,x,e1,e2,e3⟩)
  .exact .inl h
  .rcases gM e2 with⟨rfl,rfl⟩|⟨_,e2⟩
   .exact .inr ⟨m,o,e1,ho,h1⟩
   .exact .inr ⟨m,x,e1,e2,e3⟩
 .rintro (h |⟨m,x,e1,e2,e3⟩)
  .exact .inl h
  .by_cases hm:m=n
   .subst hm;exact .inr ⟨m,o',e1,t5 (pj ho),h2⟩
   .exact .inr ⟨m,x,e1,by rw[G2 hm];exact e2,e3⟩
def wI{h':HO}(r:bu K O st H)(ha:O.adr[n]?=aa a)(ho:aW st n=aa o)(h1:o≠.dead)(h2:o'≠.dead):bD K O st H O (st.set n o') (upd H a h'):=by
 let la:aP O st a:=.inr ⟨n,o,ha,ho,h1⟩;let nt:∀b vs,bR K H b vs->bR K (upd H a h') b vs:=λb vs h=>by
  rcases h with(h |⟨x,h⟩)|h
  .refine .inl (.inl ?_);rw[cL]
   .exact h
   .rintro rfl;rcases r.live la with⟨_,z⟩|⟨_,z⟩|⟨_,z⟩<;>rw[z]at h<;>cases h
  .refine .inl (.inr ⟨x,?_⟩);rw[cL]
   .exact h
   .rintro rfl;rcases r.live la with⟨_,z⟩|⟨_,z⟩|⟨_,z⟩<;>rw[z]at h<;>cases h
  .exact .inr h
 refine(λ_ _ h=>h,nt,λb vs h nl=>⟨?_,λl=>nl ((Pf ho h1 h2).mp l)⟩,rfl,λb hb=>?_)
 .let ne:b≠a:=by rintro rfl;exact nl la
  rcases h with(h |⟨x,h⟩)|h
  .exact .inl (.inl (by rw[cL ne];exact h))
  .exact .inl (.inr ⟨x,by rw[cL ne];exact h⟩)
  .exact .inr h
 .rw[cL];rintro rfl;exact r.gF n _ o ha ho h1 hb
def A3{h':HO}(r:bu K O st H)(ha:O.adr[n]?=aa a)(ho:aW st n=aa o)(h1:o≠.dead)(h2:o'≠.dead)
  (hl:∀xs,o'=.ai xs->∃vs,h'=.ai vs/\aC K H (aP O st) xs vs) (hd:∀av,o'=.bB av->∃l,h'=.dK l/\bS K H (aP O st) av l) (ht:∀av,o'=.dG av->∃l,h'=.dT l/\eO K H (aP O st) av l):bu K O (st.set n o') (upd H a h'):=by
 let ex:=wI (h':=h') r ha ho h1 h2;let ne:∀{m:Nat}{b:aq}{x:b6},m≠n->O.adr[m]?=aa b->aW st m=aa x->x≠.dead->b≠a:=λhm e1 e2 e3 z=>by
  subst z;rcases r.inj _ _ _ _ _ hm e1 ha e2 ho with z |z
  .exact e3 z
  .exact h1 z
 refine(by rw[Bx];exact r.len,λm xs h=>?_,λm av h=>?_,λm av h=>?_,λm m' b x x' cj e1 e2 e3 e4=>?_,λb h=>r.nk b ((Pf ho h1 h2).mp h),λm b x e1 e2 e3=>?_,λb hb=>?_)
 .rcases gM h with⟨rfl,e⟩|⟨hm,h⟩
  .let(vs,rfl,rp):=hl xs e.symm;exact(a,vs,ha,dZ,ex.cE rp)
  .let(b,vs,e1,e2,e3):=r.ai m xs h;exact(b,vs,e1,by rw[cL (ne hm e1 h (by intro z;cases z))];exact e2,ex.cE e3)
 .rcases gM h with⟨rfl,e⟩|⟨hm,h⟩
  .let(l,rfl,rp):=hd av e.symm;exact(a,l,ha,dZ,bS.mono ex.af ex.ai _ _ rp)
  .let(b,vs,e1,e2,e3):=r.bB m av h;exact(b,vs,e1,by rw[cL (ne hm e1 h (by intro z;cases z))];exact e2,bS.mono ex.af ex.ai _ _ e3)
 .rcases gM h with⟨rfl,e⟩|⟨hm,h⟩
  .let(l,rfl,rp):=ht av e.symm;exact(a,l,ha,dZ,eO.mono ex.af ex.ai _ _ rp)
  .let(b,vs,e1,e2,e3):=r.dG m av h;exact(b,vs,e1,by rw[cL (ne hm e1 h (by intro z;cases z))];exact e2,eO.mono ex.af ex.ai _ _ e3)
 .rcases gM e3 with⟨rfl,rfl⟩|⟨hm,sf⟩
  .rcases gM e4 with⟨rfl,rfl⟩|⟨vn,e4⟩
   .exact absurd rfl cj
   .rcases r.inj m m' b o x' cj e1 e2 ho e4 with z |z
    .exact absurd z h1
    .exact .inr z
  .rcases gM e4 with⟨rfl,rfl⟩|⟨vn,e4⟩
   .rcases r.inj m m' b x o cj e1 e2 sf ho with z |z
    .exact .inl z
    .exact absurd z h1
   .exact r.inj m m' b x x' cj e1 e2 sf e4
 .rcases gM e2 with⟨rfl,rfl⟩|⟨hm,e2⟩
  .exact r.gF m b o e1 ho h1
  .exact r.gF m b x e1 e2 e3
 .let(vs,e):=r.bq b hb;refine(vs,?_);rw[cL]
  .exact e
  .rintro rfl;exact r.gF n _ o ha ho h1 hb
def QD{lv:aq->Prop}{k:PV}{k':Key}(hk:keyOf k=aa k'):∀{av:List (PV×PV)}{l:List (Key×V)},bS K H lv av l->(av.any λp=>decide (p.1=k))=l.any λkv=>decide (kv.1=k')
 |[],l,h=>by rw[bS]at h;subst h;rfl
 | (k1,x1)::r,l,h=>by
  rw[bS]at h;let(k2,v,l',rfl,h1,h2,h3):=h;rw[xx,xx,QD hk h3];congr 1;by_cases e:k1=k
  .subst e;rw[hk]at h1;cases h1;simp
  .let:k2≠k':=λz=>e (FY h1 (z▸hk));simp[e,this]
def QG{lv:aq->Prop}{k x:PV}{k':Key}{v:V}(hk:keyOf k=aa k')(hx:RP K H lv x v):∀{av:List (PV×PV)}{l:List (Key×V)},bS K H lv av l->bS K H lv (av.map λp=>if p.1=k then(p.1,x)else p) (l.map λkv=>if kv.1=k' then(kv.1,v)else kv)
 |[],l,h=>by rw[bS]at h;subst h;rw[eD,eD,bS]
 | (k1,x1)::r,l,h=>by
  rw[bS]at h;let(k2,v2,l',rfl,h1,h2,h3):=h;rw[bJ,bJ];let ih:=QG hk hx h3;by_cases e:k1=k
  .subst e;rw[hk]at h1;cases h1;rw[if_pos rfl,if_pos rfl,bS];exact(_,v,_,rfl,hk,hx,ih)
  .let:k2≠k':=λz=>e (FY h1 (z▸hk));rw[if_neg e,if_neg this,bS];exact(k2,v2,_,rfl,h1,h2,ih)
def Px{lv:aq->Prop}{k x:PV}{k':Key}{v:V}(hk:keyOf k=aa k')(hx:RP K H lv x v):∀{av:List (PV×PV)}{l:List (Key×V)},bS K H lv av l->bS K H lv (av++[(k,x)]) (l++[(k',v)])
 |[],l,h=>by rw[bS]at h;subst h;rw[d3,d3,bS];exact(k',v,[],rfl,hk,hx,by rw[bS])
 | (k1,x1)::r,l,h=>by
  rw[bS]at h;let(k2,v2,l',rfl,h1,h2,h3):=h;rw[fD,fD,bS];exact(k2,v2,_,rfl,h1,h2,Px hk hx h3)
def QH{k x:PV}{k':Key}{v:V}(hk:keyOf k=aa k')(hx:RP K H lv x v){av:List (PV×PV)}{l:List (Key×V)}(h:bS K H lv av l):bS K H lv (dC k x av) (fk l k' v):=by
 unfold dC fk;rw[QD hk h];split
 .exact QG hk hx h
 .exact Px hk hx h
def bS.length:∀{av:List (PV×PV)}{l:List (Key×V)},bS K H lv av l->av.length=l.length
 |[],l,h=>by rw[bS]at h;subst h;rfl
 | (k1,x1)::r,l,h=>by
  rw[bS]at h;let(k2,v2,l',rfl,h1,h2,h3):=h;simp[bS.length h3]
end
section
variable{X:Cx}{C:a8}{W:Nat}{o i value:Expr}{io ii iv:E}{pos dn:aU}
def yx1(hu:X.A.units+1<c8):oM X (λo i v H Q=>∃a H',o=.ref a/\v5 H a i v H'/\Q H'):=by
 rintro ae s Z H o i v ov iv u Q I ro ri rv ⟨a,H',e,g,q⟩;subst e;obtain rfl:ov=b9 a:=ro;exact yq3 hu I g ri rv λs' I'=>⟨H',I',q⟩
def oM.or{t t':zY}(h:oM X t)(h':oM X t'):oM X (λo i v H Q=>t o i v H Q\/t' o i v H Q):=by
 intro ae s Z H o i v ov iv u Q I ro ri rv q;rcases q with q |q
 .exact h ae s Z H o i v ov iv u Q I ro ri rv q
 .exact h' ae s Z H o i v ov iv u Q I ro ri rv q
def yK7(hu:X.A.units+1<c8)(ho:SE X C o io)(hi:SE X C i ii)(hv:SE X C value iv)
  (ha:∀v,assign (.Subscript o i dn) X.env v=(do
   let ov <-jA [v] (eval o X.env)
   let iv <-jA [v,ov] (eval i X.env)
   uJ dn
   jA [v,ov,iv] (setItem ov iv v)
   release [v,ov,iv] []))
  (hs:IS [.Subscript o i dn] value pos.line X.env=pure false) (hw:IQ [.Subscript o i dn] value X.env=pure aj)
  (h1:(i0 [.Subscript o i dn] X.env).map (·.2)=[assign (.Subscript o i dn) X.env]):SS X C W (.Assign [.Subscript o i dn] value pos) (.mR io ii iv) :=
 PS.mono (xu5 hv (xt9 ho hi (oM.or yK1 (yx1 hu)) ha) hs hw h1) λD Z H h_=>by
  let(env,O,st,fl,ao,aD,e,q):=h_;rw[yD4]at e;let(x,aA,e1,e):=ax.mz e;let(ov,aI,e2,e):=ax.bE e;let(Yn,y,cK,e3,hy,e):=ax.se e;let(_,d6,e4,e):=ax.bE e;cases e;refine(env,O,st,_,aA,aD,e1,λw H1 α1 x1 r1 v1=>?_);refine(env,α1,aA,ov,aI,aD.next x1 r1,e2,λw2 H2 α2 x2 r2 v2=>?_);refine(env,α2,aI,Yn,cK,(aD.next x1 r1).next x2 r2,e3,λw3 H3 α3 x3 r3 v3=>?_);let rx:=(x2.trans x3).rv v1;let ro:=x3.rv v2;let wy:=v3.view r3 hy;let k_:=((aD.next x1 r1).next x2 r2).next x3 r3;cases ov with
  |p z=>cases e4
  |ref n=>
   let(a,rfl,ha):=ro;let e4:(match aW cK n with |some (.ai xs)=>(match zV xs y x with |some ys=>ax.ok Unit.unit (cK.set n (.ai ys))|none=>.stuck)|some (.bB av)=>(if av.length<1000000/\jV y=true then ax.ok Unit.unit (cK.set n (.bB (dC y x av)))else .stuck)|_=>.stuck)=ax.ok Unit.unit ao:=e4
   cases dO:aW cK n with
   |none=>rw[dO]at e4;cases e4
   |some ob=>
    rw[dO]at e4;cases ob with
    |dead=>cases e4
    |dG _=>cases e4
    |ai xs=>
     cases kC:zV xs y x with
     |none=>simp only[kC]at e4;cases e4
     |some ys=>
      simp only[kC]at e4;cases e4;let(a',vs,g1,g2,g3):=r3.ai n xs dO;rw[ha]at g1;cases g1;cases y with
      |int k=>
       let(j,hj,vC):=d9.mp (show(aO xs.length k).map (λj=>xs.set j x)=aa ys from kC);subst vC;let vK:b6.ai xs≠.dead:=by intro z;cases z
       let vL:b6.ai (xs.set j x)≠.dead:=by intro z;cases z
       refine .inl ⟨a,vs,k,j,rfl,wy.int,g2,by rw[<-g3.length];exact hj,?_⟩;let Zm:∀{xs:List PV}{vs:List V}(j:Nat),aC X.K H3 (aP α3 cK) xs vs->aC X.K H3 (aP α3 cK) (xs.set j x) (vs.set j w):=by
        intro xs;induction xs with
        |nil=>intro vs j h;rw[aC]at h;subst h;rw[Tt,Tt,aC]
        |cons z zs ih=>
         intro vs j h;rw[aC]at h;let(u,ur,rfl,h1,h2):=h;cases j with
         |zero=>rw[Ts,Ts,aC];exact(w,ur,rfl,rx,h2)
         |succ j=>rw[Tr,Tr,aC];exact(u,_,rfl,h1,ih j h2)
       let ex:=wI (o':=.ai (xs.set j x)) (h':=.ai (vs.set j w)) r3 ha dO vK vL;let rs:=A3 (o':=.ai (xs.set j x)) (h':=.ai (vs.set j w)) r3 ha dO vK vL (λys e=>by cases e;exact(_,rfl,Zm j g3)) (λav e=>by cases e) (λav e=>by cases e);exact q Z _ α3 (x1.trans (x2.trans (x3.trans ex))) (k_.next ex rs)
      |_=>simp[zV]at kC
    |bB av=>
     by_cases bj:av.length<1000000/\jV y=true
     .simp only[bj,and_self,if_true]at e4;cases e4;let(a',l,g1,g2,g3):=r3.bB n av dO;rw[ha]at g1;cases g1;obtain ⟨k,hk⟩:∃k,keyOf y=aa k:=by
       cases y with
       |int z=>exact(_,rfl)
       |str z=>exact(_,rfl)
       |_=>cases bj.2
      let vK:b6.bB av≠.dead:=by intro z;cases z
      let vL:b6.bB (dC y x av)≠.dead:=by intro z;cases z
      let hz:a9=16777216:=by decide
      let ll:=g3.length;refine .inr ⟨a,_,rfl,by rw[N0 wy hk];exact v5.k g2 (by rw[hz];lia),?_⟩;let ex:=wI (o':=.bB (dC y x av)) (h':=.dK (fk l k w)) r3 ha dO vK vL;let rs:=A3 (o':=.bB (dC y x av)) (h':=.dK (fk l k w)) r3 ha dO vK vL (λys e=>by cases e) (λad8 e=>by cases e;exact(_,rfl,QH hk rx g3)) (λav e=>by cases e);exact q Z _ α3 (x1.trans (x2.trans (x3.trans ex))) (k_.next ex rs)
     .let e4:(if av.length<1000000/\jV y=true then ax.ok Unit.unit (cK.set n (.bB (dC y x av)))else .stuck)=ax.ok Unit.unit ao:=e4
      rw[if_neg bj]at e4;cases e4
end
section
variable{X:Cx}
def QZ:∀{xs:List PV}{b:Bool},j0 xs=aa b->∃bs:List Bool,xs=bs.map .bl/\b=bs.all id
 |[],b,h=>by cases h;exact([],rfl,rfl)
 | x::r,b,h=>by
  cases x with
  |bl k=>
   let(c,h1,h2):=d9.mp (show(j0 r).map (k && ·)=aa b from h);let(bs,rfl,rfl):=QZ h1;exact(k::bs,rfl,by rw[<-h2];rfl)
  |_=>cases h
def R1{K:aQ}{H:Hp}{lv:aq->Prop}:∀{bs:List Bool}{vs:List V},aC K H lv (bs.map .bl) vs->vs=bs.map .bl
 |[],vs,h=>by rw[eD,aC]at h;exact h
 | b::r,vs,h=>by
  rw[bJ,aC]at h;let(v,vr,rfl,h1,h2):=h;rw[RP]at h1;rw[h1,R1 h2];rfl
def Rt:∀{bs:List Bool}{aw:List ak},ba (bs.map .bl) aw->aw=bs.map .bool
 |[],aw,h=>by cases h;rfl
 | b::r,aw,h=>by
  cases h with
  |cons q t=>
   obtain rfl:=(show _=gT b from q);rw[Rt t];rfl
def yo2(bs:List Bool):(cF bs.length).all (λi=>bs.getD i false)=bs.all id:=by
 induction bs with
 |nil=>rfl
 |cons b r ih=>
  rw[c6,To,ff,Hn,ff,<-ih];rfl
def xN7(hc:X.calm=true):jr X (.builtin "all") (f1 (ny λl=>(j0 l).map .bl)):=by
 rintro ae s Z H ws us Q I rs ⟨O,st,xs,z,r,pr,hz,q⟩;cases pr with
 |nil=>cases hz
 |cons h t=>
  cases t with
  |cons _ _=>cases hz
  |nil=>
   rename_i x w
   cases x with
   |ai l=>
    let(b,hb,oy):=d9.mp (show(j0 l).map PV.bl=aa z from hz);let(bs,rfl,rfl):=QZ hb;let(a,vs,rfl,h1,h2):=h.ai;cases rs with
    |cons ra rt=>
     cases rt;obtain rfl:=(show _=b9 a from ra);let(aw,r1,p,_):=I.list h1;let ev:=R1 h2;subst ev;let ei:=Rt r1;subst ei;refine call_all_walk (IY p.isList ?_);let cj:a≠s.heap.objs.size:=by
      let(o,_,e,_):=p;exact eG (b8 e)
     refine(_,_,_,_,_,_,λi=>bs.getD i false,rfl,Walks.list (A:=X.A.in1) (show X.A.in1.handled=aj from I.ok.hd hc) s.heap.objs.size a cj (bs.map gT).toArray,⟨⟨_,dY _ rfl,rfl,rfl⟩,?_⟩,?_,λh' tk hk=>?_)
     .let(o,n,e,c,_,d):=p;exact(o,cv _ e,c,n,d)
     .intro i v s' Q' E' hv hQ;let hv:(bs.map gT).toArray[i]?=aa v:=hv;rw[List.getElem?_toArray,eC]at hv;let(b,gH,rfl):=d9.mp hv;let e:bs.getD i false=b:=by rw[gQ,gH];rfl
      let hQ:Q' (bs.getD i false) s':=hQ;rw[e]at hQ;exact mn hQ
     .refine(.bl _,H,I.kept (λb o e=>hk b o ?_ (cv _ e)),rfl,?_)
      .simp only[jw];exact eG (b8 e)
      .let:(cF (bs.map gT).toArray.size).all (λi=>bs.getD i false)=bs.all id:=by
        rw[cV,cy];exact yo2 bs
       rw[this];exact q _ _ (bt.refl H) (by rw[<-oy,RP])
   |_=>cases hz
def Fe:∀{xs:List PV}{ns:List Int},jo xs=aa ns->xs=ns.map .int
 |[],ns,h=>by cases h;rfl
 | x::r,ns,h=>by
  cases x with
  |int i=>
   let(ms,h1,h2):=d9.mp (show(jo r).map (i :: ·)=aa ns from h);rw[<-h2,Fe h1];rfl
  |_=>cases h
def Gq{K:aQ}{H:Hp}{lv:aq->Prop}:∀{ns:List Int}{vs:List V},aC K H lv (ns.map .int) vs->vs=ns.map .int
 |[],vs,h=>by rw[eD,aC]at h;exact h
 | b::r,vs,h=>by
  rw[bJ,aC]at h;let(v,vr,rfl,h1,h2):=h;rw[RP]at h1;rw[h1,Gq h2];rfl
def FK:∀{ns:List Int}{aw:List ak},ba (ns.map .int) aw->∃ps:List (Int×dt),aw=ps.map (λp=>mh p.1 p.2)/\ps.map (·.1)=ns
 |[],aw,h=>by cases h;exact([],rfl,rfl)
 | b::r,aw,h=>by
  cases h with
  |cons q t=>
   let(tk,rfl):=q;let(ps,rfl,h2):=FK t;exact((b,tk)::ps,rfl,by rw[bJ,h2])
end
abbrev wW:Ty->String
 |.int => "int"
 |.str => "str"
 |.bool => "bool"
 |.list => "list"
 |.tuple => "tuple"
section
variable{X:Cx}{C:a8}{a:Expr}{ia:E}{pos p p2:aU}
def zZ2(t:Ty):nj X (.builtin "isinstance") (λws H Q=>∃O st px x,ws=[x,.ty (wW t)]/\bu X.K O st H/\RW X.K O st H px x/\Q (.bl (EC t px)) H):=by
 rintro ae s Z H ws us Q I rs ⟨O,st,px,x,e,r,h,q⟩;subst e;cases rs with
 |cons rx rt=>
  cases rt with
  |cons r2 rt=>
   cases rt;obtain rfl:=(show _=uD (wW t)from r2);let fin:∀tk,EP X ae Z Q (.bool (EC t px)) { s with toks:=tk }:=λtk=>⟨.bl _,H,I.tok tk,rfl,q⟩
   cases px with
   |aL=>let e:=h.aL;subst e;exact Be I rx .aL (by cases t<;>rfl) fin
   |bl b=>let e:=h.bl;subst e;exact Be I rx (.bl b) (by cases t<;>rfl) fin
   |int i=>let e:=h.int;subst e;exact Be I rx (.int i) (by cases t<;>rfl) fin
   |str cs=>let e:=h.str.1;subst e;exact Be I rx (.str _) (by cases t<;>rfl) fin
   |af xs=>
    let(b,vs,rfl,h1,_):=h.af;obtain rfl:=(show _=b9 b from rx);obtain⟨aw,_,⟨o,e1,e2,_⟩,_⟩:=I.tuple h1;exact jy Vv I.eA ⟨o,e1,e2⟩ (by cases t<;>rfl) (λz=>nomatch z) fin
   |ai xs=>
    let(b,vs,rfl,h1,_):=h.ai;obtain rfl:=(show _=b9 b from rx);obtain⟨aw,_,⟨o,n,e1,e2,_⟩,_⟩:=I.list h1;exact jy IA I.eA ⟨o,e1,e2⟩ (by cases t<;>rfl) (λz=>nomatch z) fin
def yy6(t:Ty)(hg:Gl X "isinstance")(hm:X.mg "isinstance" = aj)(hv:gD "isinstance" = aa (.builtin "isinstance"))(qj:Gl X x)(gZ:X.mg x=aj)(Dy:gD x=aa (.type (wW t)))
  (ha:SE X C a ia) (Df:x ≠ "__name__") (cf:(x==("__debug__" : Str))=false)
  (hs:bA [a,.Name x p2] X.env=(false,eval a X.env)::bA [.Name x p2] X.env) (yR:bA [.Name x p2] X.env=(false,eval (.Name x p2) X.env)::bA [] X.env)
  (dH:(dW pos (bA [.Name x p2] X.env)).any (·.1)=false):SE X C (.Call (.Name "isinstance" p) [a,.Name x p2] [] pos) (.blt (.mN t) [ia]) :=
 PE.mono (Pt (zZ2 t) hg hm hv (Fh ha (Fh (xa2 qj gZ Dy (v:=.ty (wW t)) rfl Df cf) Om yR) hs) (by decide) (by decide) hs dH) λZ H Q h_=>by
  let(env,O,st,v,ao,aD,e,q):=h_;rw[Ap,tU]at e;let(vs,aA,e1,e):=ax.bE e;let(va,aI,e2,e1):=ax.bE e1;rw[rf]at e1;cases e1;refine(env,O,st,va,aA,aD,e2,λw H1 α1 x1 r1 v1=>?_);unfold cM at e;cases Dx:view aA va with
  |none=>simp only[bQ,Dx]at e;cases e
  |some y=>
   simp only[bQ,Dx]at e;cases e;exact(α1,ao,y,w,rfl,r1,v1.view r1 Dx,q _ H1 α1 x1 r1 (by rw[RV,RP]))
variable{o e:Expr}{es:List Expr}{io:E}{bx:List E}{fw di:aU}{name:Str}{id:String}{m:Mt}
def p9(X:Cx)(id:String)(g:PV->List PV->Option PV):Prop :=
 uQ X id λx ws H Q=>∃O st px xs z,bu X.K O st H/\RW X.K O st H px x/\cn (RW X.K O st H) xs ws/\g px xs=aa z/\∀w H',bt H H'->RP X.K H' (aP O st) z w->Q w H'
def xw9{g:PV->List PV->Option PV}(slot:Slot "str" name id)(d4:rP (.builtin id)=pure (.type "method_descriptor"))(hm:p9 X id g)(ho:SE X C o io)(ha:SA X C (e::es) bx)
  (hg:∀v vs st,d8 m v vs st=(match bQ st vs with |some xs=>(match view st v with |some x=>cQ (g x xs) st |none=>.stuck)|none=>.stuck)) (Dt:∀x xs z,g x xs=aa z->∃cs,x=.str cs)
  (mC:uF o name X.env (eval o X.env)=eval o X.env)
  (vg:((dW di (bA (e::es) X.env)).all (λx=>!x.1)&&(BS di (BY [] X.env)).all (λx=>x.1.isSome)
   && decide ((e::es).length+([]:List nP).length+(if([]:List nP).isEmpty then 0 else 1)<30))=true)
  (mK:(fw.endLine==di.line)=true) (hs:bA (e::es) X.env=(false,eval e X.env)::bA es X.env) (vv:(dW di (bA es X.env)).any (·.1)=false) :
  SE X C (.Call (.Attribute o name fw) (e::es) [] di) (.cD m io bx) :=
 PE.mono (NQ PySem.F.plainAttrs_str slot d4 hm ho ha mC vg mK hs vv) λZ H Q h_=>by
  let(env,O,st,v,ao,aD,e,q):=h_;rw[GK]at e;let(ov,aA,e1,e):=ax.bE e;let(_,st0,e0,e):=ax.bE e;obtain⟨⟨x0,yT⟩,jb⟩:=Gs e0;rw[jb]at e;let(vs,aI,e2,e):=ax.bE e;rw[hg]at e;cases hv:bQ aI vs with
  |none=>rw[hv]at e;cases e
  |some xs=>
   rw[hv]at e;cases hx:view aI ov with
   |none=>simp only[hx]at e;cases e
   |some x=>
    simp only[hx]at e;let(z,h1,h2,h3):=pz e;subst h2 h3;let(cs,rfl):=Dt _ _ _ h1;let oh:ov=.p (.str cs):=by
     cases ov with
     |p y=>cases hx;rfl
     |ref n=>
      let hx:(match aW ao n with |some (.ai xs)=>aa (PV.ai xs)|_=>aj)=aa (PV.str cs):=hx
      cases ho:aW ao n with
      |none=>rw[ho]at hx;cases hx
      |some ob=>rw[ho]at hx;cases ob<;>cases hx
    subst oh;refine(env,O,st,_,aA,aD,e1,λw H1 α1 x1 r1 v1=>?_);let MO:RP X.K H1 (aP α1 aA) (.str cs) w:=v1;rw[RP]at MO;let(hw,hl):=MO;subst hw;refine(rfl,env,α1,aA,vs,ao,aD.next x1 r1,e2,λws H2 α2 x2 r2 pr=>?_);exact(α2,ao,.str cs,xs,z,r2,.inl (by rw[RP];exact⟨rfl,hl⟩),Gw r2 pr hv,h1,λw H3 s3 rp=>q w H3 α2 (x1.trans (x2.trans (.of_same r2 s3))) (r2.same s3) rp)
end
section
variable{X:Cx}
end
def oX(n d:Nat)(o:Option Int):HT.bo n d o=bo n d o:=by
 cases o with
 |none=>rfl
 |some i=>
  show(if i<0 then(i+(n:Int)).toNat else min i.toNat n)=(if 0<=i then min i.toNat n else((n:Int)+i).toNat)
  by_cases h:0<=i
  .rw[if_neg (),if_pos h]
  .rw[if_pos (),if_neg h];congr 1;lia
def PU(i:Int)(n d:Nat):max 0 (min (if i<0 then i+(n:Int)else i) (n:Int))=((bo n d (aa i):Nat):Int):=by
 rw[<-oX];exact Fo i n d
def Z2(lo hi:Option Int)(n:Nat):strSliceIndices lo hi 1 n=(cF (bo n n hi-bo n 0 lo)).map (bo n 0 lo + ·):=by
 rw[<-sliceRange_one];let h1:(1:Int) > 0:=by decide
 unfold strSliceIndices;simp only[h1,if_true];congr 1
 .cases lo with
  |none=>rfl
  |some i=>exact PU i n 0
 .cases hi with
  |none=>rfl
  |some i=>exact PU i n n
variable{t:aq}
section
variable{prog:Program}{w:aY}{A:bb}{E:ak->au->Prop}{s:au}
def zv5{sl:aq}{bI:Array ak}{vl vu:ak}{lo hi:Option Int}{Q:ak->au->Prop}(ht:IsTup s.heap t bI)(hs:s.heap.IsSliceOf sl vl vu .none)(pl:k4 vl lo)(pu:k4 vu hi)
  (hw:HT.bo bI.size 0 lo=0/\HT.bo bI.size bI.size hi=bI.size) (h:Q (.ref t) s):aG (aN prog w) A (getItem (.ref t) (.ref sl)) Q E s:=by
 let(os,ja,jI,vd):=id hs;let lu:s.TypeIs (.ref sl) "slice" := ⟨os,ja,jI⟩;unfold getItem
 try with_reducible refine kc ?_
 first |refine aE (aX ?_)|skip
 refine aE (VS ht.typeIs (by decide) ?_)
 refine aE (uK (name:=c7 "__getitem__") ht.typeIs uy
  (uL uy ht.typeIs T_ ?_ (T8 _ _)))
 show aG _ _ (Uk (.ref t) >>= _) _ _ s;refine aE (tupleItemsOf_ ht ?_);refine aE (B8 lu ?_);rw[if_pos (by decide)];refine aE (HT.Mu hs pl pu ?_);let Yc:(((HT.bo bI.size 0 lo:Nat):Int)==0&&(1:Int)==1&&(HT.bo bI.size bI.size hi-HT.bo bI.size 0 lo)==bI.size)=true:=by
  rw[hw.1,hw.2];simp
 show aG _ _ (if(((HT.bo bI.size 0 lo:Nat):Int)==0&&(1:Int)==1&&(HT.bo bI.size bI.size hi-HT.bo bI.size 0 lo)==bI.size)=true then _ else _) _ _ s
 rw[if_pos Yc];refine aE (m:=Uj (.ref t)) ?_;unfold Uj;refine aE (B8 ht.typeIs (aX ?_));rw[if_pos (by decide)];exact aE (p8 (aX ⟨_,rfl,aX h⟩))
end
section
variable{X:Cx}{C:a8}{e:Expr}{ie:E}{pos p2:aU}
def OW{O:Type}(xs:List O)(lo hi:Option Int):(cut xs lo hi).length<=xs.length:=by
 unfold cut;rw[l5,iY];lia
def yp4{O:Type}(xs:List O)(lo hi:Option Int)(h:(cut xs lo hi).length=xs.length):cut xs lo hi=xs :=
 (((xN _ _).trans (SX _ _)):(cut xs lo hi).Sublist xs).eq_of_length h
abbrev Y7:V->Option Int->Option Int->Hp->VK->Prop:=λx lo hi H Q=>∃cs:List Nat,x=.str ⟨cs.toArray⟩/\cs.length<=a9/\Q (.str ⟨(cut cs lo hi).toArray⟩) H
def Qx{v:ak}{o:Option Int}(p:k4 v o):∃l:Option (Int×dt),v=partValue l/\l.map (·.1)=o:=by
 cases p with
 |none=>exact(aj,rfl,rfl)
 |int i t=>exact(aa (i,t),rfl,rfl)
def xy8:uT X Y7:=by
 rintro ae s Z H x v vl vu lo hi sl Q I rx hs pl pu ⟨cs,e,hl,q⟩;subst e;let(t,rfl):=rx;let(l,rfl,rfl):=Qx pl;let(u,rfl,rfl):=Qx pu;let pk:B5 ⟨cs.toArray⟩ l u aj=(cF (bo cs.length cs.length (u.map (·.1))-bo cs.length 0 (l.map (·.1)))).map (bo cs.length 0 (l.map (·.1)) + ·):=by
  unfold B5;rw[dS];exact Z2 _ _ _
 let pf:(B5 ⟨cs.toArray⟩ l u aj).filterMap (λi=>(⟨cs.toArray⟩:Str).cps[i]?)=cut cs (l.map (·.1)) (u.map (·.1)):=by
  rw[pk];exact pick_run cs.toArray _ _
 refine("str", _,PySem.F.slot_str_getitem.lookup,nY _ _ _,wpAny_getItem_str_slice (l:=l) (u:=u) (st:=aj) hs rfl ?_);unfold sliceMade;split
 .rename_i h
  let h2:(B5 ⟨cs.toArray⟩ l u aj).length=cs.length:=by
   let:=(bP _ _▸h:_/\_).2;rw[dS]at this;exact eq_of_beq this
  let h3:cut cs (l.map (·.1)) (u.map (·.1))=cs:=by
   refine yp4 _ _ _ ?_;rw[pk,cy,Hz]at h2;unfold cut;rw[l5,iY];let h4:bo cs.length cs.length (u.map (·.1))<=cs.length:=by rw[<-oX];exact HT.Mn _ _ (bF _) _
   lia
  rw[h3]at q;exact(.str _,H,I,⟨t,rfl⟩,q)
 .rw[pf];exact(by rw[dS];exact df (OW _ _ _) hl,.str _,H,I.tok _,⟨_,rfl⟩,q)
def aC.cut{K:aQ}{H:Hp}{lv:aq->Prop}{xs:List PV}{vs:List V}(lo hi:Option Int)(h:aC K H lv xs vs):aC K H lv (cut xs lo hi) (oO vs lo hi):=by
 unfold OR.cut oO;rw[oX,oX,<-h.length];exact aC.take _ (aC.drop _ h)
def xy7:uT X (λx lo hi H Q=>∃O st px z,bu X.K O st H/\RW X.K O st H px x/\sliceOp px lo hi=aa z/\∀w H',bt H H'->RP X.K H' (aP O st) z w->Q w H'):=by
 rintro ae s Z H x v vl vu lo hi sl Q I rx hs pl pu ⟨O,st,px,z,r,h,hz,q⟩;cases px with
 |str cs=>
  let(h1,h2):=h.str;subst h1;refine xy8 ae s Z H _ v vl vu lo hi sl Q I rx hs pl pu ⟨cs,rfl,h2,q _ _ (bt.refl H) ?_⟩;cases hz;rw[RP];exact(rfl,df (OW _ _ _) h2)
 |ai xs=>
  let(a,vs,rfl,h1,h2):=h.ai;refine xd1 ae s Z H _ v vl vu lo hi sl Q I rx hs pl pu ⟨a,vs,rfl,h1,λp hp=>q _ _ (fB hp _) ?_⟩;cases hz;rw[RP];exact(p,_,rfl,bL.of dZ,r.sN hp,(bD.of_same r (fB hp _)).cE (h2.cut lo hi))
 |af xs=>
  let(a,vs,rfl,h1,h2):=h.af;cases hz;by_cases hw:bo xs.length 0 lo=0/\bo xs.length xs.length hi=xs.length
  .let ec:OR.cut xs lo hi=xs:=by
    unfold OR.cut;rw[hw.1,hw.2,pF,HR,BA]
   rw[ec]at q;cases rx;let(aw,r1,ht,hz'):=I.tuple h1;let bj:aw.toArray.size=xs.length:=by rw[cV,h2.length];exact r1.length.symm
   refine("tuple", _,uy.lookup,ht.typeIs,?_);refine zv5 ht hs pl pu (by rw[bj,oX,oX];exact hw) ?_;exact(.ref a,H,I,rfl,q _ _ (bt.refl H) (by rw[RP];exact⟨a,vs,rfl,h1,h2⟩))
  .refine xy9 ae s Z H _ v vl vu lo hi sl Q I rx hs pl pu ⟨a,vs,rfl,h1,by rw[oX,oX,<-h2.length];exact hw,λp hp=>q _ _ (fB hp _) ?_⟩;rw[RP];exact(p,_,rfl,bR.of dZ,(bD.of_same r (fB hp _)).cE (h2.cut lo hi))
 |_=>cases hz
def tO(K:aQ)(C:a8)(ir:Option E):TO:=λZ H Q=>∃env O st o ao,At K O st H env Z/\qf C ir env st=.ok o ao /\
 ∀H' O',bD K O st H O' ao H'->bu K O' ao H'->Q o H'
@[reducible] def SO(X:Cx)(C:a8)(e:Option Expr)(ir:Option E):Prop:=PO X e (tO X.K C ir)
def PO.mono{e:Option Expr}{t t':TO}(h:PO X e t)(m:∀Z H Q,t' Z H Q->t Z H Q):PO X e t':=λae s Z H Q I q=>h ae s Z H Q I (m _ _ _ q)
def xd2:SO X C aj aj:=PO.mono xa7 λZ H Q h_=>by
 let(env,O,st,o,ao,aD,e,q):=h_;rw[OZ]at e;cases e;exact q H O .refl aD.rs
def xd3(h:SE X C e ie):SO X C (aa e) (aa ie):=PO.mono (xa8 h) λZ H Q h_=>by
 let(env,O,st,o,ao,aD,e,q):=h_;rw[O0]at e;let(v,x,aA,e1,hv,e):=ax.se e;refine(env,O,st,v,aA,aD,e1,λw H1 α1 x1 r1 v1=>?_);cases x with
 |int i=>
  cases e;exact(i,(v1.view r1 hv).int,q H1 α1 x1 r1)
 |_=>cases e
def yK0{lo hi:Option Expr}{Lj Li:Option E}(he:SE X C e ie)(hl:SO X C lo Lj)(hh:SO X C hi Li):SE X C (.Subscript e (.Slice lo hi aj p2) pos) (.slice ie Lj Li) :=
 PE.mono (yI3 xy7 he hl hh) λZ H Q h_=>by
  let(env,O,st,v,ao,aD,e,q):=h_;rw[O1]at e;let(va,aA,e1,e):=ax.bE e;let(l,aI,e2,e):=ax.bE e;let(h,cK,e3,e):=ax.bE e;let(x,y,g1,g2,g3,g4):=yZ7 e;subst g3 g4;refine(env,O,st,va,aA,aD,e1,λw H1 α1 x1 r1 v1=>?_);let k9:=aD.next x1 r1;refine(env,α1,aA,l,aI,k9,e2,λH2 α2 x2 r2=>?_);refine(env,α2,aI,h,ao,k9.next x2 r2,e3,λH3 α3 x3 r3=>?_);refine(α3,ao,x,y,r3,((x2.trans x3).rv v1).view r3 g1,g2,λw3 H4 s4 rp=>?_);exact q w3 H4 α3 (x1.trans (x2.trans (x3.trans (.of_same r3 s4)))) (r3.same s4) rp
end
def Al.add(O:Al)(p:aq):Al:=⟨O.adr++[p],O.bq⟩
section
variable{K:aQ}{O:Al}{st:ay}{H:Hp}{p:aq}{o:b6}
def ik{x:b6}(h:aW (st++[o]) n=aa x):(n<st.length/\aW st n=aa x)\/(n=st.length/\x=o):=by
 by_cases hn:n<st.length
 .rw[xh hn]at h;exact .inl ⟨hn,h⟩
 .let hl:=pj h;rw[cA,uq]at hl;let e:n=st.length:=by lia
  subst e;rw[jj]at h;cases h;exact .inr ⟨rfl,rfl⟩
def nF{l:List aq}(h:(l++[p])[n]?=aa a):(n<l.length/\l[n]?=aa a)\/(n=l.length/\a=p):=by
 by_cases hn:n<l.length
 .rw[jv hn]at h;exact .inl ⟨hn,h⟩
 .let hl:=(dU.mp h).1;rw[cA,uq]at hl;let e:n=l.length:=by lia
  subst e;rw[Ht]at h;cases h;exact .inr ⟨rfl,rfl⟩
def Gh(hl:O.adr.length=st.length)(h:aP (O.add p) (st++[o]) a):a=p\/aP O st a:=by
 rcases h with h |⟨n,x,h1,h2,h3⟩
 .exact .inr (.inl h)
 .rcases nF h1 with⟨g1,g2⟩|⟨g1,g2⟩
  .rcases ik h2 with⟨_,k2⟩|⟨k1,_⟩
   .exact .inr (.inr ⟨n,x,g2,k2,h3⟩)
   .lia
  .exact .inl g2
def xr4(hp:H p=aj)(hK:K.lookup p=aj)(h:bL K H a vs):a≠p:=by
 rintro rfl;rcases h with(h |⟨_,h⟩)|⟨_,_,_,h,_⟩
 .rw[hp]at h;cases h
 .rw[hp]at h;cases h
 .rw[hK]at h;cases h
def AQ{h':HO}(r:bu K O st H)(hp:H p=aj)(hK:K.lookup p=aj):bD K O st H (O.add p) (st++[o]) (upd H p h'):=by
 let s:=fB hp h';refine(λn a h=>?_,λa vs h=>bR.same s h,λa vs h n=>⟨bt.seq s h,λl=>?_⟩,rfl,λa ha=>?_)
 .show(O.adr++[p])[n]?=aa a;rw[jv (dU.mp h).1];exact h
 .rcases Gh r.len l with e |e
  .exact xr4 hp hK h e
  .exact n e
 .let(vs,e):=r.bq a ha;rw[e,s _ _ e]
def Gz{h':HO}(r:bu K O st H)(hp:H p=aj)(hK:K.lookup p=aj)
  (hl:∀xs,o=.ai xs->∃vs,h'=.ai vs/\aC K H (aP O st) xs vs) (hd:∀av,o=.bB av->∃l,h'=.dK l/\bS K H (aP O st) av l) (ht:∀av,o=.dG av->∃l,h'=.dT l/\eO K H (aP O st) av l):bu K (O.add p) (st++[o]) (upd H p h'):=by
 let s:=fB hp h';let ex:=AQ (o:=o) (h':=h') r hp hK;let old:∀{n:Nat}{a:aq},O.adr[n]?=aa a->(O.add p).adr[n]?=aa a:=λh=>ex.pre _ _ h;let new:(O.add p).adr[st.length]?=aa p:=by
  show(O.adr++[p])[st.length]?=aa p;rw[<-r.len,Ht]
 let dead:∀{n:Nat}{x:b6},O.adr[n]?=aa p->aW st n=aa x->x=.dead:=λ{n x} h1 h2=>by
  by_cases hx:x=.dead
  .exact hx
  .exact absurd (.inr ⟨n,x,h1,h2,hx⟩) (r.sN hp)
 refine(?_,λn xs h=>?_,λn av h=>?_,λn av h=>?_,λn m a x x' cj h1 h2 h3 h4=>?_,λa h=>?_,λn a x h1 h2 h3 h4=>?_,λa ha=>?_)
 .show(O.adr++[p]).length=(st++[o]).length;rw[cA,cA,r.len];rfl
 .rcases ik h with⟨_,h⟩|⟨rfl,e⟩
  .let(a,vs,e1,e2,e3):=r.ai n xs h;exact(a,vs,old e1,s _ _ e2,ex.cE e3)
  .let(vs,rfl,e3):=hl xs e.symm;exact(p,vs,new,dZ,ex.cE e3)
 .rcases ik h with⟨_,h⟩|⟨rfl,e⟩
  .let(a,vs,e1,e2,e3):=r.bB n av h;exact(a,vs,old e1,s _ _ e2,bS.mono ex.af ex.ai _ _ e3)
  .let(l,rfl,e3):=hd av e.symm;exact(p,l,new,dZ,bS.mono ex.af ex.ai _ _ e3)
 .rcases ik h with⟨_,h⟩|⟨rfl,e⟩
  .let(a,vs,e1,e2,e3):=r.dG n av h;exact(a,vs,old e1,s _ _ e2,eO.mono ex.af ex.ai _ _ e3)
  .let(l,rfl,e3):=ht av e.symm;exact(p,l,new,dZ,eO.mono ex.af ex.ai _ _ e3)
 .let ll:=r.len;rcases nF h1 with⟨a1,b1⟩|⟨a1,rfl⟩
  .rcases ik h3 with⟨_,h3⟩|⟨z,_⟩
   .rcases nF h2 with⟨a2,b2⟩|⟨a2,rfl⟩
    .rcases ik h4 with⟨_,h4⟩|⟨z,_⟩
     .exact r.inj n m a x x' cj b1 b2 h3 h4
     .lia
    .exact .inl (dead b1 h3)
   .lia
  .rcases nF h2 with⟨a2,b2⟩|⟨a2,_⟩
   .rcases ik h4 with⟨_,h4⟩|⟨z,_⟩
    .exact .inr (dead b2 h4)
    .lia
   .lia
 .rcases Gh r.len h with rfl |e
  .exact hK
  .exact r.nk a e
 .let ll:=r.len;rcases nF h1 with⟨a1,b1⟩|⟨a1,rfl⟩
  .rcases ik h2 with⟨_,h2⟩|⟨z,_⟩
   .exact r.gF n a x b1 h2 h3 h4
   .lia
  .let(vs,e):=r.bq a h4;rw[hp]at e;cases e
 .let(vs,e):=r.bq a ha;exact(vs,s _ _ e)
def wO(r:bu K O st H):(O.add p).adr[st.length]?=aa p:=by
 show(O.adr++[p])[st.length]?=aa p;rw[<-r.len,Ht]
end
variable{ae:List (aq×aV)}{s:au}
section
variable{X:Cx}{C:a8}{pos:aU}{es:List Expr}{bx:List E}{t:TA}
def A_(I:Inv X ae Z H s):X.K.lookup s.heap.objs.size=aj:=by
 cases e:X.K.lookup s.heap.objs.size with
 |none=>rfl
 |some o=>exact absurd (b8 (I.eA _ _ e)) (kW _)
def Z7(K:aQ)(mX:List (TE×TE)):TE:=λZ H Q=>∀p,H p=aj->K.lookup p=aj->Aw mX Z (upd H p (.dK [])) λps H2=>H2 p=aa (.dK [])/\∃av:List (Key×V),ps=av.map (λkv=>(kV kv.1,kv.2))/\av.length<=15/\Q (.ref p) (upd H2 p (.dK (oV [] av)))
def yI0{keys:List (Option Expr)}{values:List Expr}{mX:List (TE×TE)}(h:mq X pos keys values mX)(fx:keys.all (·.isSome)=true)(hl:keys.length=values.length)(h0:keys≠[])
  (CM:keys.length<=15):PE X (.Dict keys values pos) (Z7 X.K mX):=by
 intro ae s Z H Q I q;let hn:=I.aF.fresh (bF s.heap.objs.size);let I1:=I.laid (a:=s.heap.objs.size) (o:=.dK []) (h':=s.heap.push { cls:=.type "dict", data:=.dict #[] }) (t':=s.toks) (λ_ _ q=>cv _ q) (bF _) (OY s.heap I.Jq);refine wpAny_Dict_walk (knd:=gp X.prog X.w) fx hl h0 CM (bf (h ae _ Z _ _ I1 (q _ hn (A_ I))) λws s2 h_=>?_);let(ps,H2,I2,rel,e,av,ep,lk,q2):=h_;subst ep;let(rs,c,rk):=Rb (P:=X.prog) (w:=X.w) rel;let(z,hd,vs0,r0,dd):=NC I2.aF e;cases r0;refine(rs,c,dd,λh' qd hs=>⟨.ref s.heap.objs.size,_,?_,rfl,q2⟩);let hz:(oV [] av).length<=a9:=by
  let h1:=Ss av [];rw[gx]at h1;rw[mj];lia
 let he:∃q,h'.get? s.heap.objs.size=aa q:=let⟨q,_,_,hq,_⟩:=qd;⟨q,hq⟩;exact GI I2 (by rw[e];exact jB) hs he (N7 hz hd (rk.merge .nil) qd)
abbrev jQ:PV->Key
 |.int i=>.inl i
 |.str cs=>.inr ⟨cs.toArray⟩
 |_=>.inl 0
abbrev jL(K:aQ)(C:a8):List PV->List E->List (TE×TE)
 |k::ks,i::is=>(tC (kV (jQ k)),tP K C i)::jL K C ks is
 |_,_=>[]
def xz2:mq X pos [] [] (jL X.K C [] []):=xa9
def xd4{k v:Expr}{ks:List (Option Expr)}{vs:List Expr}{pk:PV}{iv:E}{L8:List PV}(hk:PE X k (tC (kV (jQ pk))))(hv:SE X C v iv)(hr:mq X pos ks vs (jL X.K C L8 bx)):
  mq X pos (aa k::ks) (v::vs) (jL X.K C (pk::L8) (iv::bx)):=yI6 hk hv hr
def xy6{j}{cs:List Nat}(h:x=⟨cs.toArray⟩):PE X (.Constant (.str x) j pos) (tC (kV (jQ (.str cs)))):=by subst h;exact Oq
def xy5{i:Int}{j}:PE X (.Constant (.int i) j pos) (tC (kV (jQ (.int i)))):=Oo
def Ro{K:aQ}:∀{ks:List PV}{bx:List E}{env:Env}{O:Al}{st ao:ay}{xs:List PV}{Z:L2.St} {H:Hp} {Q:List (V×V)->Hp->Prop},At K O st H env Z->ks.length=bx.length->gX C bx env st=.ok xs ao ->
  (∀ps H' O',bD K O st H O' ao H'->bu K O' ao H'->(∃ws,ps=(ks.zip ws).map (λkv=>(kV (jQ kv.1),kv.2))/\aC K H' (aP O' ao) xs ws)->Q ps H')->Aw (jL K C ks bx) Z H Q
 | [],[],env,O,st,ao,xs,Z,H,Q,aD,_,e,q=>by
  rw[xn]at e;cases e;exact q [] H O .refl aD.rs ⟨[],rfl,by rw[aC]⟩
 | k::ks,i::is,env,O,st,ao,xs,Z,H,Q,aD,hl,e,q=>by
  rw[Bd]at e;let(x,aA,e1,e):=ax.mz e;let(ys,aI,e2,e):=ax.bE e;cases e;refine(env,O,st,_,aA,aD,e1,λw H1 α1 x1 r1 v1=>?_);refine Ro (aD.next x1 r1) (by simpa using hl) e2 λps H2 α2 x2 r2 h_=>?_;let(ws,jJ,rp):=h_;refine q _ H2 α2 (x1.trans x2) r2 ⟨w::ws,by rw[jJ];rfl,?_⟩;rw[aC];exact(w,ws,rfl,x2.rp v1,rp)
 |[],_::_,_,_,_,_,_,_,_,_,_,hl,_,_=>by cases hl
 |_::_,[],_,_,_,_,_,_,_,_,_,hl,_,_=>by cases hl
def RZ{K:aQ}{H:Hp}{lv:aq->Prop}:∀{ks xs:List PV}{ws:List V}{d:List (PV×PV)}{l:List (Key×V)},(∀k∈ks,jV k=true)->aC K H lv xs ws->bS K H lv d l ->
  bS K H lv ((ks.zip xs).foldl (λd p=>dC p.1 p.2 d) d) (oV l ((ks.zip ws).map λkv=>(jQ kv.1,kv.2)))
 | [],xs,ws,d,l,_,_,h=>by
  rw[TF,TF];exact h
 | k::ks,[],ws,d,l,hk,hx,h=>by
  rw[aC]at hx;subst hx;exact h
 | k::ks,x::xs,ws,d,l,hk,hx,h=>by
  rw[aC]at hx;let(w,wr,rfl,h1,h2):=hx;let Xx:keyOf k=aa (jQ k):=by
   let:=hk k (gy ..);cases k<;>first |rfl |cases this
  exact RZ (ks:=ks) (xs:=xs) (ws:=wr) (d:=dC k x d) (l:=fk l (jQ k) w) (λk' f7=>hk k' (b5 _ f7)) h2 (QH Xx h1 h)
def xc4{keys:List (Option Expr)}{values:List Expr}{ks:List PV}(h:mq X pos keys values (jL X.K C ks bx))(hk:ks.all jV=true)(mI:ks.length=bx.length)(fx:keys.all (·.isSome)=true)(hl:keys.length=values.length)(h0:keys≠[])
  (CM:keys.length<=15) (Kt:ks.length<=15):SE X C (.Dict keys values pos) (.dict ks bx) :=
 PE.mono (yI0 h fx hl h0 CM) λZ H Q h_=>by
  let(env,O,st,v,ao,aD,e,q):=h_;rw[P_]at e;let(xs,aA,e1,e):=ax.bE e;intro p hp hK;let yw:=AQ (o:=.bB []) (h':=.dK []) aD.rs hp hK;let D2:=Gz (o:=.bB []) (h':=.dK []) aD.rs hp hK (λxs z=>by cases z) (λav z=>by cases z;exact([],rfl,by rw[bS])) (λav z=>by cases z);refine Ro (aD.next yw D2) mI e1 λps H2 α2 x2 r2 h_=>?_;let(ws,e2,rp):=h_;let ha:α2.adr[st.length]?=aa p:=x2.pre _ _ (wO aD.rs);let e:(match aW aA st.length with |some (.bB [])=>ax.ok (aJ.ref st.length) (aA.set st.length (.bB ((ks.zip xs).foldl (λ(d:List (PV×PV)) (p:PV×PV)=>dC p.1 p.2 d) [])))|_=>.stuck)=.ok v ao:=e
  cases dO:aW aA st.length with
  |none=>rw[dO]at e;cases e
  |some ob=>
   rw[dO]at e;cases ob with
   |ai _=>cases e
   |dead=>cases e
   |dG _=>cases e
   |bB Ys=>
    cases Ys with
    |cons _ _=>cases e
    |nil=>
     cases e;let(a',l,g1,g2,g3):=r2.bB st.length [] dO;rw[ha]at g1;cases g1;rw[bS]at g3;subst g3;let f7:∀k∈ks,jV k=true:=c_.mp hk;let nd:∀d,b6.bB d≠.dead:=λd z=>by cases z
     let Wu:=wI (o':=.bB ((ks.zip xs).foldl (λd p=>dC p.1 p.2 d) [])) (h':=.dK (oV [] ((ks.zip ws).map λkv=>(jQ kv.1,kv.2)))) r2 ha dO (nd _) (nd _);let Ze:=A3 (o':=.bB ((ks.zip xs).foldl (λd p=>dC p.1 p.2 d) [])) (h':=.dK (oV [] ((ks.zip ws).map λkv=>(jQ kv.1,kv.2)))) r2 ha dO (nd _) (nd _) (λxs z=>by cases z) (λav z=>by cases z;exact(_,rfl,RZ f7 rp (by rw[bS]))) (λav z=>by cases z);refine(g2,(ks.zip ws).map (λkv=>(jQ kv.1,kv.2)),by rw[e2,j7];rfl,?_,?_)
     .rw[cy,uu];lia
     .exact q _ _ α2 (yw.trans (x2.trans Wu)) Ze ⟨p,rfl,ha⟩
def xS9(K:aQ)(t:TA):TE:=λZ H Q=>t Z H λxs H1=>xs.length<=a9/\∀p,H1 p=aj->K.lookup p=aj->Q (.ref p) (upd H1 p (.ai xs))
def xa5(h:PA X es t):PE X (.List es pos) (xS9 X.K t):=by
 intro ae s Z H Q I hq;refine VI (bf (h pos ae s Z H _ I hq) λus s1 ⟨xs,H1,I1,r,z,q⟩=>⟨by rw[<-r.length];exact z,?_⟩);let hf:H1 s1.heap.objs.size=aj:=I1.aF.fresh (bF _);refine(.ref s1.heap.objs.size,upd H1 s1.heap.objs.size (.ai xs),I1.laid (t':=s1.toks) (λb u e=>cv _ e) (bF _) ?_,rfl,q _ hf (A_ I1));exact(z,us,0,r,dY _ rfl)
end
variable{l:List PV}
section
variable{X:Cx}{C:a8}{o:Expr}{io:E}{fw di:aU}{name:Str}{id:String}{m:Mt}
def QL:∀{xs:List PV}{ls:List (List Nat)},eL xs=aa ls->xs=ls.map .str
 |[],ls,h=>by cases h;rfl
 | .str c::r,ls,h=>by
  let h:(eL r).map (c :: ·)=aa ls:=h;let(l,h1,rfl):=d9.mp h;rw[QL h1];rfl
 |.aL::_,_,h=>by cases h
 |.bl _::_,_,h=>by cases h
 |.int _::_,_,h=>by cases h
 |.af _::_,_,h=>by cases h
 |.ai _::_,_,h=>by cases h
def bp(cs:List Nat):Str:=⟨cs.toArray⟩
def Py{K:aQ}{H:Hp}{lv:aq->Prop}:∀{ls:List (List Nat)}{vs:List V},aC K H lv (ls.map .str) vs->vs=ls.map λc=>V.str (bp c)
 |[],vs,h=>by rw[eD,aC]at h;exact h
 | c::r,vs,h=>by
  rw[bJ,aC]at h;let(v,vr,rfl,h1,h2):=h;rw[RP]at h1;rw[h1.1,Py h2];rfl
def R7:∀{ls:List (List Nat)}{aw:List ak},ba (ls.map λc=>V.str (bp c)) aw->StrsAre aw (ls.map bp)
 |[],aw,h=>by rw[eD]at h;cases h;exact .nil
 | c::r,aw,h=>by
  rw[bJ]at h;cases h with
  |cons h1 h2=>
   let(t,rfl):=h1;exact .cons _ t (R7 h2)
def Pb(sep:List Nat):∀ls:List (List Nat),BQ (bp sep) (ls.map bp)=bp (aZ sep ls)
 |[]=>rfl
 |[x]=>rfl
 | x::y::r=>by
  let ih:=Pb sep (y::r);show bp x++bp sep++BQ (bp sep) ((y::r).map bp)=bp (x++sep++aZ sep (y::r));rw[ih];show(⟨(x.toArray++sep.toArray)++(aZ sep (y::r)).toArray⟩:Str)=⟨(x++sep++aZ sep (y::r)).toArray⟩;simp
def RM(sep:List Nat):∀ls:List (List Nat),(aZ sep ls).length<=(ls.map b7).sum+ls.length*sep.length
 |[]=>ft _
 |[x]=>by simp[aZ]
 | x::y::r=>by
  let ih:=RM sep (y::r);let e:aZ sep (x::y::r)=x++sep++aZ sep (y::r):=rfl;rw[e,cA,cA,bJ,pJ,c6 (as:=y::r),Nat.add_mul];lia
def Ao:SZ=16777216:=by unfold SZ;rfl
def Qn{sep:List Nat}{z:PV}{aw:List ak}(hz:(match eL l with |some l=>if(l.map b7).sum+l.length*sep.length<=SZ then aa (PV.str (aZ sep l))else aj |none=>aj)=aa z)
  (h2:aC X.K H lv l vs) (r1:ba vs aw):∃ls:List (List Nat),StrsAre aw (ls.map bp)/\((ls.map bp).map (·.length)).sum+(ls.map bp).length*(dJ ⟨sep.toArray⟩)<=16777216/\∀H',RP X.K H' (aP O st) z (.str (Txt.join ⟨sep.toArray⟩ (ls.map bp))):=by
 cases hs:eL l with
 |none=>rw[hs]at hz;cases hz
 |some ls=>
  rw[hs]at hz;by_cases hc:(ls.map b7).sum+ls.length*sep.length<=SZ
  .let hz:(if(ls.map b7).sum+ls.length*sep.length<=SZ then aa (PV.str (aZ sep ls))else aj)=aa z:=hz
   rw[if_pos hc]at hz;let ez:PV.str (aZ sep ls)=z:=dE hz;let el:=QL hs;subst el;let ev:=Py h2;subst ev;let hm:((ls.map bp).map (·.length))=ls.map b7:=by
    rw[j7];exact List.map_congr_left λc _=>dS c
   refine(ls,R7 r1,?_,λH'=>?_)
   .rw[hm,cy,dS,<-Ao];exact hc
   .let ej:Txt.join ⟨sep.toArray⟩ (ls.map bp)=bp (aZ sep ls):=(PySem.StrLaws.glued_eq_join _ _).trans (Pb sep ls);rw[ej,<-ez,RP];refine(rfl,df (RM sep ls) ?_);rw[Ao]at hc;rw[mj];exact hc
  .let hz:(if(ls.map b7).sum+ls.length*sep.length<=SZ then aa (PV.str (aZ sep ls))else aj)=aa z:=hz
   rw[if_neg hc]at hz;cases hz
def xq7:p9 X "str.join" Aj:=by
 rintro ae s Z H x ws v us Q I rx rs ⟨O,st,px,xs,z,r,hx,pr,hz,q⟩;cases px with
 |str sep=>
  cases pr with
  |nil=>cases hz
  |cons h t=>
   cases t with
   |cons _ _=>rename_i y _ _ _ _ _ _ _;cases y<;>cases hz
   |nil=>
    rename_i y w
    cases y with
    |ai l=>
     let(e1,_):=hx.str;subst e1;let(t1,rfl):=rx;let(a,vs,rfl,h1,h2):=h.ai;cases rs with
     |cons ra rt=>
      cases rt;obtain rfl:=(show _=b9 a from ra);let(aw,r1,p,_):=I.list h1;let(ls,sa,aF,rp):=Qn (O:=O) (st:=st) hz h2 r1;exact join_list p.isList sa aF λt' k=>⟨.str _,H,I.tok _,⟨_,rfl⟩,q _ _ (bt.refl H) (rp H)⟩
    |af l=>
     let(e1,_):=hx.str;subst e1;let(t1,rfl):=rx;let(a,vs,rfl,h1,h2):=h.af;cases rs with
     |cons ra rt=>
      cases rt;obtain rfl:=(show _=b9 a from ra);let(aw,r1,p,_):=I.tuple h1;let(ls,sa,aF,rp):=Qn (O:=O) (st:=st) hz h2 r1;exact join_tuple p sa aF λt' k=>⟨.str _,H,I.tok _,⟨_,rfl⟩,q _ _ (bt.refl H) (rp H)⟩
    |_=>cases hz
 |_=>cases hz
end
def xu(scope up:cB):List (Str×k6):=scope.names.map λ(n,k)=>if(k == .free&&up.kind == .function&&up.names.lookup n==aa .cell)then(n,.cell)else(n,k)
abbrev z8(XN:List Str)(sc:cB):List Nat->List Str->Bool
 |[],_=>true
 |i::bc,x::N=>decide (XN[i]?=aa x)&&decide (sc.names.lookup x=aa .free)&&z8 XN sc bc N
 |_::_,[]=>false
def N3{XN:List Str}{sc:cB}:∀{bc:List Nat}{N:List Str},z8 XN sc bc N=true->∀(j i:Nat),bc[j]?=aa i->∃x,N[j]?=aa x/\XN[i]?=aa x/\sc.names.lookup x=aa .free
 |[],_,_,j,i,e=>by simp at e
 |k::bc,[],h,_,_,_=>by cases h
 | k::bc,x::N,h,j,i,e=>by
  unfold z8 at h;rw[bP,bP]at h;obtain⟨⟨h1,h2⟩,h3⟩:=h;cases j with
  |zero=>simp at e;subst e;exact(x,rfl,of_decide_eq_true h1,of_decide_eq_true h2)
  |succ j=>simpa using N3 h3 j i (by simpa using e)
section
variable{X:Cx}{C:a8}
def sv(i:Nat){pos:aU}(hN:X.N[i]?=aa x)(hv:n5 X.env.scope x)(hd:(x==("__debug__" : Str))=false)
  (i_:(x==("__classdict__" : Str))=false):SE X C (.Name x pos) (.var i):=xx6 hN hv hd i_
def Y1:rW X [] (oJ X.K C aj):=xb5
def Y2(h:ST X C c ic):rW X [c] (oJ X.K C (aa ic)):=xb6 h
def xR8{y:Str}{t:dt}{pos:aU}{cs:List Nat}(hg:Gl X x)(hm:X.mg x=aa (.str y t))(h:y=⟨cs.toArray⟩)(hl:cs.length<=1000)(hd:(x==("__debug__" : Str))=false:=by decide):SE X C (.Name x pos) (.ag (.str cs)) :=
 qz (v:=.str y) (Fi hg hm ⟨t,rfl⟩ hd) λ_ _=>by rw[RP];exact(by rw[h],df hl (by decide))
def xR7{i:Int}{t:dt}{pos:aU}(hg:Gl X x)(hm:X.mg x=aa (.int i t))(hd:(x==("__debug__" : Str))=false:=by decide):SE X C (.Name x pos) (.ag (.int i)) :=
 qz (v:=.int i) (Fi hg hm ⟨t,rfl⟩ hd) λ_ _=>by rw[RP]
abbrev ug:List (List Nat)->List dt->List ak
 |c::cs,t::ts=>.str ⟨c.toArray⟩ t::ug cs ts
 |_,_=>[]
def xR9{pos:aU}{aw:Array ak}{sl:Array (Option ak)}{oc:ak}{cs:List (List Nat)}{ts:List dt}(hg:Gl X x)(hm:X.mg x=aa (.ref a))(hk:X.K.lookup a=aa ⟨oc,aj,.seq aw n,sl⟩)(yM:oc=.type "tuple")
  (hi:aw.toList=ug cs ts) (sF:ts.length=cs.length) (hl:cs.length<=1000) (jI:cs.all (λc=>decide (c.length<=1000))=true) (hd:(x==("__debug__" : Str))=false:=by decide):SE X C (.Name x pos) (.ag (.af (cs.map .str))) :=
 qz (v:=.ref a) (Fi hg hm rfl hd) λH lv=>by
  subst yM;let vs:∀{cs:List (List Nat)}{ts:List dt},ts.length=cs.length->ba (cs.map λc=>V.str ⟨c.toArray⟩) (ug cs ts):=by
   intro cs;induction cs with
   |nil=>intro ts h;cases ts;exact .nil;cases h
   |cons c cs ih=>
    intro ts h;cases ts with
    |nil=>cases h
    |cons t ts=>exact .cons ⟨t,rfl⟩ (ih (by simpa using h))
  let rp:∀{cs:List (List Nat)},cs.all (λc=>decide (c.length<=1000))=true->aC X.K H lv (cs.map .str) (cs.map λc=>V.str ⟨c.toArray⟩):=by
   intro cs;induction cs with
   |nil=>intro _;rw[eD,eD,aC]
   |cons c cs ih=>
    intro h;rw[ff,bP]at h;rw[bJ,bJ,aC];exact(_,_,rfl,by rw[RP];exact⟨rfl,df (of_decide_eq_true h.1) (by decide)⟩,ih h.2)
  let D7:∀{cs:List (List Nat)}{ts:List dt},ts.length=cs.length->(ug cs ts).length=cs.length:=by
   intro cs;induction cs with
   |nil=>intro ts h;cases ts;rfl;cases h
   |cons c cs ih=>
    intro ts h;cases ts with
    |nil=>cases h
    |cons t ts=>show(ug cs ts).length+1=cs.length+1;rw[ih (by simpa using h)]
  rw[RP];refine(a,_,rfl,.inr ⟨_,aw,n,hk,rfl,rfl,rfl,?_,by rw[hi];exact vs sF⟩,rp jI);rw[<-jt,hi,D7 sF];exact df hl (by decide)
end
def N2(p:Int->Int->Bool):∀x y z,iQ p x y=aa z->∃k,z=PV.bl k:=by
 intro x y z h;cases x<;>cases y<;>simp only[iQ,reduceCtorEq,fW]at h;exact(_,h.symm)
def ac0(v:aJ)(vs:List aJ)(st:ay):d8 .find v vs st=(match bQ st vs with |some xs=>(match view st v with |some x=>cQ (NM x xs) st |none=>.stuck)|none=>.stuck):=by
 show(match bQ st vs with |some xs=>jq .find v xs st |none=>.stuck)=_
 cases bQ st vs with
 |none=>rfl
 |some xs=>rfl
def xl9(v:aJ)(vs:List aJ)(st:ay):d8 .join v vs st=(match bQ st vs with |some xs=>(match view st v with |some x=>cQ (Aj x xs) st |none=>.stuck)|none=>.stuck):=by
 show(match bQ st vs with |some xs=>jq .join v xs st |none=>.stuck)=_
 cases bQ st vs with
 |none=>rfl
 |some xs=>rfl
def xv5:∀x xs z,Aj x xs=aa z->∃cs,x=.str cs:=by
 intro x xs z h;cases x<;>first |exact(_,rfl)|cases h
def yp:Al:=⟨[],λ_=>False⟩
def yz1:bu K yp [] H:=by
 let no:∀{n:Nat}{o:b6},aW [] n=aa o->False:=λ{n o} h=>by unfold aW at h;simp at h
 refine(rfl,λn xs h=>(no h).elim,λn av h=>(no h).elim,λn av h=>(no h).elim,λn m a o o' _ _ _ h _=>(no h).elim,λa h=>?_,λn a o _ h _=>(no h).elim,λa h=>h.elim);rcases h with h |⟨n,o,_,h,_⟩
 .exact h.elim
 .exact(no h).elim
def Q6{K:aQ}{H:Hp}{lv:aq->Prop}:∀ns:List Int,aC K H lv (ns.map .int) (ns.map .int)
 |[]=>by rw[eD,eD,aC]
 |i::r=>by rw[bJ,bJ,aC];exact(_,_,rfl,by rw[RP],Q6 r)
def yy3{ns:List Int}(h:bL K H a (ns.map V.int)):cn (RV K yp [] H) [.p (.ai (ns.map .int))] [.ref a]:=by
 refine .cons ?_ .nil;show RP K H (aP yp []) (.ai (ns.map .int)) (.ref a);rw[RP];refine(a,_,rfl,h,λl=>?_,Q6 ns);rcases l with l |⟨n,o,_,l,_⟩
 .exact l
 .unfold aW at l;simp at l
section
variable{K:aQ}{O:Al}{st:ay}{H:Hp}{n:Nat}{a:aq}{o:b6}
def RO{b:aq}(h:aP O (st.set n .dead) b):aP O st b:=by
 rcases h with h |⟨m,x,e1,e2,e3⟩
 .exact .inl h
 .rcases gM e2 with⟨_,rfl⟩|⟨_,e2⟩
  .exact absurd rfl e3
  .exact .inr ⟨m,x,e1,e2,e3⟩
def Ga:bD K O st H O (st.set n .dead) H:=⟨λ_ _ h=>h,λ_ _ h=>h,λb vs h nl=>⟨h,λl=>nl (RO l)⟩,rfl,λ_ _=>rfl⟩
def yC6(r:bu K O st H):bu K O (st.set n .dead) H:=by
 let ex:bD K O st H O (st.set n .dead) H:=Ga;refine(by rw[Bx];exact r.len,λm xs h=>?_,λm av h=>?_,λm av h=>?_,λm m' b x x' cj e1 e2 e3 e4=>?_,λb h=>r.nk b (RO h),λm b x e1 e2 e3=>?_,r.bq)
 .rcases gM h with⟨_,e⟩|⟨_,h⟩
  .cases e
  .let(b,vs,e1,e2,e3):=r.ai m xs h;exact(b,vs,e1,e2,ex.cE e3)
 .rcases gM h with⟨_,e⟩|⟨_,h⟩
  .cases e
  .let(b,vs,e1,e2,e3):=r.bB m av h;exact(b,vs,e1,e2,bS.mono ex.af ex.ai _ _ e3)
 .rcases gM h with⟨_,e⟩|⟨_,h⟩
  .cases e
  .let(b,vs,e1,e2,e3):=r.dG m av h;exact(b,vs,e1,e2,eO.mono ex.af ex.ai _ _ e3)
 .rcases gM e3 with⟨_,e⟩|⟨_,e3⟩
  .exact .inl e
  .rcases gM e4 with⟨_,e⟩|⟨_,e4⟩
   .exact .inr e
   .exact r.inj m m' b x x' cj e1 e2 e3 e4
 .rcases gM e2 with⟨_,e⟩|⟨_,e2⟩
  .exact absurd e e3
  .exact r.gF m b x e1 e2 e3
def yC5(r:bu K O st H)(ha:O.adr[n]?=aa a)(ho:aW st n=aa o)(hd:o≠.dead):¬aP O (st.set n .dead) a:=by
 rintro (h |⟨m,x,e1,e2,e3⟩)
 .exact r.gF n a o ha ho hd h
 .rcases gM e2 with⟨_,rfl⟩|⟨hm,e2⟩
  .exact e3 rfl
  .rcases r.inj m n a x o hm e1 ha e2 ho with z |z
   .exact e3 z
   .exact hd z
end
section
variable{X:Cx}{C:a8}{W:Nat}{e a b:Expr}{ie ia ib:E}{pos:aU}
def yy5(h:SE X C e ie):SE X C e (.freeze ie) :=
 PE.mono h λZ H Q h_=>by
  let(env,O,st,v,ao,aD,e,q):=h_;rw[yr0]at e;let(u,aA,e1,e):=ax.bE e;refine(env,O,st,u,aA,aD,e1,λw H1 α1 x1 r1 v1=>?_);cases u with
  |p x=>cases e;exact q w H1 α1 x1 r1 v1
  |ref n=>
   let e:(match aW aA n with |some (.ai xs)=>ax.ok (aJ.p (.ai xs)) (aA.set n .dead)|_=>.stuck)=.ok v ao:=e
   cases dO:aW aA n with
   |none=>rw[dO]at e;cases e
   |some ob=>
    rw[dO]at e;cases ob with
    |bB _=>cases e
    |dG _=>cases e
    |dead=>cases e
    |ai xs=>
     cases e;let(b,rfl,ha):=v1;let(b',vs,g1,g2,g3):=r1.ai n xs dO;rw[ha]at g1;cases g1;let nd:b6.ai xs≠.dead:=by intro z;cases z
     refine q _ H1 α1 (x1.trans Ga) (yC6 r1) ?_;show RP X.K H1 (aP α1 (aA.set n .dead)) (.ai xs) (.ref b);rw[RP];exact(b,vs,rfl,bL.of g2,yC5 r1 ha dO nd,(Ga (K:=X.K) (H:=H1)).cE g3)
def tF(K:aQ)(C:a8)(ir:E):TE:=λZ H Q=>∃env O st xs ao,At K O st H env Z/\az C ir env st=.ok (.p (.ai xs)) ao /\
 ∀p H' O' ws,bD K O st H O' ao H'->bu K O' ao H'->H' p=aj->K.lookup p=aj->aC K H' (aP O' ao) xs ws->Q (.ref p) (upd H' p (.ai ws))
@[reducible] def SF(X:Cx)(C:a8)(e:Expr)(ir:E):Prop:=PE X e (tF X.K C ir)
def QJ(h:SF X C e ie):SE X C e (.fK ie) :=
 PE.mono h λZ H Q h_=>by
  let(env,O,st,v,ao,aD,e,q):=h_;rw[Qb]at e;let(x,aA,e1,e):=ax.mz e;cases x with
  |ai xs=>
   cases e;refine(env,O,st,xs,aA,aD,e1,λp H1 α1 ws x1 r1 hp hK rp=>?_);let ex:=AQ (o:=.ai xs) (h':=.ai ws) r1 hp hK;let rs:=Gz (o:=.ai xs) (h':=.ai ws) r1 hp hK (λys z=>by cases z;exact(ws,rfl,rp)) (λav z=>by cases z) (λav z=>by cases z);exact q _ _ _ (x1.trans ex) rs ⟨p,rfl,wO r1⟩
  |_=>cases e
def xx9(h:SA X C es bx)(hl:es.length<=1000)(hi:bx.length=es.length):SF X C (.List es pos) (.list false bx) :=
 PE.mono (xa5 h) λZ H Q h_=>by
  let(env,O,st,xs,ao,aD,e,q):=h_;rw[Qa]at e;let(ys,aA,e1,e):=ax.bE e;simp only[mk,eN,if_false]at e;cases e;refine(env,O,st,_,ao,aD,wF e1,λws H1 α1 x1 r1 p=>?_);let rp:=Au p;refine(?_,λa ha hK=>q a H1 α1 ws x1 r1 ha hK rp);rw[<-rp.length,xm e1,hi];exact df hl (by decide)
def yZ8:dy X (binaryOp .Add) (λx y H Q=>∃l1 l2 vs ws,x=.ref l1/\y=.ref l2/\bL X.K H l1 vs/\bL X.K H l2 ws/\vs.length+ws.length<=a9/\∀p,H p=aj->X.K.lookup p=aj->Q (.ref p) (upd H p (.ai (vs++ws)))):=by
 rintro ae s Z H x y v u Q I rx ry ⟨l1,l2,vs,ws,e1,e2,h1,h3,hl,q⟩;subst e1 e2;cases rx;cases ry;let(aw,r1,p1,_):=I.list h1;let(eI,r2,p2,_):=I.list h3;obtain⟨⟨cls,dd,data,sl⟩,n,ho,hc,_,hd⟩:=id p1;obtain⟨⟨Cy,n9,data2,mT⟩,n2,dk,i9,_,cf⟩:=id p2;simp only at hc hd i9 cf;subst hc hd i9 cf;let q1:=r1.length;let q2:=r2.length;refine IF ⟨_,ho,rfl⟩ ⟨_,dk,rfl⟩ VB VF UW UN (UJ _ _) (Ua l1 l2 aw.toArray eI.toArray n n2 dd n9 sl mT (by simp;lia)) ⟨ho,dk,?_⟩;let ea:aw.toArray++eI.toArray=(aw++eI).toArray:=by simp
 rw[ea];exact(.ref _,_,I.yY (t':=s.toks) (r1.append r2) (by rw[cA];lia),rfl,q _ I.fresh (A_ I))
def xx8(ha:SE X C a ia)(hb:SE X C b ib):SF X C (.BinOp a .Add b pos) (.bin .add ia ib) :=
 PE.mono (NR yZ8 ha hb) λZ H Q h_=>by
  let(env,O,st,xs,ao,aD,e,q):=h_;rw[tL]at e;let(va,aA,e1,e):=ax.bE e;let(vb,aI,e2,e):=ax.bE e;let(x,y,u,h1,h2,h3,h4,h5):=nH e;cases h4;subst h5;refine(env,O,st,va,aA,aD,e1,λw H1 α1 x1 r1 v1=>?_);refine(env,α1,aA,vb,ao,aD.next x1 r1,e2,λw2 H2 α2 x2 r2 v2=>?_);let wx:=(x2.rv v1).view r2 h1;let wy:=v2.view r2 h2;let h3:qA x y=aa (.ai xs):=h3;cases x<;>cases y<;>simp only[qA,l_,reduceCtorEq,fW,PV.ai.injEq,false_and,and_false]at h3;let(hl,rfl):=h3;rw[nq]at hl;let(l1,vs,rfl,g1,g2):=wx.ai;let(l2,ws,rfl,g3,g4):=wy.ai;let k1:=g2.length;let k2:=g4.length;exact(l1,l2,vs,ws,rfl,rfl,g1,g3,by lia,λp hp hK=>q p H2 α2 _ (x1.trans x2) r2 hp hK (g2.append g4))
end
section
variable{X:Cx}{C:a8}{o e:Expr}{es:List Expr}{io:E}{bx:List E}{fw di:aU}{name:Str}{id:String}{m:Mt}
def Ce(X:Cx)(id:String)(g:List PV->List PV->Option (PV×List PV)):Prop :=
 uQ X id λx ws H Q=>∃O st a l vs xs z l',bu X.K O st H/\x=.ref a/\H a=aa (.ai vs)/\aC X.K H (aP O st) l vs/\cn (RW X.K O st H) xs ws/\g xs l=aa (z,l') /\
  ∀w mZ,RP X.K H (aP O st) z w->aC X.K H (aP O st) l' mZ->Q w (upd H a (.ai mZ))
def ym(X:Cx)(id:String)(g:List PV->List PV->Option (PV×List PV)):Prop :=
 uQ X id λx ws H Q=>∃O st a l vs xs z l',bu X.K O st H/\x=.ref a/\H a=aa (.ai vs)/\aC X.K H (aP O st) l vs/\aC X.K H (aP O st) xs ws/\g xs l=aa (z,l') /\
  ∀w mZ,RP X.K H (aP O st) z w->aC X.K H (aP O st) l' mZ->Q w (upd H a (.ai mZ))
def Pu{K:aQ}{O:Al}{st:ay}{H:Hp}:∀{vs:List aJ}{ws:List V}{xs:List PV},cn (RV K O st H) vs ws->iR vs=aa xs->aC K H (aP O st) xs ws
 |[],ws,xs,h,e=>by cases h;cases e;rw[aC]
 |.ref _::_,ws,xs,h,e=>by cases e
 | .p x::r,ws,xs,h,e=>by
  cases h with
  |cons q t=>
   unfold iR at e;cases e2:iR r with
   |none=>rw[e2]at e;cases e
   |some ys=>
    rw[e2]at e;cases e;rw[aC];exact(_,_,rfl,q,Pu t e2)
def RU{ov:aJ}{g:List PV->Option (PV×List PV)}(h:iw ov st g=.ok v ao):∃n l z l',ov=.ref n/\aW st n=aa (.ai l)/\g l=aa (z,l')/\v=.p z/\ao=st.set n (.ai l'):=by
 cases ov with
 |p _=>cases h
 |ref n=>
  let h:(match nv st n with |some l=>(match g l with |some (x,l')=>ax.ok (aJ.p x) (st.set n (.ai l'))|none=>.stuck)|none=>.stuck)=.ok v ao:=h
  unfold nv at h;cases ho:aW st n with
  |none=>rw[ho]at h;cases h
  |some ob=>
   rw[ho]at h;cases ob with
   |bB _=>cases h
   |dG _=>cases h
   |dead=>cases h
   |ai l=>
    simp only at h;cases hg:g l with
    |none=>rw[hg]at h;cases h
    |some p=>
     let(z,l'):=p;rw[hg]at h;cases h;exact(n,l,z,l',rfl,ho,hg,rfl,rfl)
def PQ{l':List PV}{mZ:List V}(r:bu K O st H)(ha:O.adr[n]?=aa a)(ho:aW st n=aa (.ai l))(h:aC K H (aP O st) l' mZ):
  bD K O st H O (st.set n (.ai l')) (upd H a (.ai mZ))/\bu K O (st.set n (.ai l')) (upd H a (.ai mZ)):=by
 let nd:∀l,b6.ai l≠.dead:=λl z=>by cases z
 exact(wI r ha ho (nd _) (nd _),A3 r ha ho (nd _) (nd _) (λxs z=>by cases z;exact⟨_,rfl,h⟩) (λav z=>by cases z) λav z=>by cases z)
def Ou{x:PV}(r:bu K O st H)(ha:O.adr[n]?=aa a)(hv:view st (.ref n)=aa x):zJ K "list" (.ref a) H:=by
 let w0:=(show RV K O st H (.ref n) (.ref a)from⟨a,rfl,ha⟩).view r hv;let hx:∃xs,x=.ai xs:=by
  let h:(match aW st n with |some (.ai xs)=>aa (PV.ai xs)|_=>aj)=aa x:=hv
  split at h
  .exact(_,(dE h).symm)
  .cases h
 let(ys,rfl):=hx;let(b,us,eb,h1,_):=w0.ai;cases eb;exact .inl ⟨rfl,us,h1⟩
def xw8{g:List PV->List PV->Option (PV×List PV)}(slot:Slot "list" name id)(d4:rP (.builtin id)=pure (.type "method_descriptor"))(hm:ym X id g)(ho:SE X C o io)(ha:SA X C (e::es) bx)
  (hg:∀v vs st,d8 m v vs st=(match iR vs with |some xs=>iw v st (g xs)|none=>.stuck))
  (mC:uF o name X.env (eval o X.env)=eval o X.env)
  (vg:((dW di (bA (e::es) X.env)).all (λx=>!x.1)&&(BS di (BY [] X.env)).all (λx=>x.1.isSome)
   && decide ((e::es).length+([]:List nP).length+(if([]:List nP).isEmpty then 0 else 1)<30))=true)
  (mK:(fw.endLine==di.line)=true) (hs:bA (e::es) X.env=(false,eval e X.env)::bA es X.env) (vv:(dW di (bA es X.env)).any (·.1)=false) :
  SE X C (.Call (.Attribute o name fw) (e::es) [] di) (.cD m io bx) :=
 PE.mono (NQ US slot d4 hm ho ha mC vg mK hs vv) λZ H Q h_=>by
  let(env,O,st,v,ao,aD,e,q):=h_;rw[GK]at e;let(ov,aA,e1,e):=ax.bE e;let(_,st0,e0,e):=ax.bE e;obtain⟨⟨x0,yT⟩,jb⟩:=Gs e0;rw[jb]at e;let(vs,aI,e2,e):=ax.bE e;rw[hg]at e;cases hv:iR vs with
  |none=>rw[hv]at e;cases e
  |some xs=>
   rw[hv]at e;let(n,l,z,l',rfl,dO,C8,rfl,rfl):=RU e;refine(env,O,st,_,aA,aD,e1,λw H1 α1 x1 r1 v1=>?_);let(a,rfl,ha):=v1;refine(Ou r1 ha yT,env,α1,aA,vs,aI,aD.next x1 r1,e2,λws H2 α2 x2 r2 pr=>?_);let Ka:=x2.pre n a ha;let(a',us,g1,g2,g3):=r2.ai n l dO;rw[Ka]at g1;cases g1;refine(α2,aI,a,l,us,xs,z,l',r2,rfl,g2,g3,Pu pr hv,C8,λw MN jd D1=>?_);let(c1,c2):=PQ r2 Ka dO D1;exact q w _ α2 (x1.trans (x2.trans c1)) c2 (c1.rp jd)
def xc6{g:List PV->List PV->Option (PV×List PV)}(slot:Slot "list" name id)(d4:rP (.builtin id)=pure (.type "method_descriptor"))(hm:Ce X id g)(ho:SE X C o io)
  (hg:∀v st,d8 m v [] st=iw v st (g []))
  (mC:uF o name X.env (eval o X.env)=eval o X.env) (mK:(fw.endLine==di.line)=true) :
  SE X C (.Call (.Attribute o name fw) [] [] di) (.cD m io []) :=
 PE.mono (xt1 US slot d4 hm ho mC mK) λZ H Q h_=>by
  let(env,O,st,v,ao,aD,e,q):=h_;rw[GK]at e;let(ov,aA,e1,e):=ax.bE e;let(_,st0,e0,e):=ax.bE e;obtain⟨⟨x0,yT⟩,jb⟩:=Gs e0;rw[jb]at e;let(vs,aI,e2,e):=ax.bE e;rw[rf]at e2;cases e2;rw[hg]at e;let(n,l,z,l',rfl,dO,C8,rfl,rfl):=RU e;refine(env,O,st,_,aA,aD,e1,λw H1 α1 x1 r1 v1=>?_);let(a,rfl,ha):=v1;let(a',us,g1,g2,g3):=r1.ai n l dO;rw[ha]at g1;cases g1;refine(Ou r1 ha yT,α1,aA,a,l,us,[],z,l',r1,rfl,g2,g3,.nil,C8,λw MN jd D1=>?_);let(c1,c2):=PQ r1 ha dO D1;exact q w _ α1 (x1.trans c1) c2 (c1.rp jd)
def yF9:ym X "list.append" jn:=by
 rintro ae s Z H x ws v us Q I rx rs ⟨O,st,a,l,vs,xs,z,l',r,e,hH,hl,hx,hg,q⟩;subst e;unfold jn at hg
 match xs,hx,hg with
 |[],_,hg=>cases hg
 |_::_::_,_,hg=>cases hg
 |[y],hx,hg=>
  let hg:(if l.length<SZ then aa (PV.aL,l++[y])else aj)=aa (z,l'):=hg
  by_cases hc:l.length<SZ
  .rw[if_pos hc]at hg;cases hg;rw[aC]at hx;let(w,wr,rfl,h1,h2):=hx;rw[aC]at h2;subst h2;rw[nq]at hc;exact RT ae s Z H _ _ v us Q I rx rs ⟨a,vs,w,rfl,rfl,hH,by rw[<-hl.length];exact hc,q _ _ (by rw[RP]) (hl.snoc h1)⟩
  .rw[if_neg hc]at hg;cases hg
def aC.reverse:∀{xs:List PV}{vs:List V},aC K H lv xs vs->aC K H lv xs.reverse vs.reverse
 |[],vs,h=>by rw[aC]at h;subst h;rw[Tp,Tp,aC]
 | x::r,vs,h=>by
  rw[aC]at h;let(v,vr,rfl,h1,h2):=h;rw[nN,nN];exact(aC.reverse h2).snoc h1
def yu2:Ce X "list.reverse" wA:=by
 rintro ae s Z H x ws v us Q I rx rs ⟨O,st,a,l,vs,xs,z,l',r,e,hH,hl,hx,hg,q⟩;subst e;unfold wA at hg;cases hx with
 |cons _ _=>cases hg
 |nil=>
  cases hg;exact ym1 ae s Z H _ _ v us Q I rx rs ⟨a,vs,rfl,rfl,hH,q _ _ (by rw[RP]) hl.reverse⟩
def yD8(v:aJ)(vs:List aJ)(st:ay):d8 .append v vs st=(match iR vs with |some xs=>iw v st (jn xs)|none=>.stuck):=by
 show(match iR vs with |some xs=>jq .append v xs st |none=>.stuck)=_
 cases iR vs<;>rfl
def yr9(v:aJ)(st:ay):d8 .reverse v [] st=iw v st (wA []):=by rw[yY6];rfl
end
section
variable{X:Cx}{C:a8}{W:Nat}{es:List Expr}{is:List Nat}{pos:aU}
def iF.mono{t t':mv}(h:iF X es t)(m:∀vs Z H Q,t' vs Z H Q->t vs Z H Q):iF X es t':=λae s Z H vs us Q I r q=>h ae s Z H vs us Q I r (m _ _ _ _ q)
def Ox(is:List Nat)(xs:List PV)(env:Env):Env:=(is.zip xs).foldl (λe p=>e.set p.1 (aa (.p p.2))) env
def vV(K:aQ)(is:List Nat):mv:=λvs Z H Q=>∃env O st xs,At K O st H env Z/\aC K H (aP O st) xs vs/\xs.length=is.length/\∀Z',At K O st H (Ox is xs env) Z'->Q Z' H
def xc8:iF X [] (vV X.K []):=iF.mono xa6 λvs Z H Q h_=>by
 let(env,O,st,xs,aD,rp,hl,q):=h_;let e:xs=[]:=Br (by simpa using hl);subst e;rw[aC]at rp;exact(rp,q Z aD)
def yK2(hN:X.N.Nodup)(hi:X.N[i]?=aa x)(hx:Loc X.env.scope x)(h:iF X es (vV X.K is))(hf:X.fn x=true\/X.env.scope.names.lookup x=aa .local)
  (hs:(i0 (.Name x pos::es) X.env).map (·.2)=assign (.Name x pos) X.env::(i0 es X.env).map (·.2)):iF X (.Name x pos::es) (vV X.K (i::is)) :=
 iF.mono (yI4 (Qy hN hi hx hf) h hs) λvs Z H Q h_=>by
  let(env,O,st,xs,aD,rp,hl,q):=h_;cases xs with
  |nil=>cases hl
  |cons y ys=>
   rw[aC]at rp;let(v,vr,rfl,h1,h2):=rp;exact(v,vr,rfl,env.set i (aa (.p y)),O,st,ys,aD.set h1,h2,by simpa using hl,q)
def xy0{k:Nat}(hc:X.calm=true)(h:iF X es (vV X.K is))(hn:(i0 es X.env).length=is.length)(jb:(i0 es X.env).findIdx? (·.1)=aj):SG X (.Tuple es k pos) (.af is) :=
 PG.mono (xu0 hc h hn jb) λv Z H Q h_=>by
  let(env,O,st,x,be,aD,rp,e,q):=h_;cases x with
  |af xs=>
   let e:(if is.length=xs.length then aa (Ox is xs env)else aj)=aa be:=e
   by_cases hl:is.length=xs.length
   .rw[if_pos hl]at e;cases e;rw[RP]at rp;let(a,vs,rfl,h1,h2):=rp;exact(a,vs,rfl,h1,by rw[<-h2.length,hl],env,O,st,xs,aD,h2,hl.symm,q)
   .rw[if_neg hl]at e;cases e
  |_=>cases e
end
section
variable{X:Cx}{ae:List (aq×aV)}{Z:L2.St}{H:Hp}{s:au}{lv:aq->Prop}
def ym3(I:Inv X ae Z H s)
  (ih:0<n->∀(px py:PV)(x y:V)(v u:ak)(A:bb),RW X.K O st H px x->RW X.K O st H py y->RelV x v->RelV y u->(bM px<=n-1\/bM py<=n-1)->A.units+(n-1)+1<c8->RcAt A s v u (aH px py)/\EqAt A s v u (aH px py))
  (px py:PV) (x y:V) (v u:ak) (A:bb) (hx:RW X.K O st H px x) (hy:RW X.K O st H py y) (rx:RelV x v) (ry:RelV y u) (hd:bM px<=n\/bM py<=n) (hu:A.units+n+1<c8) :
  RcNeAt A s v u (!aH px py):=by
 let bO:A.units<c8:=by lia
 rcases Af I hx rx with⟨rfl,rfl⟩|⟨c1,rfl,rfl⟩|⟨i1,t,rfl,rfl⟩|⟨e1,t,rfl,rfl⟩|⟨e1,a,vs,aw,rfl,rfl,rfl,q1,r1,p1⟩|⟨e1,a,vs,aw,rfl,rfl,rfl,q1,r1,p1⟩<;>rcases Af I hy ry with⟨rfl,rfl⟩|⟨c2,rfl,rfl⟩|⟨i2,t',rfl,rfl⟩|⟨e2,t',rfl,rfl⟩|⟨e2,b,ws,eI,rfl,rfl,rfl,q2,r2,p2⟩|⟨e2,b,ws,eI,rfl,rfl,rfl,q2,r2,p2⟩
 .exact .none_none
 .exact .none_bool _
 .exact .none_int _ _
 .exact .none_str _ _
 .exact .none_tuple p2 bO
 .exact .none_list p2 bO
 .exact .bool_none _
 .exact .bool_bool _ _
 .exact .bool_int _ _ _
 .exact .bool_str _ _ _
 .exact .bool_tuple _ p2 bO
 .exact .bool_list _ p2 bO
 .exact .int_none _ _
 .exact .int_bool _ _ _
 .exact .int_int _ _ _ _
 .exact .int_str _ _ _ _
 .exact .int_tuple _ _ p2 bO
 .exact .int_list _ _ p2 bO
 .exact .str_none _ _
 .exact .str_bool _ _ _
 .exact .str_int _ _ _ _
 .rw[show aH (.str e1) (.str e2)=((⟨e1.toArray⟩:Str)==⟨e2.toArray⟩)by rw[Oy,aH]];exact .str_str _ _ _ _
 .exact .str_tuple _ _ p2 bO
 .exact .str_list _ _ p2 bO
 .exact .tuple_none p1 bO
 .exact .tuple_bool _ p1 bO
 .exact .tuple_int _ _ p1 bO
 .exact .tuple_str _ _ p1 bO
 .let hn:0<n:=by simp at hd;lia
  let iK:cC e1<=n-1\/cC e2<=n-1:=by simp at hd;lia
  let it:=A8 (n:=n-1) (A:=A) (ih hn) q1 q2 r1 r2 iK ();let l1:=q1.length;let l2:=q2.length;let m1:=r1.length;let m2:=r2.length;let rc:RcNeAt A s (.ref a) (.ref b) (!aH (.af e1) (.af e2)):=by
   let z:=RcNeAt.tuples p1 p2 bO it;rw[aH,qY];simp only[cV]at z;rw[l1,l2,m1,m2];exact z
  exact rc
 .exact .tuple_list p1 p2 bO
 .exact .list_none p1 bO
 .exact .list_bool _ p1 bO
 .exact .list_int _ _ p1 bO
 .exact .list_str _ _ p1 bO
 .exact .list_tuple p1 p2 bO
 .let hn:0<n:=by simp at hd;lia
  let iK:cC e1<=n-1\/cC e2<=n-1:=by simp at hd;lia
  let it:=A8 (n:=n-1) (A:=A) (ih hn) q1 q2 r1 r2 iK ();let l1:=q1.length;let l2:=q2.length;let m1:=r1.length;let m2:=r2.length;let rc:RcNeAt A s (.ref a) (.ref b) (!aH (.ai e1) (.ai e2)):=by
   by_cases hz:aw.length=eI.length
   .let z:=RcNeAt.lists p1 p2 (by simpa using hz) bO it;rw[aH,qY];simp only[cV]at z;rw[l1,l2,m1,m2,<-hz,TQ,beq_self_eq_true,uh];exact z
   .let z:=RcNeAt.lists_lengths p1 p2 (by simpa using hz) bO;let e:aH (.ai e1) (.ai e2)=false:=by
     rw[aH,qY,Hg];exact .inr (by rw[beq_eq_false_iff_ne];lia)
    rw[e];exact z
  exact rc
def LX(hu:X.A.units+200<c8):cw X (compareOp .NotEq) (λx y=>if eM (bM x) (bM y)then aa (.bl (!aH x y))else aj):=by
 rintro ae s Z H x y v u Q I rx ry ⟨O,st,px,py,z,r,hx,hy,hz,q⟩;simp only[l_,fW]at hz;let(hd,hz):=hz;let iK:bM px<=100\/bM py<=100:=by simpa[eM]using hd
 exact(ym3 I (n:=100) (λ_=>E6 I 99) px py x y v u X.A hx hy rx ry iK ()) _ _ _ _ ⟨.bl _,H,I,rfl,q _ _ (bt.refl H) (by rw[<-hz,RP])⟩
end
abbrev Ah(v:ak):fh ak:=match v with
 |.bool k=>pure (.bool (!k))
 |v=>pure v
def yG9(a b:ak):compareOp .NotIn a b=compareOp .In a b >>= Ah:=by
 show(do return gT (!(<-contains b a)):fh ak)=((do return gT (<-contains b a):fh ak) >>= Ah)
 simp only[bind_assoc,pure_bind,Ah]
section
variable{X:Cx}
def cw.flip{g':PV->PV->Option PV}(h:cw X (compareOp op) g)(e:∀a b,compareOp cR a b=compareOp op a b >>= Ah)(hg:∀x y z,g' x y=aa z->∃b,g x y=aa (.bl b)/\z=.bl (!b)):cw X (compareOp cR) g':=by
 rintro ae s Z H x y v u Q I rx ry ⟨O,st,px,py,z,r,hx,hy,hz,q⟩;let(b,hb,rfl):=hg _ _ _ hz;rw[e v u];refine aE (bf (h ae s Z H x y v u (λw H'=>w=.bl b/\bt H H') I rx ry ⟨O,st,px,py,.bl b,r,hx,hy,hb,λw H' s' rp=>⟨by rw[RP]at rp;exact rp,s'⟩⟩) λw s1 h_=>?_);let(x1,H1,I1,r1,e1,Zg):=h_;subst e1;obtain rfl:w=gT b:=r1;exact aX ⟨.bl _,H1,I1,rfl,q _ _ Zg (by rw[RP])⟩
def yZ3(hu:X.A.units+200<c8):cw X (compareOp .NotIn) (λx y=>(isIn x y).map λb=>.bl (!b)) :=
 (EF hu).flip yG9 λx y z h=>by
  let(b,hb,rfl):=d9.mp h;exact(b,by rw[hb];rfl,rfl)
def yB7{n:Bool}{x y z:PV}(h:z7 n x y=aa z):(y=.aL/\z=.bl (decide (x=.aL) != n))\/∃b,y=.bl b/\z=.bl (decide (x=.bl b) != n):=by
 cases y with
 |aL=>
  refine .inl ⟨rfl,?_⟩;cases x<;>(let h:=dE h;subst h;cases n<;>simp)
 |bl b=>
  refine .inr ⟨b,rfl,?_⟩;cases x with
  |bl a=>let h:=dE h;subst h;cases n<;>cases a<;>cases b<;>decide
  |_=>let h:=dE h;subst h;cases n<;>simp
 |_=>cases x<;>cases h
def LW:cw X (compareOp .Is) (z7 false):=by
 rintro ae s Z H x y v u Q I rx ry ⟨O,st,px,py,z,r,hx,hy,hz,q⟩;rcases yB7 hz with⟨rfl,rfl⟩|⟨b,rfl,rfl⟩
 .let ey:=hy.aL;subst ey;refine xs2 ae s Z H x _ v u Q I rx ry ⟨rfl,q _ _ (bt.refl H) ?_⟩;rw[RP];congr 1;rw[SH];let:(px=.aL)↔(x=V.aL):=by
   cases px with
   |aL=>simp[hx.aL]
   |bl _=>simp[hx.bl]
   |int _=>simp[hx.int]
   |str _=>simp[hx.str.1]
   |af _=>let(a,vs,rfl,_):=hx.af;simp
   |ai _=>let(a,vs,rfl,_):=hx.ai;simp
  simp only[this]
 .let ey:=hy.bl;subst ey;obtain rfl:u=gT b:=ry;let fin:∀k,decide (px=PV.bl b)=k->EP X ae Z Q (.bool k) s:=λk e=>⟨.bl k,H,I,rfl,q _ _ (bt.refl H) (by rw[RP,e,SH])⟩;show aG _ _ (do return gT (<-isSame v (.bool b)):fh ak) _ _ _
  cases px with
  |aL=>
   let ex:=hx.aL;subst ex;obtain rfl:v=gA:=rx;exact aE (aX (aX (fin _ (by cases b<;>rfl))))
  |bl a=>
   let ex:=hx.bl;subst ex;obtain rfl:v=gT a:=rx;exact aE (aX (aX (fin _ (by cases a<;>cases b<;>rfl))))
  |int i=>
   let ex:=hx.int;subst ex;let(t,rfl):=rx;exact aE (aX (aX (fin _ (by cases b<;>rfl))))
  |str i=>
   let ex:=hx.str.1;subst ex;let(t,rfl):=rx;exact aE (aX (aX (fin _ (by cases b<;>rfl))))
  |af i=>
   let(a,vs,rfl,_):=hx.af;obtain rfl:v=b9 a:=rx;exact aE (aX (aX (fin _ (by cases b<;>rfl))))
  |ai i=>
   let(a,vs,rfl,_):=hx.ai;obtain rfl:v=b9 a:=rx;exact aE (aX (aX (fin _ (by cases b<;>rfl))))
end
section
variable{X:Cx}{C:a8}{e:Expr}{ie:E}{pos p:aU}
def yY8:jr X (.type "tuple") (f1 Od):=by
 rintro ae s Z H ws us Q I rs ⟨O,st,xs,z,r,pr,hz,q⟩;cases pr with
 |nil=>cases hz
 |cons h t=>
  cases t with
  |cons _ _=>cases hz
  |nil=>
   rename_i x w
   cases x with
   |af l=>
    let(a,vs,rfl,h1,h2):=h.af;cases hz;exact Sq ae s Z H _ us Q I rs ⟨a,vs,rfl,.inr ⟨h1,q _ _ (bt.refl H) (by rw[RP];exact(a,vs,rfl,h1,h2))⟩⟩
   |ai l=>
    let(a,vs,rfl,h1,h2):=h.ai;cases hz;refine Sq ae s Z H _ us Q I rs ⟨a,vs,rfl,.inl ⟨h1,λb hb=>?_⟩⟩;let s1:bt H (upd H b (.af vs)):=fB hb _;exact q _ _ s1 (by rw[RP];exact(b,vs,rfl,bR.of dZ,(bD.of_same r s1).cE h2))
   |_=>cases hz
def OS(f:Nat->Int):∀k:Nat,f (argBest (λi j=>decide (f i > f j)) k)=m_ (f 0) ((cF k).map λi=>f (i+1))
 |0=>rfl
 | k+1=>by
  let snoc:∀(r:List Int)(m x:Int),m_ m (r++[x])=(if m_ m r<x then x else m_ m r):=by
   intro r;induction r with
   |nil=>intro m x;rfl
   |cons y r ih=>intro m x;rw[fD,m_,ih,m_]
  rw[Tn,kQ,Td,snoc,<-OS f k,argBest];by_cases h:f (k+1) > f (argBest (λi j=>decide (f i > f j)) k)
  .rw[if_pos (by simpa using h),if_pos h]
  .rw[if_neg (by simpa using h),if_neg h]
def xO0(hc:X.calm=true):jr X (.builtin "max") (f1 (ny v9)):=by
 rintro ae s Z H ws us Q I rs ⟨O,st,xs,z,r,pr,hz,q⟩;cases pr with
 |nil=>cases hz
 |cons h t=>
  cases t with
  |cons _ _=>cases hz
  |nil=>
   rename_i x w
   cases x with
   |ai l=>
    let hz:v9 l=aa z:=hz;unfold v9 at hz;cases hi:jo l with
    |none=>rw[hi]at hz;cases hz
    |some ns=>
     rw[hi]at hz;cases ns with
     |nil=>cases hz
     |cons n0 nr=>
      let oy:PV.int (m_ n0 nr)=z:=dE hz;let el:=Fe hi;subst el;let(a,vs,rfl,h1,h2):=h.ai;cases rs with
      |cons ra rt=>
       cases rt;obtain rfl:=(show _=b9 a from ra);let(aw,r1,p,_):=I.list h1;let ev:=Gq h2;subst ev;let(ps,rfl,jJ):=FK r1;let hit:(ps.map (λp=>mh p.1 p.2)).toArray=BX ps.toArray:=by simp[BX]
       let dH:ps.length=nr.length+1:=by let:=congrArg b7 jJ;simpa using this
       refine max_intList (xs:=ps.toArray) (I.ok.hd hc) (by rw[<-hit];exact p.isList) (by simp;lia) λv h' tk hv hk=>?_;let(tv,rfl):=intItems_at hv;refine(.int _,H,I.kept hk,⟨_,rfl⟩,q _ _ (bt.refl H) ?_);rw[<-oy,RP,OS (rO ps.toArray)];congr 1;let aD:∀i,rO ps.toArray i=((n0::nr)[i]?).getD 0:=λi=>by
        rw[<-jJ];simp[rO]
       let e0:rO ps.toArray 0=n0:=by rw[aD];rfl
       let er:(cF (ps.toArray.size-1)).map (λi=>rO ps.toArray (i+1))=nr:=by
        let:ps.toArray.size-1=nr.length:=by simp;lia
        rw[this];apply Bs
        .simp
        .intro i h1 h2;simp[aD,h2]
       rw[e0,er]
   |_=>cases hz
def QB(f:Nat->Int):∀n:Nat,preSum f n=((cF n).map f).sum
 |0=>rfl
 | n+1=>by
  rw[Tn,kQ,List.sum_append,Td,List.sum_singleton,<-QB f n];rfl
def xO2(hc:X.calm=true):jr X (.builtin "sum") (f1 (ny λl=>(jo l).map λl=>.int l.sum)):=by
 rintro ae s Z H ws us Q I rs ⟨O,st,xs,z,r,pr,hz,q⟩;cases pr with
 |nil=>cases hz
 |cons h t=>
  cases t with
  |cons _ _=>cases hz
  |nil=>
   rename_i x w
   cases x with
   |ai l=>
    let hz:(jo l).map (λl=>PV.int l.sum)=aa z:=hz;let(ns,hi,oy):=d9.mp hz;let el:=Fe hi;subst el;let(a,vs,rfl,h1,h2):=h.ai;cases rs with
    |cons ra rt=>
     cases rt;obtain rfl:=(show _=b9 a from ra);let(aw,r1,p,_):=I.list h1;let ev:=Gq h2;subst ev;let(ps,rfl,jJ):=FK r1;let hit:(ps.map (λp=>mh p.1 p.2)).toArray=BX ps.toArray:=by simp[BX]
     refine PySem.sum_intListG (xs:=ps.toArray) (I.ok.hd hc) (by rw[<-hit];exact p.isList) λh' tk t' hk=>?_;refine(.int _,H,I.kept hk,⟨_,rfl⟩,q _ _ (bt.refl H) ?_);rw[<-oy,RP,QB];congr 2;let aD:∀i,rO ps.toArray i=(ns[i]?).getD 0:=λi=>by
      rw[<-jJ];simp[rO]
     let dH:ps.length=ns.length:=by let:=congrArg b7 jJ;simpa using this
     apply Bs
     .simp[dH]
     .intro i h1 h2;let h3:i<ns.length:=by simpa[dH]using h1
      simp[aD,h3]
   |_=>cases hz
end
section
variable{X:Cx}{C:a8}{W:Nat}{pos:aU}
def yK8{body:List bW}(hp:PassesOwn (aN X.prog X.w) X.A X.env X.xe)(hc:ST X C c ic)(hb:mr X C W body ib):SS X C W (.While c body [] pos) (.while ic ib) :=
 PS.mono (yI7 hp hc hb) λD Z H h_=>by
  let(env,O,st,fl,ao,aD,e,q):=h_;rw[yD5]at e;let e:nE (az C ic) (b_ C W ib) W env st=.ok fl ao:=e;refine(λm σ2 H2=>∃bz α2 aI,At X.K α2 aI H2 bz σ2/\bD X.K O st H α2 aI H2/\nE (az C ic) (b_ C W ib) m bz aI=.ok fl ao,⟨W,env,O,st,aD,.refl,e⟩,?_);rintro m σ2 H2 ⟨bz,α2,aI,eR,x2,e2⟩;cases m with
  |zero=>cases e2
  |succ m=>
   rw[nE]at e2;let(k,cK,e3,e2):=ax.ki e2;refine(bz,α2,aI,k,cK,eR,e3,λH3 α3 x3 r3=>?_);let k_:=eR.next x3 r3;cases k with
   |false=>
    cases e2;exact Yl (q σ2 H3 α3 (x2.trans x3) k_)
   |true=>
    refine Ym ?_;let e2:((b_ C W ib bz cK).bind λf aI=>match f with |.next bz=>nE (az C ic) (b_ C W ib) m bz aI |.ret v=>.ok (.ret v) aI)=.ok fl ao:=e2
    let(f,d6,e4,e2):=ax.bE e2;refine(λσ4 H4=>∃sg α4 d6,At X.K α4 d6 H4 sg σ4/\bD X.K O st H α4 d6 H4/\nE (az C ic) (b_ C W ib) m sg d6=.ok fl ao,λσ4 H4 h=>⟨m,BC m,h⟩,bz,α3,cK,f,d6,k_,e4,?_);cases f with
    |next sg=>exact λσ5 H5 α5 x5 r_=>⟨sg,α5,d6,r_,x2.trans (x3.trans x5),e2⟩
    |ret v=>
     cases e2;exact λw H5 α5 x5 r5 rv=>q w H5 α5 (x2.trans (x3.trans x5)) r5 rv
def yk(X:Cx)(op:me)(b:ke):Prop:=yn X op λx y H Q=>∃i j z,x=.int i/\y=.int j/\iu b (.int i) (.int j)=aa (.int z)/\Q (.int z) H
def yW4:yk X .Add .add:=by
 rintro ae s Z H x y v u Q I r1 r2 ⟨i,j,z,e1,e2,hz,q⟩;refine xm8 ae s Z H x y v u Q I r1 r2 ⟨i,j,e1,e2,?_⟩;cases hz;exact q
def yW5:yk X .Sub .sub:=by
 rintro ae s Z H x y v u Q I r1 r2 ⟨i,j,z,e1,e2,hz,q⟩;refine xm9 ae s Z H x y v u Q I r1 r2 ⟨i,j,e1,e2,?_⟩;cases hz;exact q
def xz3{op:me}{b:ke}{dn:aU}(ho:yk X op b)(hN:X.N.Nodup)(hi:X.N[i]?=aa x)(hx:Loc X.env.scope x)(h:SE X C e ie)
  (hb:∀x y z,iu b x y=aa z->(∃i j k,x=.int i/\y=.int j/\z=.int k)\/∀i,x≠.int i)
  (hf:X.fn x=true\/X.env.scope.names.lookup x=aa .local) :
  SS X C W (.AugAssign (.Name x dn) op e pos) (.mw i b ie) :=
 PS.mono (xu6 hN hi hx h ho hf) λD Z H h_=>by
  let(env,O,st,fl,ao,aD,e,q):=h_;rw[yT8]at e;let(x0,st0,e0,e):=ax.mz e;let(v1,y,aA,e1,hy,e):=ax.se e;let(v2,aI,e2,e):=ax.bE e;cases e;unfold jX at e0;cases he:env[i]? with
  |none=>rw[he]at e0;cases e0
  |some o=>
   cases o with
   |none=>rw[he]at e0;cases e0
   |some u=>
    rw[he]at e0;cases e0;let(w,h1,h2):=aD.env i _ he;cases x0 with
    |int a=>
     cases y with
     |int c=>
      let e2:cQ (iu b (.int a) (.int c)) aA=.ok v2 ao:=e2;let(z,g1,g2,g3):=pz e2;subst g2 g3;let hw:w=.int a:=by let:RP X.K H (aP O st) (.int a) w:=h2;rw[RP]at this;exact this
      subst hw;refine(_,h1,env,O,st,v1,ao,aD,e1,λw1 H1 α1 x1 r1 Zf=>?_);let iN:=(Zf.view r1 hy).int;subst iN;rcases hb _ _ _ g1 with⟨i',j',k',z1,z2,z3⟩|z
      .subst z3;exact(a,c,k',rfl,rfl,g1,q _ H1 α1 x1 ((aD.next x1 r1).set (v:=.p (.int k')) (by show RP X.K H1 (aP α1 ao) (.int k') (.int k');rw[RP])))
      .exact(z a rfl).elim
     |_=>cases e2
    |_=>cases e2
def xm2:∀x y z,iu .add x y=aa z->(∃i j k,x=.int i/\y=.int j/\z=.int k)\/∀i,x≠.int i:=by
 intro x y z h;cases x with
 |int i=>
  cases y with
  |int j=>exact .inl ⟨i,j,_,rfl,rfl,(dE h).symm⟩
  |_=>cases h
 |_=>exact .inr λi e=>by cases e
def xm3:∀x y z,iu .sub x y=aa z->(∃i j k,x=.int i/\y=.int j/\z=.int k)\/∀i,x≠.int i:=by
 intro x y z h;cases x with
 |int i=>
  cases y with
  |int j=>exact .inl ⟨i,j,_,rfl,rfl,(dE h).symm⟩
  |_=>cases h
 |_=>exact .inr λi e=>by cases e
end
mutual
noncomputable def toD:PV->PyData
 |.aL=>.none
 |.bl b=>.bool b
 |.int i=>.int i
 |.str cs=>.str ⟨cs.toArray⟩
 |.af xs=>.tuple (gL xs)
 |.ai xs=>.list (gL xs)
noncomputable def gL:List PV->List PyData
 |[]=>[]
 |x::r=>toD x::gL r
end
mutual
theorem MI:∀x:PV,(toD x).depth=bM x
 |.aL=>by rw[toD,uA,yS8]
 |.bl b=>by rw[toD,uA,xk1]
 |.int i=>by rw[toD,uA,yS6]
 |.str cs=>by rw[toD,uA,yS9]
 |.af xs=>by rw[toD,uA,yT0,D_ xs]
 |.ai xs=>by rw[toD,uA,yS7,D_ xs]
theorem D_:∀xs:List PV,Io (gL xs)=cC xs
 |[]=>by rw[gL,Io,yC7]
 |x::r=>by rw[gL,Io,yq4,MI x,D_ r]
end
mutual
theorem MJ:∀x:PV,(toD x).hasDict=false
 |.aL=>by rw[toD,uB]
 |.bl b=>by rw[toD,uB]
 |.int i=>by rw[toD,uB]
 |.str cs=>by rw[toD,uB]
 |.af xs=>by rw[toD,uB,Ea xs]
 |.ai xs=>by rw[toD,uB,Ea xs]
theorem Ea:∀xs:List PV,Ip (gL xs)=false
 |[]=>by rw[gL,Ip]
 |x::r=>by rw[gL,Ip,MJ x,Ea r];rfl
end
section
variable{X:Cx}{ae:List (aq×aV)}{Z:L2.St}{H:Hp}{s:au}{lv:aq->Prop}
mutual
theorem Mf(I:Inv X ae Z H s):∀(x:PV)(v:V)(u:ak),RP X.K H lv x v->RelV v u->∃as,Reads s.heap u (toD x) as
 | .aL,v,u,h,r=>by
  rw[RP]at h;subst h;obtain rfl:u=gA:=r;rw[toD];exact([],.none)
 | .bl b,v,u,h,r=>by
  rw[RP]at h;subst h;obtain rfl:u=gT b:=r;rw[toD];exact([],.bool b)
 | .int i,v,u,h,r=>by
  rw[RP]at h;subst h;let(t,rfl):=r;rw[toD];exact([],.int i t)
 | .str cs,v,u,h,r=>by
  rw[RP]at h;let(h,_):=h;subst h;let(t,rfl):=r;rw[toD];exact([],.str _ t)
 | .af xs,v,u,h,r=>by
  rw[RP]at h;let(a,vs,rfl,h1,h2):=h;obtain rfl:u=b9 a:=r;obtain⟨aw,r1,⟨o,e1,e2,n,e3⟩,_⟩:=I.tuple h1;let(as,ra):=zk I xs vs aw h2 r1;rw[toD];exact(as,.tuple e1 e2 e3 (by simpa using ra))
 | .ai xs,v,u,h,r=>by
  rw[RP]at h;let(a,vs,rfl,h1,_,h2):=h;obtain rfl:u=b9 a:=r;obtain⟨aw,r1,⟨o,n,e1,e2,_,e3⟩,_⟩:=I.list h1;let(as,ra):=zk I xs vs aw h2 r1;rw[toD];exact(a::as,.list e1 e2 e3 (by simpa using ra))
theorem zk(I:Inv X ae Z H s):∀(xs:List PV)(vs:List V)(us:List ak),aC X.K H lv xs vs->ba vs us->∃as,ReadsAll s.heap us (gL xs) as
 | [],vs,us,h,r=>by
  rw[aC]at h;subst h;cases r;rw[gL];exact([],.nil)
 | x::xr,vs,us,h,r=>by
  rw[aC]at h;let(v,vr,rfl,h1,h2):=h;cases r with
  |cons r1 r2=>
   let(as,a1):=Mf I x _ _ h1 r1;let(bs,b1):=zk I xr _ _ h2 r2;rw[gL];exact(as++bs,.cons a1 b1)
end
end
def xj3:∀c:Nat,c<127->lG c=true->reprChar 39 c=[c]:=by decide +kernel
def yJ1{cs:List Nat}(h:cs.all lG=true):reprQuote (⟨cs.toArray⟩:Str)=39:=by
 unfold reprQuote;let JZ:¬39∈cs:=λz=>by
  let:=c_.mp h 39 z;revert this;decide
 let e:(⟨cs.toArray⟩:Str).cps.contains 39=false:=by simpa using JZ
 simp[JZ]
def O3:∀{cs:List Nat}{acc:List Nat},cs.all lG=true->cs.foldl (λqt c=>qt++(reprChar 39 c).toArray) acc.toArray=(acc++cs).toArray
 |[],acc,_=>by simp
 | c::r,acc,h=>by
  rw[ff,bP]at h;let hc:c<127:=by let:=h.1;unfold lG at this;let:=of_decide_eq_true this;lia
  rw[xB,xj3 c hc h.1,Hq,O3 h.2];simp
def yJ3{cs:List Nat}(h:cs.all lG=true):reprText (⟨cs.toArray⟩:Str)=bp ([39]++cs++[39]):=by
 unfold reprText;rw[yJ1 h];show(⟨Array.push (cs.toArray.foldl (λ(qt:Array Nat)(c:Nat)=>qt++(reprChar 39 c).toArray) #[39]) 39⟩:Str)=_;rw[<-Array.foldl_toList];let e:=O3 (acc:=[39]) h;let e2:(cs.toArray.toList.foldl (λqt c=>qt++(reprChar 39 c).toArray) #[39])=([39]++cs).toArray:=e;rw[e2];simp[bp]
def Qj(i:Int):(c7 (toString i))=bp (fq i):=by
 rw[Str.ofString_eq_toList];rfl
def cm:List Nat:=[44,32]
def RL:∀ts:List (List Nat),BQ (c7 ", ") (ts.map bp)=bp (gP ts)
 |[]=>rfl
 |[x]=>rfl
 | x::y::r=>by
  let ih:=RL (y::r);let ec:c7 ", " = bp cm:=by decide +kernel
  show bp x++c7 ", " ++ BQ (c7 ", ") ((y::r).map bp)=bp (x++[44,32]++gP (y::r));rw[ih,ec];show(⟨(x.toArray++cm.toArray)++(gP (y::r)).toArray⟩:Str)=⟨(x++[44,32]++gP (y::r)).toArray⟩;simp[cm]
def lU(a b:List Nat):bp a++bp b=bp (a++b):=by
 show(⟨a.toArray++b.toArray⟩:Str)=⟨(a++b).toArray⟩;simp
def xe7(ts:List (List Nat)):tupleText (ts.map bp)=bp (wU ts):=by
 unfold tupleText wU;let e1:(c7 "(")=bp [40]:=by decide +kernel
 let e2:(c7 ",)")=bp [44,41]:=by decide +kernel
 let e3:(c7 ")")=bp [41]:=by decide +kernel
 rw[RL,e1,cy];by_cases h:ts.length=1
 .rw[if_pos (by simp[h]),if_pos h];show bp [40]++bp (gP ts)++c7 ",)" = _;rw[e2,lU,lU]
 .rw[if_neg (by simp[h]),if_neg h];show bp [40]++bp (gP ts)++c7 ")" = _;rw[e3,lU,lU]
def O6:∀(ts:List (List Nat)) (k:Nat) (acc:List Nat),0<k->yh k (bp acc) (ts.map bp)=bp (acc++(ts.map λt=>cm++t).flatten)
 |[],k,acc,_=>by simp[yh]
 | t::r,k,acc,hk=>by
  let ec:c7 ", " = bp cm:=by decide +kernel
  rw[bJ,yh,if_pos hk];show yh (k+1) (bp acc++c7 ", " ++ bp t) (r.map bp)=_;rw[ec,lU,lU,O6 r (k+1) _ ()];simp
def Rm:∀(t:List Nat)(r:List (List Nat)),gP (t::r)=t++(r.map λt=>cm++t).flatten
 |t,[]=>by simp[gP]
 | t,u::r=>by
  show t++[44,32]++gP (u::r)=_;rw[Rm u r];simp[cm]
def yY0(ts:List (List Nat)):listText (ts.map bp)=bp (wN ts):=by
 unfold listText wN;let e1:(c7 "[")=bp [91]:=by decide +kernel
 let e2:(c7 "]")=bp [93]:=by decide +kernel
 let e3:(c7 "")=bp []:=by decide +kernel
 cases ts with
 |nil=>
  show c7 "[" ++ c7 "]" = _;rw[e1,e2,lU];rfl
 |cons t r=>
  show yh 1 (c7 "[" ++ c7 "" ++ bp t) (r.map bp)++c7 "]" = _;rw[e1,e2,e3,lU,lU,O6 r 1 _ (),lU,Rm];simp
mutual
theorem Mr:∀(x:PV)(t:List Nat),d5 x=aa t->(toD x).showable=true/\(toD x).shown=bp t
 |.aL,t,h=>by rw[d5]at h;cases h;rw[toD,pS,nQ];exact(rfl,by decide +kernel)
 |.bl true,t,h=>by rw[d5]at h;cases h;rw[toD,pS,nQ];exact(rfl,by decide +kernel)
 |.bl false,t,h=>by rw[d5]at h;cases h;rw[toD,pS,nQ];exact(rfl,by decide +kernel)
 | .int i,t,h=>by
  rw[d5]at h;split at h
  .rename_i hc
   cases h;rw[toD,pS,nQ];exact(decide_eq_true hc,Qj i)
  .cases h
 | .str cs,t,h=>by
  rw[d5]at h;split at h
  .rename_i hc
   cases h;rw[toD,pS,nQ];exact(rfl,yJ3 hc)
  .cases h
 | .af xs,t,h=>by
  rw[d5]at h;split at h
  .rename_i ts sF
   cases h;let(h1,h2):=D6 xs ts sF;rw[toD,pS,nQ,h2];exact(h1,xe7 ts)
  .cases h
 | .ai xs,t,h=>by
  rw[d5]at h;split at h
  .rename_i ts sF
   cases h;let(h1,h2):=D6 xs ts sF;rw[toD,pS,nQ,h2];exact(h1,yY0 ts)
  .cases h
theorem D6:∀(xs:List PV)(ts:List (List Nat)),mS xs=aa ts->Iq (gL xs)=true/\Ir (gL xs)=ts.map bp
 |[],ts,h=>by rw[mS]at h;cases h;rw[gL,Iq,Ir];exact(rfl,rfl)
 | x::r,ts,h=>by
  rw[mS]at h;split at h
  .rename_i t ht
   split at h
   .rename_i tr X3
    cases h;let(h1,h2):=Mr x t ht;let(h3,h4):=D6 r tr X3;rw[gL,Iq,Ir,h1,h2,h3,h4];exact(rfl,rfl)
   .cases h
  .cases h
end
section
variable{X:Cx}
def xr0(hu:X.A.units+200<c8)(hg:X.A.guards=aa []):jr X (.builtin "repr") (f1 λv=>(qQ v).map .str):=by
 rintro ae s Z H ws us Q I rs ⟨O,st,xs,z,r,pr,hz,q⟩;cases pr with
 |nil=>cases hz
 |cons h t=>
  cases t with
  |cons _ _=>cases hz
  |nil=>
   rename_i x w
   let hz:(qQ x).map PV.str=aa z:=hz;let(tx,hr,rfl):=d9.mp hz;let hs:d5 x=aa tx/\bM x<=100/\tx.length<=a9:=by
    let dr:∀{y},xk y=aa tx->d5 y=aa tx/\bM y<=100/\tx.length<=a9:=λ{y} h=>by
     unfold xk at h;split at h
     .rename_i t ht
      split at h
      .rename_i hc
       cases h;rw[nq]at hc;exact(ht,hc)
      .cases h
     .cases h
    cases x with
    |bl b=>
     cases b
     .let h:aa Av=aa tx:=hr;cases h;exact(by rw[d5],by simp,by decide)
     .let h:aa Ag=aa tx:=hr;cases h;exact(by rw[d5],by simp,by decide)
    |aL=>exact dr hr
    |int i=>exact dr hr
    |str i=>exact dr hr
    |af i=>exact dr hr
    |ai i=>exact dr hr
   let(h1,h2,h3):=hs;let(k1,k2):=Mr x tx h1;cases rs with
   |cons ra rt=>
    cases rt;let fin:∀{s':au}{t':dt},Inv X ae Z H s'->EP X ae Z Q (.str (bp tx) t') s':=λI'=>⟨.str _,H,I',⟨_,rfl⟩,q _ _ (bt.refl H) (by rw[RP];exact(rfl,h3))⟩;let hsz:((toD x).shown).length<=a9:=by rw[k2];show(dJ ⟨tx.toArray⟩)<=a9;rw[dS];exact h3
    let deep:∀{a:aq}{as:List aq},Reads s.heap (.ref a) (toD x) as->aG (aN X.prog X.w) X.A (call (.builtin "repr") [.ref a]) (EP X ae Z Q) X.xe s:=λ{a as} rd =>
     repr_of_reads' rd k1 (PyData.noDict_hsm (MJ x)) hg (by rw[MI];lia) (λ_ _ e=>e) (λh' u tk hk=>by rw[k2];exact fin (I.kept hk)) hsz
    cases x with
    |aL=>
     let e:=h.aL;subst e;obtain rfl:=(show _=gA from ra);let e:(c7 "None")=bp tx:=by rw[d5]at h1;cases h1;decide +kernel
     refine PySem.P.repr_of_none ?_;show EP X ae Z Q (.str (c7 "None") _) _;rw[e];exact fin (I.tok _)
    |bl b=>
     let e:=h.bl;subst e;obtain rfl:=(show _=gT b from ra);refine PySem.P.repr_of_bool ?_;let e:(if b=true then c7 "True" else c7 "False")=bp tx:=by cases b<;>(rw[d5]at h1;cases h1;decide +kernel)
     show EP X ae Z Q (.str (if b=true then c7 "True" else c7 "False") _) _
     rw[e];exact fin (I.tok _)
    |int i=>
     let e:=h.int;subst e;let(t1,rfl):=(show ∃t,_=mh i t from ra);let hi:i.natAbs.log2<1920:=by rw[toD,pS]at k1;exact of_decide_eq_true k1
     refine PySem.P.repr_of_int hi ?_;rw[toD,nQ]at k2;show EP X ae Z Q (.str (c7 (toString i)) _) _;rw[show c7 (toString i)=bp tx from k2];exact fin (I.tok _)
    |str cs=>
     let e:=h.str.1;subst e;let(t1,rfl):=(show ∃t,_=yd _ t from ra);rw[toD,nQ]at k2 hsz;refine PySem.P.repr_of_str ?_ hsz;rw[k2];exact fin (I.tok _)
    |af l=>
     let(a,vs,rfl,g1,g2):=h.af;obtain rfl:=(show _=b9 a from ra);let(as,rd):=Mf (lv:=aP O st) I (.af l) (.ref a) (.ref a) (by rw[RP];exact(a,vs,rfl,g1,g2)) rfl;exact deep rd
    |ai l=>
     let(a,vs,rfl,g1,g2):=h.ai;obtain rfl:=(show _=b9 a from ra);obtain⟨aw,r1,⟨o,n,e1,e2,_,e3⟩,_⟩:=I.list g1;let(as,rd):=zk (lv:=aP O st) I l vs aw g2 r1;let:Reads s.heap (.ref a) (toD (.ai l)) (a::as):=by rw[toD];exact .list e1 e2 e3 (by simpa using rd)
     exact deep this
end
section
variable{X:Cx}{bU iter tg:Expr}{ifs:List Expr}{scope:cB}{pos:aU}{N:List Str}{bc:List Nat}{n:Nat}{wi:TI}{g:TG}{tc:TT}{te:TE}
end
section
variable{X:Cx}{C:a8}{W:Nat}{bU iter tg:Expr}{ifs:List Expr}{dj:E}{it:It}{t:Tg}{scope:cB}{pos:aU}{N:List Str}{bc:List Nat}{n:Nat}
end
def yG5{α1:Al}{H1:Hp}{zs:List PV}(lk:Lk K α1 aA H1 α2 ao H2)(r2:bu K α2 ao H2)(jK:α2.bq=(α1.hold D).bq)(nD:¬α1.bq D)(jG:H2 D=aa (.ai ys))(cE:aC K H2 (aP α2 ao) zs ys):
  bD K α1 aA H1 ((α2.as α1.bq).add D) (ao++[.ai zs]) H2/\bu K ((α2.as α1.bq).add D) (ao++[.ai zs]) H2:=by
 let oi:α2.bq D:=by rw[jK];exact .inl rfl
 let kE:∀a,α1.bq a->α2.bq a:=lk.sub;let rB:=r2.as kE;let lv:∀{a:aq},aP ((α2.as α1.bq).add D) (ao++[.ai zs]) a->aP α2 ao a:=λ{a} h=>by
  rcases Gh rB.len h with e |e
  .subst e;exact .inl oi
  .exact tE kE e
 let ml:∀a vs,bL K H2 a vs->¬aP α2 ao a->bL K H2 a vs/\¬aP ((α2.as α1.bq).add D) (ao++[.ai zs]) a:=λa vs h nn=>⟨h,λl=>nn (lv l)⟩;let old:∀{n:Nat}{a:aq},α2.adr[n]?=aa a->((α2.as α1.bq).add D).adr[n]?=aa a:=λ{n a} h=>by
  show(α2.adr++[D])[n]?=aa a;rw[jv (dU.mp h).1];exact h
 let new:((α2.as α1.bq).add D).adr[ao.length]?=aa D:=wO rB;let dead:∀{n:Nat}{x:b6},α2.adr[n]?=aa D->aW ao n=aa x->x=.dead:=λ{n x} h1 h2=>by
  by_cases hx:x=.dead
  .exact hx
  .exact absurd oi (r2.gF n D x h1 h2 hx)
 refine(⟨λn a h=>old (lk.pre n a h),lk.af,λa vs h nn=>let⟨h1,n1⟩:=lk.ai a vs h nn;ml a vs h1 n1,rfl,lk.raw⟩,?_,λn xs h=>?_,λn av h=>?_,λn av h=>?_,λn m a x x' cj h1 h2 h3 h4=>?_,λa h=>r2.nk a (lv h),λn a x h1 h2 h3 h4=>?_,λa ha=>r2.bq a (kE a ha))
 .show(α2.adr++[D]).length=(ao++[b6.ai zs]).length;rw[cA,cA,r2.len];rfl
 .rcases ik h with⟨_,h⟩|⟨rfl,e⟩
  .let(a,vs,e1,e2,e3):=r2.ai n xs h;exact(a,vs,old e1,e2,aC.mono (λ_ _ h=>h) ml _ _ e3)
  .cases e;exact(D,ys,new,jG,aC.mono (λ_ _ h=>h) ml _ _ cE)
 .rcases ik h with⟨_,h⟩|⟨_,e⟩
  .let(a,vs,e1,e2,e3):=r2.bB n av h;exact(a,vs,old e1,e2,bS.mono (λ_ _ h=>h) ml _ _ e3)
  .cases e
 .rcases ik h with⟨_,h⟩|⟨_,e⟩
  .let(a,vs,e1,e2,e3):=r2.dG n av h;exact(a,vs,old e1,e2,eO.mono (λ_ _ h=>h) ml _ _ e3)
  .cases e
 .let ll:=r2.len;let h1:(α2.adr++[D])[n]?=aa a:=h1;let h2:(α2.adr++[D])[m]?=aa a:=h2;rcases nF h1 with⟨a1,b1⟩|⟨a1,c1⟩
  .rcases ik h3 with⟨_,h3⟩|⟨z,_⟩
   .rcases nF h2 with⟨a2,b2⟩|⟨a2,c2⟩
    .rcases ik h4 with⟨_,h4⟩|⟨z,_⟩
     .exact r2.inj n m a x x' cj b1 b2 h3 h4
     .lia
    .subst c2;exact .inl (dead b1 h3)
   .lia
  .rcases nF h2 with⟨a2,b2⟩|⟨a2,_⟩
   .rcases ik h4 with⟨_,h4⟩|⟨z,_⟩
    .subst c1;exact .inr (dead b2 h4)
    .lia
   .lia
 .let ll:=r2.len;let h1:(α2.adr++[D])[n]?=aa a:=h1;rcases nF h1 with⟨a1,b1⟩|⟨a1,c1⟩
  .rcases ik h2 with⟨_,h2⟩|⟨z,_⟩
   .exact r2.gF n a x b1 h2 h3 (kE a h4)
   .lia
  .subst c1;exact nD h4
section
variable{X:Cx}{C:a8}{W:Nat}{bU iter tg:Expr}{ifs:List Expr}{dj:E}{it:It}{t:Tg}{scope:cB}{pos:aU}{N:List Str}{bc:List Nat}{n:Nat}
def yj5(h:tP X.K C (.fK (.comp false dj t it cond bc n)) Z H Q):qI X.K bc n (tI X.K C it) (tG X.K t) (oJ X.K C cond) (tP X.K C dj) Z H Q:=by
 let(env,O,st,v,ao,aD,e,q):=h;rw[Qb,P9]at e;let(x,st0,e0,e):=ax.mz e;obtain⟨⟨xs,cb⟩,aA,e1,e0⟩:=ax.bE e0;let(zs,aI,e2,e0):=ax.bE e0;simp only[mk,eN,if_false]at e0;cases e0;cases e;refine OV aD e1 e2 λD ys α1 aA H1 α2 H2 x1 lk r2 jK nD jG cE=>?_;let(a,b):=yG5 lk r2 jK nD jG cE;exact q _ H2 _ (x1.trans a) b ⟨D,rfl,wO (r2.as lk.sub)⟩
end
section
variable{X:Cx}
def xD6(v:aJ)(vs:List aJ)(st:ay):d8 .extend v vs st=(match bQ st vs with |some xs=>iw v st (Qf xs)|none=>.stuck):=by
 show(match bQ st vs with |some xs=>jq .extend v xs st |none=>.stuck)=_
 cases bQ st vs<;>rfl
def yW3{p:PV×List PV}(h:wK xs l=aa p):∃i y,xs=[.int i,y]:=by
 match xs with
 |[.int i,y]=>exact(i,y,rfl)
 |[]=>cases h
 |[.aL]=>cases h
 |[.bl _]=>cases h
 |[.int _]=>cases h
 |[.str _]=>cases h
 |[.af _]=>cases h
 |[.ai _]=>cases h
 |.aL::_::_=>cases h
 |.bl _::_::_=>cases h
 |.str _::_::_=>cases h
 |.af _::_::_=>cases h
 |.ai _::_::_=>cases h
 |.int _::_::_::_=>cases h
def yG0:ym X "list.insert" wK:=by
 rintro ae s Z H x ws v us Q I rx rs ⟨O,st,a,l,vs,xs,z,l',r,e,hH,hl,hx,hg,q⟩;subst e;obtain rfl:=(show v=b9 a from rx);let(z1,aw,n,r1,mI,e1):=I.zb hH;let ll:=hl.length;let(i,y,rfl):=yW3 hg;let hg:(if 0<=i/\i<=(l.length:Int)/\l.length<SZ then aa (PV.aL,l.take i.toNat++y::l.drop i.toNat)else aj)=aa (z,l'):=hg
 by_cases hc:0<=i/\i<=(l.length:Int)/\l.length<SZ
 .rw[if_pos hc]at hg;let hg:=dE hg;let ez:PV.aL=z:=congrArg HX hg;let el:l.take i.toNat++y::l.drop i.toNat=l':=congrArg ma hg;rw[nq]at hc;let kC:a9=16777216:=by decide
  rw[aC]at hx;let(w1,wr,rfl,h1,hx):=hx;rw[aC]at hx;let(w2,wr2,rfl,h2,hx):=hx;rw[aC]at hx;subst hx;rw[RP]at h1;subst h1;cases rs with
  |cons ra rt=>
   cases rt with
   |cons rb rt=>
    cases rt;let(t1,rfl):=ra
    rename_i u2
    refine PySem.call_meets UX ⟨_,e1,rfl⟩ PySem.F.entry_list_insert (PySem.F.args_list_insert_3 _ _ _) (AutoListH.list_insert_list_int_val_1 a aw.toArray n i t1 u2 (by simp[H0];lia) (by rw[cV];lia)) ⟨e1,?_⟩;refine(.aL,_,I.y_ (its':=aw.take i.toNat++u2::aw.drop i.toNat) (ys:=vs.take i.toNat++w2::vs.drop i.toNat) hH e1 ?_ ?_ ?_,rfl,q _ _ (by rw[<-ez,RP]) ?_)
    .dsimp only;let hk:(if i<0 then(i+((aw.toArray.size:Nat):Int)).toNat else min i.toNat aw.toArray.size)=i.toNat:=by
      rw[if_neg (),cV];lia
     rw[hk];apply Sv;simp;exact kU (by simp)
    .exact(r1.take i.toNat).append (.cons rb (r1.drop i.toNat))
    .rw[cA,c6,l5,iY];lia
    .rw[<-el];refine(hl.take i.toNat).append ?_;rw[aC];exact(w2,_,rfl,h2,hl.drop i.toNat)
 .rw[if_neg hc]at hg;cases hg
def yD9(v:aJ)(vs:List aJ)(st:ay):d8 .insert v vs st=(match iR vs with |some xs=>iw v st (wK xs)|none=>.stuck):=by
 show(match iR vs with |some xs=>jq .insert v xs st |none=>.stuck)=_
 cases iR vs<;>rfl
end
section
variable{X:Cx}{C:a8}{a b c:Expr}{ia ib ic:E}{pos:aU}
def xx0(ha:SE X C a ia):SE X C (.UnaryOp .USub a pos) (.neg ia) :=
 PE.mono (xQ4 Z_ ha) λZ H Q h_=>by
  let(env,O,st,v,ao,aD,e,q):=h_;rw[xl0]at e;let(va,x,aA,e1,hv,e):=ax.se e;let(z,h1,h2,h3):=pz e;subst h2 h3;refine(env,O,st,va,ao,aD,e1,λw H1 α1 x1 r1 v1=>?_);cases x with
  |int i=>
   cases h1;exact(i,(v1.view r1 hv).int,q _ H1 α1 x1 r1 (by show RP X.K H1 (aP α1 ao) (.int (-i)) (.int (-i));rw[RP]))
  |_=>cases h1
def yJ7{qc uW:kg}(ho:cw X (compareOp op) (dI qc))(fy:cw X (compareOp cR) (dI uW))(hB:∀x y z,dI qc x y=aa z->∃k,z=.bl k)(ha:SE X C a ia)(hb:SE X C b ib)(hc:SE X C c ic)
  (hm:uG [op,cR] [b,c]=false):SE X C (.Compare a [op,cR] [b,c] pos) (.chain qc uW ia ib ic) :=
 PE.mono (yH8 ho fy ha hb hc hm) λZ H Q ⟨env,O,st,k,ao,aD,e,q⟩=>Rf rfl rfl aD e hB q
end
section
variable{prog:Program}{w:aY}{A:bb}{E:ak->au->Prop}{s:au}
end
section
variable{X:Cx}{C:a8}{e:Expr}{ie:E}{pos p2 p3 p4 p5:aU}
end
section
variable{X:Cx}{C:a8}{o e:Expr}{io ie:E}{fw di:aU}{ae:List (aq×aV)}{s:au}{Z:L2.St}{H:Hp}
def Fy{xs:List V}(I:Inv X ae Z H s)(h:bR X.K H a xs):∃(aw:List ak)(n:Nat)(sl:Array (Option ak)),ba xs aw/\xs.length<=a9/\s.heap.get? a=aa { cls:=.type "tuple", dict:=aj,data:=.seq aw.toArray n,slots:=sl }:=by
 rcases h with h |⟨ob,aw,n,hk,hc,hd,hs,hz,r⟩
 .let(z,aw,r,ob,p1,p2,p3,n,p4):=h.ok I.aF;let(c1,c2,c3,c4):=ob;simp only at p2 p3 p4;subst p2 p3 p4;exact(aw,n,c4,r,z,p1)
 .let(c1,c2,c3,c4):=ob;simp only at hc hd hs;subst hc hd hs;refine(aw.toList,n,c4,r,?_,I.eA a _ hk);let e:=r.length;simp only[jt]at e;lia
end
@[reducible] def jC:=PyProof.Rows.KeyKind
def Cd(lo:Nat)(x y:Array pL):Prop:=∀i,i<lo->y[i]?=x[i]?
section
variable{prog:Program}{w:aY}{A:bb}{E:ak->au->Prop}{s:au}{κ:jC}{kd:pM}{z:Array pL}{P:Array (Nat×Nat×Nat)}
end
@[reducible] def R2:=Option (Option Nat)×Nat×Nat
section
variable{prog:Program}{w:aY}{A:bb}{E:ak->au->Prop}{s:au}{κ:jC}{kd:pM}{z:Array pL}{P:Array (Nat×Nat×Nat)}{lo ae7:Nat}
end
section
variable{prog:Program}{w:aY}{A:bb}{E:ak->au->Prop}{s:au}{κ:jC}{kd:pM}{z:Array pL}{P:Array (Nat×Nat×Nat)}{lo:Nat}
end
section
variable{prog:Program}{w:aY}{A:bb}{E:ak->au->Prop}{s:au}{κ:jC}{kd:pM}
end
section
variable{κ:jC}{a b:Array pL}
end
section
variable{prog:Program}{w:aY}{A:bb}{E:ak->au->Prop}{s:au}{κ:jC}{kd:pM}
end
section
variable{κ:jC}{a b:Array pL}
end
section
variable{prog:Program}{w:aY}{A:bb}{E:ak->au->Prop}{s:au}{κ:jC}{kd:pM}
end
section
variable{κ:jC}
end
section
variable{prog:Program}{w:aY}{A:bb}{E:ak->au->Prop}{s:au}{κ:jC}{kd:pM}{z:Array pL}
end
section
variable{prog:Program}{w:aY}{A:bb}{E:ak->au->Prop}{s:au}{κ:jC}{kd:pM}{z:Array pL}
end
@[reducible] def Row:=List (List Nat)
abbrev MM:List ak->Option Row
 |[]=>aa []
 |.str x _::r=>(MM r).map (x.cps.toList :: ·)
 |_=>aj
abbrev Zc(h:aT):ak->Option Row
 | .ref a=>match h.get? a with
  |some o=>if o.cls=.type "tuple" then(match o.data with |.seq aw _=>MM aw.toList |_=>aj)else aj
  |none=>aj
 |_=>aj
@[reducible] abbrev ag3(h:aT):jC where
 α:=Row
 blt a b:=decide (a<b)
 irrefl a:=by simpa using List.lt_irrefl a
 trans a b c h1 h2:=by simp only[decide_eq_true_eq]at *;exact List.lt_trans h1 h2
 negTrans a b c h:=by
  simp only[decide_eq_true_eq]at *
  by_cases kq:a<b
  .exact .inl kq
  .exact .inr (List.lt_of_le_of_lt (HE.mp kq) h)
 total a b h1 h2:=by simp only[decide_eq_false_iff_not]at *;exact List.le_antisymm (HE.mp h2) (HE.mp h1)
 keyOf:=Zc h
 dflt:=[]
section
variable{prog:Program}{w:aY}{A:bb}{E:ak->au->Prop}{s:au}
end
section
variable{prog:Program}{w:aY}{A:bb}{E:ak->au->Prop}{s:au}
end
set_option genInjectivity false in
structure Sb where
 it:aq
 l:aq
 tp:Bool
 aw:List ak
def Sb.on(b:Sb)(i:Nat)(h:aT):Prop:=if b.tp=true then h.IsTupleIter b.it b.l i/\h.IsTuple b.l b.aw.toArray else h.IsListIter b.it b.l i/\h.IsList b.l b.aw.toArray
variable{b:Sb}{h' h:aT}
def Sb.frame(x:b.on i h)(k1:∀o,h.get? b.it=aa o->h'.get? b.it=aa o)(k2:∀o,h.get? b.l=aa o->h'.get? b.l=aa o):b.on i h':=by
 unfold Sb.on at *
 split at x
 .rename_i ht
  rw[if_pos ht];exact(x.1.at k1,let⟨o,e,r⟩:=x.2;⟨o,k2 o e,r⟩)
 .rename_i ht
  rw[if_neg ht];exact(x.1.at k1,x.2.at k2)
variable{R:ak->au->Prop}
section
variable{prog:Program}{w:aY}{A:bb}{E:ak->au->Prop}{s:au}
def ym4{b:aq}{k:Nat}{vs:Array ak}{y:ak}(x1:s.heap.IsTupleIter b t k)(x2:s.heap.IsTuple t vs)(x3:vs[k]?=aa y)
  (q:∀h2,h2.IsTupleIter b t (k+1)->gS b s.heap h2->R y { s with heap:=h2 }):aG (aN prog w) A (pN (.ref b)) R E s:=by
 let(u,hu,Ki,mG):=id x1;let(ut,Dw,_,m,C0):=x2;unfold pN
 refine aE (uK (name:=c7 "__next__") x1.typeIs BM
   (uL BM x1.typeIs UO ?_ (UK _)))
 show aG _ _ (field (.ref b) 0 >>= _) _ _ _;refine aE (iD hu mG (x:=.ref t) (by rfl) ?_);let ne:¬((b9 t==gA)=true):=nL;show aG _ _ (if(b9 t==gA)=true then _ else _) _ _ _
 rw[if_neg ne];show aG _ _ (field (.ref b) 1 >>= _) _ _ _;refine aE (iD hu mG (x:=.int k 0) (by rfl) ?_);show aG _ _ (IK (.ref t) >>= _) _ _ _;refine aE (nZ Dw C0 ?_);simp only[rD,x3];refine aE (wpAny_setField hu mG (by simp) (aX ⟨y,rfl,aX (q _ ⟨_,x_ _ hu (Obj.isFreed_of_fields (U3 mG _)),(Obj.cls_mapFields ..).trans Ki,?_⟩ (pQ ..))⟩));rw[U3 mG];simp[uI]
def yv0{b:aq}{k:Nat}{vs:Array ak}(hh:A.handled=aj)(x1:s.heap.IsTupleIter b t k)(x2:s.heap.IsTuple t vs)(x3:vs[k]?=aj)
  (q:∀h2 e,Ik b s.heap h2->(∃o,h2.get? e=aa o/\o.cls=.type "StopIteration")->E (.ref e) { s with heap:=h2 }):aG (aN prog w) A (pN (.ref b)) R E s:=by
 let(u,hu,Ki,mG):=id x1;let(ut,Dw,_,m,C0):=x2;unfold pN
 refine aE (uK (name:=c7 "__next__") x1.typeIs BM
   (uL BM x1.typeIs UO ?_ (UK _)))
 show aG _ _ (field (.ref b) 0 >>= _) _ _ _;refine aE (iD hu mG (x:=.ref t) (by rfl) ?_);let ne:¬((b9 t==gA)=true):=nL;show aG _ _ (if(b9 t==gA)=true then _ else _) _ _ _
 rw[if_neg ne];show aG _ _ (field (.ref b) 1 >>= _) _ _ _;refine aE (iD hu mG (x:=.int k 0) (by rfl) ?_);show aG _ _ (IK (.ref t) >>= _) _ _ _;refine aE (nZ Dw C0 ?_);simp only[rD,x3];refine aE (p8 (aE (wpAny_setField hu mG (by simp) ?_)));show aG _ _ (newExc (.type "StopIteration") [] >>= _) _ _ _;refine aE ?_;simp only[newExc,newTuple];refine aE (p7 ?_ (by size_fits));refine aE (m:=firstArgMember _ _) (wpAny_of_eq (a:=gA) (by first |rfl |(simp only[firstArgMember];rfl)) ?_)
 refine p7 ?_ (by size_fits);simp only[raiseNew];refine aE (wpAny_handled ?_)
 first |rw[show A.in1.handled=aj from hh]|rw[hh]
 refine aE (aX (wpAny_throw ?_));exact q _ _ (((pQ ..).extBut.push _).push _) ⟨_,dY _ rfl,rfl⟩
def Sb.item{k:Nat}{y:ak}(x:b.on k s.heap)(hy:b.aw[k]?=aa y)
  (q:∀h2,b.on (k+1) h2->gS b.it s.heap h2->R y { s with heap:=h2 }) (cj:b.l≠b.it):aG (aN prog w) A (pN (.ref b.it)) R E s:=by
 by_cases ht:b.tp=true
 .let x':=x;unfold Sb.on at x';rw[if_pos ht]at x';refine ym4 x'.1 x'.2 (by simpa using hy) λh2 z1 z2=>q h2 ?_ z2;unfold Sb.on;rw[if_pos ht];exact(z1,x'.2.extBut z2.extBut cj)
 .let x':=x;unfold Sb.on at x';rw[if_neg ht]at x';refine wpAny_nextOf_list_item x'.1 x'.2 (by simpa using hy) λh2 z1 z2=>q h2 ?_ z2;unfold Sb.on;rw[if_neg ht];exact(z1,x'.2.extBut z2.extBut cj)
def Sb.fin{k:Nat}(hh:A.handled=aj)(x:b.on k s.heap)(hy:b.aw[k]?=aj)
  (q:∀h2 e,Ik b.it s.heap h2->(∃o,h2.get? e=aa o/\o.cls=.type "StopIteration")->E (.ref e) { s with heap:=h2 }):aG (aN prog w) A (pN (.ref b.it)) R E s:=by
 by_cases ht:b.tp=true
 .unfold Sb.on at x;rw[if_pos ht]at x;exact yv0 hh x.1 x.2 (by simpa using hy) q
 .unfold Sb.on at x;rw[if_neg ht]at x;exact wpAny_nextOf_list_end hh x.1 x.2 (by simpa using hy) q
end
@[reducible] def TupAt(h:aT)(T:aq)(vs:List ak):Prop:=h.get? T=aa { cls:=.type "tuple", data:=.seq vs.toArray }
structure rZ(z TI TO:aq)(bs:List Sb):Prop where
 ne:bs≠[]
 len:bs.length<=1000
 zT:TO≠z
 iz:∀b∈bs,b.it≠z/\b.it≠TO/\b.it≠TI
 lz:∀b∈bs,b.l≠z/\b.l≠TO/\∀c∈bs,b.l≠c.it
 nd:(bs.map Sb.it).Nodup
 Tz:TI≠z/\TI≠TO
def cz(bs:List Sb):List ak:=bs.map λb=>.ref b.it
variable{z:aq}{ow:List ak}
section
variable{prog:Program}{w:aY}{A:bb}{E:ak->au->Prop}{s:au}
def r8(s:au)(z TI TO:aq)(bs:List Sb)(i:Nat)(cx:List (ak×Nat))(b:Option Fin×Unit)(s':au):Prop :=
 b=(aj,Unit.unit)/\∃k h',s'={ s with heap:=h' }/\k<=bs.length/\cx=((cz bs).drop k).zipIdx k/\fX h' z TI TO .ellipsis /\
  (∃o:List ak,TupAt h' TO o/\o.length=bs.length/\∀j<k,∀b,bs[j]?=aa b->o[j]?=b.aw[i]?/\b.aw[i]?≠aj)/\(∀(j:Nat) b,bs[j]?=aa b->b.on (if j<k then i+1 else i) h')/\h'.objs.size=s.heap.objs.size /\
  ∀c o,c≠z->c≠TO->(∀b∈bs,c≠b.it)->s.heap.get? c=aa o->h'.get? c=aa o
def xr1{bs:List Sb}(h:(bs.map Sb.it).Nodup){j k:Nat}{c:Sb}(hj:bs[j]?=aa b)(hk:bs[k]?=aa c)(cj:j≠k):b.it≠c.it:=by
 intro e;let(h1,e1):=dU.mp hj;let(h2,e2):=dU.mp hk;let p:=Bz.mp h;rcases TM cj with cq |cq
 .exact p j k (by simpa using h1) (by simpa using h2) cq (by simp[e1,e2,e])
 .exact p k j (by simpa using h2) (by simpa using h1) cq (by simp[e1,e2,e])
def r8.step{TI TO:aq}{bs:List Sb}{k:Nat}{x:ak}{h1 h2 h3:aT}{o:List ak}(D:rZ z TI TO bs)(hk:bs[k]?=aa b)(hx:b.aw[i]?=aa x)
  (hz:fX h1 z TI TO .ellipsis) (ho:TupAt h1 TO o) (yN:o.length=bs.length) (oh:∀j<k,∀b,bs[j]?=aa b->o[j]?=b.aw[i]?/\b.aw[i]?≠aj) (XJ:∀(j:Nat) b,bs[j]?=aa b->b.on (if j<k then i+1 else i) h1) (hsz:h1.objs.size=s.heap.objs.size)
  (Xy:∀c o,c≠z->c≠TO->(∀b∈bs,c≠b.it)->s.heap.get? c=aa o->h1.get? c=aa o)
  (n2:b.on (i+1) h2) (s2:gS b.it h1 h2) (n3:TupAt h3 TO (o.set k x)) (s3:gS TO h2 h3) :
  r8 s z TI TO bs i (((cz bs).drop (k+1)).zipIdx (k+1)) (aj,Unit.unit) { s with heap:=h3 }:=by
 let dM:b∈bs:=eE hk;let iL:k<bs.length:=(dU.mp hk).1;let(b1,b2,b3):=D.iz b dM;refine(rfl,k+1,h3,rfl,iL,rfl,?_,⟨o.set k x,n3,by simpa using yN,?_⟩,?_,by rw[s3.1,s2.1];exact hsz,?_)
 .exact s3.extBut _ _ D.zT.symm (s2.extBut _ _ b1.symm hz)
 .intro j hj c hc;by_cases e:j=k
  .subst e;rw[hk]at hc;cases hc;rw[xD (),hx];exact(rfl,by simp)
  .rw[xC ()];exact oh j () c hc
 .intro j c hc;let(c1,c2,c3):=D.iz c (eE hc);let(l1,l2,l3):=D.lz c (eE hc);by_cases e:j=k
  .subst e;rw[hk]at hc;cases hc;rw[if_pos ()];exact Sb.frame n2 (λo e=>s3.extBut _ _ c2 e) λo e=>s3.extBut _ _ l2 e
  .let cj:=xr1 D.nd hc hk e;let hold:=XJ j c hc;rw[show(if j<k+1 then i+1 else i)=(if j<k then i+1 else i)by by_cases h:j<k<;>simp[h]<;>lia]
   exact Sb.frame hold (λo e=>s3.extBut _ _ c2 (s2.extBut _ _ cj e)) λo e=>s3.extBut _ _ l2 (s2.extBut _ _ (l3 b dM) e)
 .intro c o' n1 LL LM e;exact s3.extBut _ _ LL (s2.extBut _ _ (LM b dM) (Xy c o' n1 LL LM e))
def yA6{TI TO:aq}{bs:List Sb}{vs:List ak}(D:rZ z TI TO bs)
  (hz:fX s.heap z TI TO .none) (km:TupAt s.heap TI (cz bs)) (kn:TupAt s.heap TO ow) (how:ow.length=bs.length) (hb:∀b∈bs,b.on i s.heap) (hv:vs.length=bs.length)
  (qm:∀(k:Nat) b,bs[k]?=aa b->∃x,b.aw[i]?=aa x/\vs[k]?=aa x)
  (q:∀h2,fX h2 z TI TO (uI s.heap.objs.size)->TupAt h2 TO vs->(∀b∈bs,b.on (i+1) h2)->TupAt h2 s.heap.objs.size vs->h2.objs.size=s.heap.objs.size+1 ->
   (∀c o,c≠z->c≠TO->(∀b∈bs,c≠b.it)->s.heap.get? c=aa o->h2.get? c=aa o)->R (.ref s.heap.objs.size) { s with heap:=h2 }) :
  aG (aN prog w) A (Builtin.«zip.__next__» ⟨[.ref z],[]⟩) (λfin s'=>∃v,fin=.done (.ret v)/\R v s') E s:=by
 show aG _ _ (field (.ref z) 2 >>= _) _ _ _;refine aE (iD hz (by rfl) (x:=.bool false) (by rfl) ?_);show aG _ _ (field (.ref z) 3 >>= _) _ _ _;refine aE (iD hz (by rfl) (x:=.ref TI) (by rfl) ?_);refine aE (nZ km (by rfl) ?_);let cj:(cz bs).toArray.isEmpty=false:=by
  let:=D.ne;cases bs with
  |nil=>exact absurd rfl this
  |cons b r=>rfl
 let bj:=D.len;simp only[cj,eN,if_false];refine aE ?_;unfold Ui;refine aE (iD hz (by rfl) (x:=.none) (by rfl) (aX ?_));simp only[if_true];refine aE (p8 ?_);refine aE (iD hz (by rfl) (x:=.ref TO) (by rfl) ?_);refine aE (yj hz (by simp) λha za sa=>?_);replace za:fX ha z TI TO .ellipsis:=za;refine aE ?_;refine uM _ (r8 s z TI TO bs i) _ ?turn ?fin _ _ ?start
 case start =>
  refine(rfl,0,ha,rfl,ft _,by simp,za,⟨ow,sa.extBut _ _ D.zT kn,how,λj hj=>absurd hj ()⟩,λj b hj=>?_,sa.1,λc o c1 _ _ e=>sa.extBut _ _ c1 e);let hm:=eE hj;rw[if_neg ()];exact Sb.frame (hb b hm) (λo e=>sa.extBut _ _ (D.iz b hm).1 e) λo e=>sa.extBut _ _ (D.lz b hm).1 e
 case turn =>
  rintro⟨u,kk⟩ cx b0 s1 ⟨rfl,k,h1,rfl,hk,hr,z1,⟨o,o1,o2,o3⟩,oG,sT,qp⟩;let iL:k<bs.length:=by
   by_cases h:k<bs.length
   .exact h
   .rw[rF (by simp[cz];lia)]at hr;cases hr
  obtain⟨b,lA⟩:∃b,bs[k]?=aa b:=⟨_,bY iL⟩;let hm:=eE lA;let hu:u=.ref b.it/\kk=k/\cx=((cz bs).drop (k+1)).zipIdx (k+1):=by
   let e1:(cz bs).drop k=.ref b.it::(cz bs).drop (k+1):=by
    let hl:k<(cz bs).length:=by simpa[cz]using iL
    rw[kO hl];congr 1;let(_,e):=dU.mp lA;simp[cz,e]
   rw[e1,xQ]at hr;cases hr;exact(rfl,rfl,rfl)
  let(rfl,rfl,rfl):=hu;let(x,hx,hxv):=qm _ b lA;let ob:=oG _ b lA;rw[if_neg ()]at ob;refine aE (wpAny_onRaise ?_);show aG _ _ (pN (.ref b.it) >>= _) _ _ _;refine aE (Sb.item ob hx (λh2 n2 s2=>aX ?_) (((D.lz b hm).2.2 b hm)));let t2:TupAt h2 TO o:=s2.extBut _ _ (D.iz b hm).2.1.symm o1;refine aE (nZ t2 (by rfl) ?_);let ja:o.toArray.size<=a9:=by
   let:a9=16777216:=by decide
   simp;lia
  refine aE (VU t2 (by rfl) ?_ ja (by simp;simp at ja;lia));refine aE (wpAny_letGo (aX ?_));refine r8.step D lA hx z1 o1 o2 o3 oG sT qp n2 s2 ?_ (pQ ..);show(h2.update TO _).get? TO=_;rw[x_ _ t2 rfl];simp[rJ]
 case fin =>
  rintro b0 s1 ⟨rfl,k,h1,rfl,hk,hr,z1,⟨o,o1,o2,o3⟩,oG,sT,qp⟩;let vm:k=bs.length:=by
   by_cases h:k<bs.length
   .let hl:k<(cz bs).length:=by simpa[cz]using h
    rw[kO hl,xQ]at hr;cases hr
   .lia
  subst vm;let oh:o=vs:=by
   refine Hr λj=>?_;by_cases hj:j<bs.length
   .obtain⟨b,Kf⟩:∃b,bs[j]?=aa b:=⟨_,bY hj⟩;let(x,e1,e2):=qm j b Kf;rw[(o3 j hj b Kf).1,e1,e2]
   .rw[l0 (),l0 ()]
  subst oh;refine aE (nZ o1 (by rfl) ?_);refine aE (IW ?_ ?_)
  .show aG _ _ (Uh (.ref z) (.ref h1.objs.size) >>= _) _ _ _;refine aE ?_;unfold Uh;let z2:fX (h1.push { cls:=.type "tuple", data:=.seq o.toArray.toList.toArray }) z TI TO .ellipsis:=cv _ z1;refine aE (yj z2 (by simp) λh3 z3 s3=>?_);replace z3:fX h3 z TI TO (uI h1.objs.size):=z3;refine yj z3 (by simp) λh4 z4 s4=>?_;replace z4:fX h4 z TI TO (uI h1.objs.size):=z4;let up:∀c u,c≠z->h1.get? c=aa u->h4.get? c=aa u:=λc u c1 e=>s4.extBut _ _ c1 (s3.extBut _ _ c1 (cv _ e));let oz:z<h1.objs.size:=b8 z1;let hT:TupAt h4 h1.objs.size o:=s4.extBut _ _ (j8 oz) (s3.extBut _ _ (j8 oz) (by rw[dY _ rfl]));let J0:h4.objs.size=h1.objs.size+1:=by rw[s4.1,s3.1,ka]
   refine aX ⟨_,rfl,?_⟩;rw[sT]at z4 hT J0 ⊢;refine q h4 z4 (up _ _ D.zT o1) (λb hm=>?_) hT J0 λc u c1 c2 c3 e=>up c u c1 (qp c u c1 c2 c3 e);let(j,hj,ej):=gR hm;let:=oG j b (by rw[bY hj,ej]);rw[if_pos hj]at this;exact Sb.frame this (λu e=>up _ u (D.iz b hm).1 e) λu e=>up _ u (D.lz b hm).1 e
  .let:a9=16777216:=by decide
   simp;lia
end
section
variable{prog:Program}{w:aY}{A:bb}{E:ak->au->Prop}{s:au}
def yL7{TI TO:aq}{bs:List Sb}{R:Fin->au->Prop}(hh:A.handled=aj)(D:rZ z TI TO bs)
  (hz:fX s.heap z TI TO .none) (km:TupAt s.heap TI (cz bs)) (kn:TupAt s.heap TO ow) (how:ow.length=bs.length) (hb:∀b∈bs,b.on i s.heap) (vf:∃b∈bs,b.aw[i]?=aj)
  (q:∀h2 e,(∀c o,c≠z->c≠TO->(∀b∈bs,c≠b.it)->s.heap.get? c=aa o->h2.get? c=aa o)->(∃o,h2.get? e=aa o/\o.cls=.type "StopIteration")->E (.ref e) { s with heap:=h2 }) :
  aG (aN prog w) A (Builtin.«zip.__next__» ⟨[.ref z],[]⟩) R E s:=by
 show aG _ _ (field (.ref z) 2 >>= _) _ _ _;refine aE (iD hz (by rfl) (x:=.bool false) (by rfl) ?_);show aG _ _ (field (.ref z) 3 >>= _) _ _ _;refine aE (iD hz (by rfl) (x:=.ref TI) (by rfl) ?_);refine aE (nZ km (by rfl) ?_);let cj:(cz bs).toArray.isEmpty=false:=by
  let:=D.ne;cases bs with
  |nil=>exact absurd rfl this
  |cons b r=>rfl
 let bj:=D.len;simp only[cj,eN,if_false];refine aE ?_;unfold Ui;refine aE (iD hz (by rfl) (x:=.none) (by rfl) (aX ?_));simp only[if_true];refine aE (p8 ?_);refine aE (iD hz (by rfl) (x:=.ref TO) (by rfl) ?_);refine aE (yj hz (by simp) λha za sa=>?_);replace za:fX ha z TI TO .ellipsis:=za;refine aE ?_;refine uM _ (r8 s z TI TO bs i) _ ?turn ?fin _ _ ?start
 case start =>
  refine(rfl,0,ha,rfl,ft _,by simp,za,⟨ow,sa.extBut _ _ D.zT kn,how,λj hj=>absurd hj ()⟩,λj b hj=>?_,sa.1,λc o c1 _ _ e=>sa.extBut _ _ c1 e);let hm:=eE hj;rw[if_neg ()];exact Sb.frame (hb b hm) (λo e=>sa.extBut _ _ (D.iz b hm).1 e) λo e=>sa.extBut _ _ (D.lz b hm).1 e
 case turn =>
  rintro⟨u,kk⟩ cx b0 s1 ⟨rfl,k,h1,rfl,hk,hr,z1,⟨o,o1,o2,o3⟩,oG,sT,qp⟩;let iL:k<bs.length:=by
   by_cases h:k<bs.length
   .exact h
   .rw[rF (by simp[cz];lia)]at hr;cases hr
  obtain⟨b,lA⟩:∃b,bs[k]?=aa b:=⟨_,bY iL⟩;let hm:=eE lA;let hu:u=.ref b.it/\kk=k/\cx=((cz bs).drop (k+1)).zipIdx (k+1):=by
   let e1:(cz bs).drop k=.ref b.it::(cz bs).drop (k+1):=by
    let hl:k<(cz bs).length:=by simpa[cz]using iL
    rw[kO hl];congr 1;let(_,e):=dU.mp lA;simp[cz,e]
   rw[e1,xQ]at hr;cases hr;exact(rfl,rfl,rfl)
  let(rfl,rfl,rfl):=hu;let ob:=oG _ b lA;rw[if_neg ()]at ob;refine aE (wpAny_onRaise ?_);show aG _ _ (pN (.ref b.it) >>= _) _ _ _;cases hx:b.aw[i]? with
  |none=>
   refine aE (Sb.fin hh ob hx λh2 e k2 he=>?_);let(oe,Dk,Kh):=he;let z2:fX h2 z TI TO .ellipsis:=k2 _ _ (D.iz b hm).1.symm z1;let Xg:e≠z:=λe'=>by subst e';rw[z2]at Dk;cases Dk;simp at Kh
   refine yj z2 (by simp) λh3 _ s3=>q h3 e (λc u c1 c2 c3 x=>?_) ⟨oe,s3.extBut _ _ Xg Dk,Kh⟩;exact s3.extBut _ _ c1 (k2 _ _ (c3 b hm) (qp c u c1 c2 c3 x))
  |some x=>
   refine aE (Sb.item ob hx (λh2 n2 s2=>aX ?_) (((D.lz b hm).2.2 b hm)));let t2:TupAt h2 TO o:=s2.extBut _ _ (D.iz b hm).2.1.symm o1;refine aE (nZ t2 (by rfl) ?_);let ja:o.toArray.size<=a9:=by
    let:a9=16777216:=by decide
    simp;lia
   refine aE (VU t2 (by rfl) ?_ ja (by simp;simp at ja;lia));refine aE (wpAny_letGo (aX ?_));refine r8.step D lA hx z1 o1 o2 o3 oG sT qp n2 s2 ?_ (pQ ..);show(h2.update TO _).get? TO=_;rw[x_ _ t2 rfl];simp[rJ]
 case fin =>
  rintro b0 s1 ⟨rfl,k,h1,rfl,hk,hr,z1,⟨o,o1,o2,o3⟩,oG,sT,qp⟩;let vm:k=bs.length:=by
   by_cases h:k<bs.length
   .let hl:k<(cz bs).length:=by simpa[cz]using h
    rw[kO hl,xQ]at hr;cases hr
   .lia
  let(b,hm,mD):=vf;let(j,hj,ej):=gR hm;exact absurd mD (o3 j () b (by rw[bY hj,ej])).2
def zW7{TI TO:aq}{bs:List Sb}{vs:List ak}{R:Option ak->au->Prop}(D:rZ z TI TO bs)
  (hz:fX s.heap z TI TO .none) (km:TupAt s.heap TI (cz bs)) (kn:TupAt s.heap TO ow) (how:ow.length=bs.length) (hb:∀b∈bs,b.on i s.heap) (hv:vs.length=bs.length)
  (qm:∀(k:Nat) b,bs[k]?=aa b->∃x,b.aw[i]?=aa x/\vs[k]?=aa x)
  (q:∀h2,fX h2 z TI TO (uI s.heap.objs.size)->TupAt h2 TO vs->(∀b∈bs,b.on (i+1) h2)->TupAt h2 s.heap.objs.size vs->h2.objs.size=s.heap.objs.size+1 ->
   (∀c o,c≠z->c≠TO->(∀b∈bs,c≠b.it)->s.heap.get? c=aa o->h2.get? c=aa o)->R (aa (.ref s.heap.objs.size)) { s with heap:=h2 }) :
  aG (aN prog w) A (pyNext (.ref z)) R E s:=by
 let d4:s.TypeIs (.ref z) "zip" := ⟨_,hz,rfl⟩;unfold pyNext;refine aE (wpAny_attempt (uK (name:=c7 "__next__") d4 BN (uL BN d4 UQ ?_ (UL _))));exact yA6 D hz km kn how hb hv qm λh2 a1 a2 a3 a4 a5 a6=>aX (q h2 a1 a2 a3 a4 a5 a6)
def yc0{TI TO:aq}{bs:List Sb}{R:Option ak->au->Prop}(hh:A.handled=aj)(D:rZ z TI TO bs)
  (hz:fX s.heap z TI TO .none) (km:TupAt s.heap TI (cz bs)) (kn:TupAt s.heap TO ow) (how:ow.length=bs.length) (hb:∀b∈bs,b.on i s.heap) (vf:∃b∈bs,b.aw[i]?=aj)
  (q:∀h2,(∀c o,c≠z->c≠TO->(∀b∈bs,c≠b.it)->s.heap.get? c=aa o->h2.get? c=aa o)->R aj { s with heap:=h2 }) :
  aG (aN prog w) A (pyNext (.ref z)) R E s:=by
 let d4:s.TypeIs (.ref z) "zip" := ⟨_,hz,rfl⟩;unfold pyNext;refine aE (wpAny_attempt (uK (name:=c7 "__next__") d4 BN (uL BN d4 UQ ?_ (UL _))));refine yL7 hh D hz km kn how hb vf λh2 e k2 he=>?_;let(o,ho,hc):=he;exact aE (wpAny_isInstance (T := "StopIteration") (b:=true) ⟨o,ho,hc⟩ isSubtype_stop (aX (q _ k2)))
set_option genInjectivity false in
structure Sr where
 l:aq
 tp:Bool
 aw:List ak
def Sr.on(r:Sr)(h:aT):Prop:=if r.tp=true then h.IsTuple r.l r.aw.toArray else h.IsList r.l r.aw.toArray
def Sr.frame{r:Sr}(x:r.on h)(k:∀o,h.get? r.l=aa o->h'.get? r.l=aa o):r.on h':=by
 unfold Sr.on at *
 split at x
 .rename_i ht
  rw[if_pos ht];exact(let⟨o,e,q⟩:=x;⟨o,k o e,q⟩)
 .rename_i ht
  rw[if_neg ht];exact x.at k
def Sr.lt{r:Sr}(x:r.on h):r.l<h.objs.size:=by
 unfold Sr.on at x;split at x
 .let(o,e,_):=x;exact b8 e
 .let(o,e,_):=x;exact b8 e
def Sr.sb(r:Sr)(it:aq):Sb:=⟨it,r.l,r.tp,r.aw⟩
def cS(n:Nat)(rs:List Sr):List Sb:=(rs.zipIdx n).map λp=>p.1.sb p.2
def Sr.iter{r:Sr}(x:r.on s.heap)
  (q:∀h2,(r.sb s.heap.objs.size).on 0 h2->h2.objs.size=s.heap.objs.size+1->(∀c o,s.heap.get? c=aa o->h2.get? c=aa o)->R (.ref s.heap.objs.size) { s with heap:=h2 }):aG (aN prog w) A (pyIter (.ref r.l)) R E s:=by
 by_cases ht:r.tp=true
 .let x':=x;unfold Sr.on at x';rw[if_pos ht]at x';refine IZ x' (q _ ?_ (ka _ _) λc o e=>cv _ e);unfold Sb.on;rw[if_pos (show(r.sb s.heap.objs.size).tp=true from ht)];exact(⟨_,dY _ rfl,rfl,rfl⟩,x'.push _)
 .let x':=x;unfold Sr.on at x';rw[if_neg ht]at x';refine IY x' (q _ ?_ (ka _ _) λc o e=>cv _ e);unfold Sb.on;rw[if_neg (show ¬(r.sb s.heap.objs.size).tp=true from ht)];exact(⟨_,dY _ rfl,rfl,rfl⟩,x'.push _)
def yb0{rs:List Sr}{R:List ak->au->Prop}(x:∀r∈rs,r.on s.heap)
  (q:∀h2,(∀b∈cS s.heap.objs.size rs,b.on 0 h2)->h2.objs.size=s.heap.objs.size+rs.length->(∀c o,s.heap.get? c=aa o->h2.get? c=aa o)->R (cz (cS s.heap.objs.size rs)) { s with heap:=h2 }) :
  aG (aN prog w) A (Ug (rs.map λr=>.ref r.l)) R E s:=by
 unfold Ug;refine aE ?_;refine uM _ (λcx acc s1=>∃k h1,s1={ s with heap:=h1 }/\k<=rs.length/\cx=(rs.drop k).map (λr=>.ref r.l)/\acc.toList=cz (cS s.heap.objs.size (rs.take k))/\(∀b∈cS s.heap.objs.size (rs.take k),b.on 0 h1)/\h1.objs.size=s.heap.objs.size+k/\∀c o,s.heap.get? c=aa o->h1.get? c=aa o) _ ?turn ?fin _ _ ?start
 case start=>exact(0,s.heap,rfl,ft _,by simp,by simp[cS,cz],by simp[cS],by simp,λ_ _ e=>e)
 case turn =>
  rintro u cx acc s1 ⟨k,h1,rfl,hk,hr,ha,hb,hs,kp⟩;let iL:k<rs.length:=by
   by_cases h:k<rs.length
   .exact h
   .rw[rF ()]at hr;cases hr
  rw[kO iL,bJ]at hr;cases hr;let hm:rs[k]∈rs:=rH _;refine aE (kc (Sr.iter (Sr.frame (x _ hm) λo e=>kp _ o e) λh2 n2 z2 k2=>aX ?_));let et:rs.take (k+1)=rs.take k++[rs[k]]:=by rw[BB,bY iL];rfl
  let es:cS s.heap.objs.size (rs.take (k+1))=cS s.heap.objs.size (rs.take k)++[rs[k].sb h1.objs.size]:=by
   rw[et];unfold cS;rw[List.zipIdx_append,kQ];congr 1;simp[hs,xS (uw iL),TH]
  refine(k+1,h2,rfl,iL,rfl,?_,?_,by rw[z2,hs];lia,λc o e=>k2 c o (kp c o e))
  .rw[es];unfold cz at *
   rw[Sz,ha,kQ];rfl
  .rw[es];intro b gH;rcases d0.mp gH with h |h
   .exact Sb.frame (hb b h) (λo e=>k2 _ o e) λo e=>k2 _ o e
   .let:b=rs[k].sb h1.objs.size:=by simpa using h
    subst this;exact n2
 case fin =>
  rintro acc s1 ⟨k,h1,rfl,hk,hr,ha,hb,hs,kp⟩;let vm:k=rs.length:=by
   by_cases h:k<rs.length
   .rw[kO h,bJ]at hr;cases hr
   .lia
  subst vm;rw[BA]at ha hb;refine aX ?_;rw[ha];exact q h1 hb hs kp
end
def Su(rs:List Sr):Meets (Builtin.«zip.__new__» ⟨.type "zip" :: rs.map (λr=>.ref r.l),[]⟩) (λ_ R s=>(∀r∈rs,r.on s.heap)/\rs.length<=1000/\∀h2 z TI TO,z=s.heap.objs.size+rs.length+2->TI=s.heap.objs.size+rs.length->TO=s.heap.objs.size+rs.length+1->fX h2 z TI TO .none->TupAt h2 TI (cz (cS s.heap.objs.size rs))->TupAt h2 TO ((cz (cS s.heap.objs.size rs)).map λ_=>.none) ->
      (∀b∈cS s.heap.objs.size rs,b.on 0 h2)->h2.objs.size=s.heap.objs.size+rs.length+3->(∀c o,s.heap.get? c=aa o->h2.get? c=aa o)->R (.ok (.ret (.ref z))) { s with heap:=h2 }) :=
  .of_wp λprog w A R s h=>by
    let(hp,g,d,tk,os):=s;let(x,hl,q):=h;let g9:=sub_zip;unfold Builtin.«zip.__new__»
    wp_walk using yb0 x
    intro h2 y1 y2 y3;dsimp only at *
    let yI:(cz (cS hp.objs.size rs)).length=rs.length:=by simp[cz,cS]
    let kC:a9=16777216:=by decide
    generalize hT:cz (cS hp.objs.size rs)=ts at *
    refine aE (IW ?_ ());refine aE (IW ?_ (by rw[cy];lia));dsimp only;let e1:(h2.push { cls:=.type "tuple", data:=.seq ts.toArray }).objs.size=h2.objs.size+1:=ka ..;let g1:(h2.push { cls:=.type "tuple", data:=.seq ts.toArray }).get? h2.objs.size=aa { cls:=.type "tuple", data:=.seq ts.toArray }:=dY _ rfl;let g0:∀c o,h2.get? c=aa o->(h2.push { cls:=.type "tuple", data:=.seq ts.toArray }).get? c=aa o:=λc o e=>cv _ e;generalize(h2.push { cls:=.type "tuple", data:=.seq ts.toArray })=h3 at *
    let e2:=ka h3 { cls:=.type "tuple", data:=.seq (iZ (λ_=>gA) ts).toArray };let g2:(h3.push { cls:=.type "tuple", data:=.seq (iZ (λ_=>gA) ts).toArray }).get? h3.objs.size=aa _:=dY _ rfl;let g3:∀c o,h3.get? c=aa o->(h3.push { cls:=.type "tuple", data:=.seq (iZ (λ_=>gA) ts).toArray }).get? c=aa o:=λc o e=>cv _ e;generalize(h3.push { cls:=.type "tuple", data:=.seq (iZ (λ_=>gA) ts).toArray })=h4 at *
    wp_walk
    let e3:=λo=>ka h4 o;refine(_,rfl,q _ _ h2.objs.size h3.objs.size (by rw[e2,e1,y2]) (by rw[y2]) (by rw[e1,y2]) (dY _ rfl) ?_ ?_ ?_ ?_ ?_)
    .exact cv _ (g3 _ _ g1)
    .exact cv _ g2
    .exact λb hb=>Sb.frame (y1 b hb) (λo e=>cv _ (g3 _ _ (g0 _ _ e))) λo e=>cv _ (g3 _ _ (g0 _ _ e))
    .rw[e3,e2,e1,y2]
    .exact λc o e=>cv _ (g3 _ _ (g0 _ _ (y3 c o e)))
section
variable{prog:Program}{w:aY}{A:bb}{E:ak->au->Prop}{s:au}
end
section
variable{prog:Program}{w:aY}{A:bb}{E:ak->au->Prop}{s:au}
end
section
variable{prog:Program}{w:aY}{A:bb}{E:ak->au->Prop}{s:au}
end
section
variable{prog:Program}{w:aY}{A:bb}{E:ak->au->Prop}{s:au}
variable{K:Type}[DecidableEq K]{knd:KeyKind prog w K}
end
def zK9(a b c:ak):checkTypeCall "zip" ⟨[a,b,c],[]⟩=pure Unit.unit:=by kernel_rfl
def zQ1(a b c:ak):Vy "zip.__new__" ⟨[.type "zip", a,b,c],[]⟩=pure Unit.unit:=by kernel_rfl
def zY9(a b c d:ak):argsOk "object.__init__" ⟨[a,b,c,d],[]⟩:=by
 unfold argsOk
 rw [signature?_of (id := "object.__init__") (n:=['_','_','t','i','n','i','_','_']) (o:=['t','c','e','j','b','o'])
   (by kernel_rfl) F.owner_object]
 kernel_rfl
section
variable{prog:Program}{w:aY}{A:bb}{E:ak->au->Prop}{s:au}
def V4(s:au)(rs:List Sr)(Q:ak->au->Prop):Prop:=∀h2 z TI TO,z=s.heap.objs.size+rs.length+2->TI=s.heap.objs.size+rs.length->TO=s.heap.objs.size+rs.length+1->fX h2 z TI TO .none->TupAt h2 TI (cz (cS s.heap.objs.size rs))->TupAt h2 TO ((cz (cS s.heap.objs.size rs)).map λ_=>.none) ->
      (∀b∈cS s.heap.objs.size rs,b.on 0 h2)->h2.objs.size=s.heap.objs.size+rs.length+3->(∀c o,s.heap.get? c=aa o->h2.get? c=aa o)->Q (.ref z) { s with heap:=h2 }
def yo8(rs:List Sr)(hn:rs.length=2\/rs.length=3)(x:∀r∈rs,r.on s.heap){Q:ak->au->Prop}(q:V4 s rs Q):aG (aN prog w) A (call (.type "zip") (rs.map λr=>.ref r.l)) Q E s:=by
 let go:(∀h2 z TI TO,z=s.heap.objs.size+rs.length+2->TI=s.heap.objs.size+rs.length->TO=s.heap.objs.size+rs.length+1->fX h2 z TI TO .none->TupAt h2 TI (cz (cS s.heap.objs.size rs))->TupAt h2 TO ((cz (cS s.heap.objs.size rs)).map λ_=>.none) ->
   (∀b∈cS s.heap.objs.size rs,b.on 0 h2)->h2.objs.size=s.heap.objs.size+rs.length+3->(∀c o,s.heap.get? c=aa o->h2.get? c=aa o)->wants (λobj s₁=>s₁.TypeIs obj "zip" /\ Q obj s₁) E (.ok (.ret (.ref z))) { s with heap:=h2 }):=by
  intro h2 z TI TO e1 e2 e3 g1 g2 g3 g4 g5 g6;exact(⟨_,g1,rfl⟩,q h2 z TI TO e1 e2 e3 g1 g2 g3 g4 g5 g6)
 match rs,hn,x,q,go with
 |[a,b],_,x,q,go=>exact callType_new F.called_zip (by decide) (F.typeCall_zip_2 _ _) (F.newCall_zip_2 _ _) (λobj=>F.args_object_init_3 obj _ _) UP (Su [a,b]) ⟨x,by simp,go⟩
 |[a,b,c],_,x,q,go=>exact callType_new F.called_zip (by decide) (zK9 _ _ _) (zQ1 _ _ _) (λobj=>zY9 obj _ _ _) UP (Su [a,b,c]) ⟨x,by simp,go⟩
 |[],h,_,_,_=>simp at h
 |[_],h,_,_,_=>simp at h
 |_::_::_::_::_,h,_,_,_=>simp at h
end
def cT(K:aQ)(H:Hp)(p:Nat×Bool)(vs:List V):Prop:=if p.2=true then bR K H p.1 vs else bL K H p.1 vs
def Cc(K:aQ)(ps:List (Nat×Bool)):L2.It :=
  ⟨λi H=>∃bG,cn (cT K H) ps bG/\∀vs∈bG,i<vs.length,
   λi H x H'=>∃T row,H T=aj/\x=.ref T/\H'=upd H T (.af row)/\∀bG,cn (cT K H) ps bG->row=bG.map λvs=>vs.getD i .aL,
   λi H=>∃bG,cn (cT K H) ps bG/\∃vs∈bG,vs.length<=i⟩
section
variable{X:Cx}{ae:List (aq×aV)}{Z:L2.St}{H:Hp}{s:au}
def cT.inj{p:Nat×Bool}(I:Inv X ae Z H s)(h:cT X.K H p vs)(g:cT X.K H p ws):vs=ws:=by
 unfold cT at h g;split at h
 .rename_i ht;rw[if_pos ht]at g;exact I.Ed h g
 .rename_i ht;rw[if_neg ht]at g;exact I.vG h g
def cT.Ll(I:Inv X ae Z H s):∀{ps:List (Nat×Bool)}{bG Ei:List (List V)},cn (cT X.K H) ps bG->cn (cT X.K H) ps Ei->bG=Ei
 |_,_,_,.nil,.nil=>rfl
 |_,_,_,.cons a t,.cons b u=>by rw[cT.inj I a b,cT.Ll I t u]
def cT.cb{p:Nat×Bool}(I:Inv X ae Z H s)(h:cT X.K H p vs):∃aw:List ak,ba vs aw/\(⟨p.1,p.2,aw⟩:Sr).on s.heap/\vs.length<=a9:=by
 unfold cT at h;split at h
 .rename_i ht
  let(aw,r,q,z):=I.tuple h;refine(aw,r,?_,z);unfold Sr.on;rw[if_pos ht];exact q
 .rename_i ht
  let(aw,r,q,z):=I.list h;refine(aw,r,?_,z);unfold Sr.on;rw[if_neg ht];exact q.isList
def cT.zq(I:Inv X ae Z H s):∀{ps:List (Nat×Bool)}{bG:List (List V)},cn (cT X.K H) ps bG->∃rs:List Sr,rs.map (λr=>(r.l,r.tp))=ps/\cn (λvs (r:Sr)=>ba vs r.aw) bG rs/\∀r∈rs,r.on s.heap
 |[],[],.nil=>⟨[],rfl,.nil,by simp⟩
 | p::ps,vs::bG,.cons a t=>by
  let(aw,r,q,_):=cT.cb I a;let(rs,e,pr,on):=cT.zq I t;refine(⟨p.1,p.2,aw⟩::rs,by simp[e],.cons r pr,λr' hr=>?_);rcases bN.mp hr with rfl |hr
  .exact q
  .exact on r' hr
def Inv.zI{t':Nat}{ch:List aq}(I:Inv X ae Z H s)(k:∀b o,b∉ch->s.heap.get? b=aa o->h'.get? b=aa o)(hf:∀b∈ch,hG X ae H b):Inv X ae Z H { s with heap:=h',toks:=t' }:=by
 refine I.step (g':=s.gens) (d':=s.drawn) (ch:=ch) (λb hb=>?_) (λb o _ _ hc e _=>k b o hc e) (λb o _ _ hc e _=>⟨o.slots,k b o hc e⟩) (λ_ _ _ _ n=>n) (λb o hc e=>⟨o,k b o hc e⟩)
  (λ_ _ e=>e) (λ_ _ _ e=>e) (λb ps e=>⟨#[],by rw[e];simp⟩) (λm hm=>?_) (λb u e=>?_) I.bare
 .let(_,f1,_,f3,f4,f5):=hf b hb;exact(f3,f1,f4,f5)
 .let(o,es,ep,ho,r):=hm;exact(o,es,ep,k _ o (λz=>(hf _ z).2.1 rfl) ho,r)
 .let no:∀c u,H c=aa u->c∉ch:=λc u e z=>by rw[(hf c z).1]at e;cases e
  refine(I.aF b u e).mU (λc v hc q=>k c v ?_ q) (λ_ q=>q) λ_ _ q=>q;rcases hc with z |z
  .rw[z];exact no b u e
  .exact no c _ z
end
def kF(it l:Nat)(tp:Bool)(i:Nat)(h:aT):Prop:=if tp=true then h.IsTupleIter it l i else h.IsListIter it l i
def Fw:b.on i h↔kF b.it b.l b.tp i h/\(⟨b.l,b.tp,b.aw⟩:Sr).on h:=by
 unfold Sb.on kF Sr.on;by_cases ht:b.tp=true
 .rw[if_pos ht,if_pos ht,if_pos ht]
 .rw[if_neg ht,if_neg ht,if_neg ht]
def kF.keep{it l:Nat}{tp:Bool}(x:kF it l tp i h)(k:∀o,h.get? it=aa o->h'.get? it=aa o):kF it l tp i h':=by
 unfold kF at *
 split at x
 .rename_i ht;rw[if_pos ht];exact x.at k
 .rename_i ht;rw[if_neg ht];exact x.at k
def kF.obj{it l:Nat}{tp:Bool}(x:kF it l tp i h):∃o,h.get? it=aa o/\∀v,o.data≠.cell v:=by
 unfold kF at x;split at x
 .let(o,e,c,d):=x;exact(o,e,λv z=>by rw[d]at z;cases z)
 .let(o,e,c,d):=x;exact(o,e,λv z=>by rw[d]at z;cases z)
def Jf(n0 z TI TO:Nat)(ps:List (Nat×Bool))(i:Nat)(h:aT):Prop :=
 fX h z TI TO .none/\TupAt h TI ((cF ps.length).map λk=>.ref (n0+k))/\(∃ow:List ak,TupAt h TO ow/\ow.length=ps.length)/\∀(k:Nat) p,ps[k]?=aa p->kF (n0+k) p.1 p.2 i h
def eP(n0 z TI TO:Nat)(n:Nat):List Nat:=z::TI::TO::(cF n).map (n0 + ·)
variable{n0:Nat}{rs:List Sr}
def lW{k:Nat}:(cS n0 rs)[k]?=(rs[k]?).map λr=>r.sb (n0+k):=by
 unfold cS;rw[eC,S5];cases rs[k]?<;>simp
def A0:cz (cS n0 rs)=(cF rs.length).map λk=>.ref (n0+k):=by
 refine Hr λk=>?_;unfold cz;rw[eC,lW,eC];by_cases h:k<rs.length
 .rw[bY h,Hu h];rfl
 .rw[l0 (),l0 (by simpa using h)];rfl
def wH:(cS n0 rs).length=rs.length:=by simp[cS]
def Sd{z TI TO b:Nat}(h:b∈eP n0 z TI TO n):b=z\/b=TI\/b=TO\/∃k,k<n/\b=n0+k:=by
 simp only[eP,bN,bK,eF]at h;rcases h with h |h |h |⟨k,hk,e⟩
 .exact .inl h
 .exact .inr (.inl h)
 .exact .inr (.inr (.inl h))
 .exact .inr (.inr (.inr ⟨k,hk,e.symm⟩))
def JV{o u:aV}{b:Nat}(hb:b≠h.objs.size)(e:(h.push o).get? b=aa u):h.get? b=aa u:=by
 let hl:=b8 e;rw[ka]at hl;let hl:b<h.objs.size+1:=hl;let cq:b<h.objs.size:=by lia
 unfold Heap.get? Heap.push at *
 simp only[Array.getElem?_push]at e;rw[if_neg ()]at e;exact e
def OH{z TI TO:Nat}{ps:List (Nat×Bool)}(hn:1<=ps.length/\ps.length<=3)(hz:z=n0+ps.length+2)(km:TI=n0+ps.length)(kn:TO=n0+ps.length+1)(cq:∀p∈ps,p.1<n0)(e:rs.map (λr=>(r.l,r.tp))=ps):rZ z TI TO (cS n0 rs):=by
 let kA:rs.length=ps.length:=by rw[<-e];simp
 let mem:∀b∈cS n0 rs,∃k r,k<ps.length/\rs[k]?=aa r/\b=r.sb (n0+k):=λb hb=>by
  let(k,hk,ek):=gR hb;let hg:=bY hk;rw[ek,lW]at hg;let(r,hr,rfl):=d9.mp hg;exact(k,r,by let:=(dU.mp hr).1;lia,hr,rfl)
 let ll:∀r∈rs,@LT.lt Nat _ r.l n0:=λr hr=>cq (r.l,r.tp) (by rw[<-e];exact bK.mpr ⟨r,hr,rfl⟩);refine(λh=>?_,by rw[wH];lia,(show @Ne Nat TO z by lia),λb hb=>?_,λb hb=>?_,?_,(show @Ne Nat TI z by lia),(show @Ne Nat TI TO by lia))
 .let:rs.length=0:=by rw[<-wH (n0:=n0),h];rfl
  lia
 .let(k,r,hk,hr,rfl):=mem b hb;exact((show @Ne Nat (n0+k) z by lia),(show @Ne Nat (n0+k) TO by lia),(show @Ne Nat (n0+k) TI by lia))
 .let(k,r,hk,hr,rfl):=mem b hb;let:=ll r (eE hr);refine(?_,?_,λc hc=>?_)
  .show @Ne Nat r.l z;lia
  .show @Ne Nat r.l TO;lia
  .let(k2,r2,_,_,rfl):=mem c hc;show @Ne Nat r.l (n0+k2);lia
 .let:(cS n0 rs).map Sb.it=(cF rs.length).map (n0 + ·):=by
   refine Hr λk=>?_;rw[eC,lW,eC];by_cases h:k<rs.length
   .rw[bY h,Hu h];rfl
   .rw[l0 (),l0 (by simpa using h)];rfl
  rw[this];unfold Bq;rw[xJ];exact Tf.imp λh e=>h (Nat.add_left_cancel e)
def Sh{ps:List (Nat×Bool)}(e:rs.map (λr=>(r.l,r.tp))=ps)(t4:∀(k:Nat) p,ps[k]?=aa p->kF (n0+k) p.1 p.2 i h)(on:∀r∈rs,r.on h):∀b∈cS n0 rs,b.on i h:=λb hb=>by
 let(k,hk,ek):=gR hb;let hg:=bY hk;rw[ek,lW]at hg;let(r,hr,rfl):=d9.mp hg;refine Fw.mpr ⟨?_,on r (eE hr)⟩;exact t4 k (r.l,r.tp) (by rw[<-e,eC,hr];rfl)
def Sl{i:Nat}:∀{bG:List (List V)}{rs:List Sr},cn (λvs (r:Sr)=>ba vs r.aw) bG rs->(∀vs∈bG,i<vs.length)->∃(row:List V)(us:List ak),row=bG.map (λvs=>vs.getD i .aL)/\ba row us/\us.length=rs.length/\∀(k:Nat) r,rs[k]?=aa r->∃x,r.aw[i]?=aa x/\us[k]?=aa x
 |[],[],.nil,_=>⟨[],[],rfl,.nil,rfl,λk r h=>by simp at h⟩
 | vs::bG,r::rs,.cons h t,hl=>by
  let(row,us,e1,e2,e3,e4):=Sl t λv hv=>hl v (b5 _ hv);let hi:=hl vs (by simp);let(u,hu,ru):=h.get (bY hi);refine(vs[i]::row,u::us,?_,.cons ru e2,by simp[e3],λk r' hr=>?_)
  .rw[bJ,e1,gQ,bY hi];rfl
  .cases k with
   |zero=>simp at hr;subst hr;exact(u,hu,rfl)
   |succ k=>
    let(x,b1,b2):=e4 k r' (by simpa using hr);exact(x,b1,by simpa using b2)
def aa0:∀{bG:List (List V)}{rs:List Sr},cn (λvs (r:Sr)=>ba vs r.aw) bG rs->(∃vs∈bG,vs.length<=i)->∃b∈cS n0 rs,b.aw[i]?=aj:=by
 intro bG rs h hv;let(vs,hm,hle):=hv;let:∃r∈rs,r.aw[i]?=aj:=by
  induction h with
  |nil=>cases hm
  |cons hh t ih=>
   rcases bN.mp hm with rfl |hm
   .exact(_,gy,l0 (by let:=hh.length;lia))
   .let(r,hr,e):=ih hm;exact(r,b5 _ hr,e)
 let(r,hr,e):=this;let(k,hk,ek):=gR hr;exact(r.sb (n0+k),eE (by rw[lW,bY hk,ek];rfl),e)
def yL3{P:Program}{w:aY}{elts:List Expr}{x1}{pos:aU}(n0 z TI TO:Nat)(ps:List (Nat×Bool))(hn:1<=ps.length/\ps.length<=3)(hz:z=n0+ps.length+2)(km:TI=n0+ps.length)(kn:TO=n0+ps.length+1)(cq:∀p∈ps,p.1<n0):
  qB P w K (.Tuple elts x1 pos) (Cc K ps) (eP n0 z TI TO ps.length) z (Jf n0 z TI TO ps) where
 mem:=by simp[eP]
 obj:=λi h st b hb=>by
  obtain⟨t1,t2,⟨ow,t3,_⟩,t4⟩:=st;simp only[eP,bN,bK,eF]at hb;rcases hb with rfl |rfl |rfl |⟨k,hk,rfl⟩
  .exact(_,t1,λv e=>by cases e)
  .exact(_,t2,λv e=>by cases e)
  .exact(_,t3,λv e=>by cases e)
  .exact(t4 k _ (bY hk)).obj
 keep:=λi h h' st k=>by
  obtain⟨t1,t2,⟨ow,t3,vU⟩,t4⟩:=st;refine(k z (by simp[eP]) _ t1,k TI (by simp[eP]) _ t2,⟨ow,k TO (by simp[eP]) _ t3,vU⟩,λj p hj=>(t4 j p hj).keep λo e=>k _ ?_ o e);let:=(dU.mp hj).1;simp only[eP,bN,bK,eF];exact .inr (.inr (.inr ⟨j,this,rfl⟩))
 item:=by
  intro X hP hw hK hc i ae s Z H E I hf st hg;subst hP hw hK;obtain⟨t1,t2,⟨ow,t3,vU⟩,t4⟩:=st;let(bG,pr,bj):=hg;let(rs,i8,jL,on):=cT.zq I pr;let kA:rs.length=ps.length:=by rw[<-i8];simp
  let F:=OH hn hz km kn cq i8;let oz:z<s.heap.objs.size:=b8 t1;let W2:TO<s.heap.objs.size:=b8 t3;let(row,vs,g8,qm,KQ,Xn):=Sl jL bj;refine zW7 (bs:=cS n0 rs) (i:=i) (vs:=vs) (ow:=ow) F t1 (by rw[A0,kA];exact t2) t3 (by rw[vU,wH,kA]) (Sh i8 t4 on) (by rw[KQ,wH]) (by
   intro k b hb;rw[lW]at hb;let(r,hr,rfl):=d9.mp hb;exact Xn k r hr) λh2 z2 to2 DU Ec Zu sJ=>⟨_,rfl,?_⟩
  refine wpAny_letOwnedTupleGo_zip z2 λh3 z3 s3=>?_;let J_:s.heap.objs.size≠z:=j8 oz;let C6:=I.fresh;let XT:row.length<=a9:=by
   let e:=qm.length;let:a9=16777216:=by decide
   lia
  let I1:Inv X ae Z (upd H s.heap.objs.size (.af row)) { s with heap:=s.heap.push { cls:=.type "tuple", data:=.seq vs.toArray } } :=
   I.laid (t':=s.toks) (λb o e=>cv _ e) (bF _) (show dz X.prog X.w _ _ _ (.af row)from⟨XT,vs,qm,lX.new _ _⟩)
  let u0:∀b∈eP n0 z TI TO ps.length,b≠s.heap.objs.size:=λb hb e=>by
   subst e;rcases Sd hb with rfl |rfl |rfl |⟨k,hk,e⟩
   .exact J_ rfl
   .exact absurd (b8 t2) ()
   .exact absurd W2 ()
   .let(o,e1,_):=(t4 k _ (bY hk)).obj;let:=b8 e1;lia
  let C3:∀b∈eP n0 z TI TO ps.length,hG X ae (upd H s.heap.objs.size (.af row)) b:=λb hb=>⟨by rw[cL (u0 b hb)];exact(hf b hb).1,(hf b hb).2⟩;let I2:Inv X ae Z (upd H s.heap.objs.size (.af row)) { s with heap:=h3 }:=by
   refine Inv.zI (s:={ s with heap:=s.heap.push { cls:=.type "tuple", data:=.seq vs.toArray } }) (t':=s.toks) (ch:=eP n0 z TI TO ps.length) I1 (λb o hb e=>?_) C3
   let nb:b≠z/\b≠TO/\∀c∈cS n0 rs,b≠c.it:=by
    refine(λe=>hb (by simp[eP,e]),λe=>hb (by simp[eP,e]),λc hc e=>hb ?_);let(k,hk,ek):=gR hc;let hg:=bY hk;rw[ek,lW]at hg;let(r,hr,rfl):=d9.mp hg;let iL:=(dU.mp hr).1;simp only[eP,bN,bK,eF];exact .inr (.inr (.inr ⟨k,by lia,by rw[e];rfl⟩))
   by_cases u5:b=s.heap.objs.size
   .subst u5;let e:aa { cls:=uD "tuple", data:=Ia vs.toArray }=aa o:=by rw[<-e];exact(dY _ rfl).symm
    cases e;exact s3.extBut _ _ J_ Ec
   .let e':s.heap.get? b=aa o:=JV u5 e;exact s3.extBut _ _ nb.1 (sJ b o nb.1 nb.2.1 nb.2.2 e')
  refine(.ref s.heap.objs.size,_,I2,rfl,⟨_,row,C6,rfl,rfl,λEi pw=>?_⟩,⟨z3,?_,⟨vs,s3.extBut _ _ F.zT to2,by rw[KQ,kA]⟩,?_⟩,λb hb=>by rw[cL (u0 b hb)];exact(hf b hb).1)
  .rw[g8,cT.Ll I pw pr]
  .let:=sJ TI _ F.Tz.1 F.Tz.2 (λb hb=>(F.iz b hb).2.2.symm) t2;exact s3.extBut _ _ F.Tz.1 this
  .intro k p hk;let hr:∃r,rs[k]?=aa r/\(r.l,r.tp)=p:=by
    rw[<-i8,eC]at hk;let(r,e1,e2):=d9.mp hk;exact(r,e1,e2)
   let(r,hr,rfl):=hr;let hb:(cS n0 rs)[k]?=aa (r.sb (n0+k)):=by rw[lW,hr];rfl
   let hm:=eE hb;exact((Fw.mp (DU _ hm)).1).keep λo e=>s3.extBut _ _ (F.iz _ hm).1 e
 done:=by
  intro X hP hw hK hc i ae s Z H E I hf st hg;subst hP hw hK;obtain⟨t1,t2,⟨ow,t3,vU⟩,t4⟩:=st;let(bG,pr,vf):=hg;let(rs,i8,jL,on):=cT.zq I pr;let kA:rs.length=ps.length:=by rw[<-i8];simp
  let F:=OH hn hz km kn cq i8;refine yc0 (bs:=cS n0 rs) (i:=i) (ow:=ow) (I.ok.hd hc) F t1 (by rw[A0,kA];exact t2) t3 (by rw[vU,wH,kA]) (Sh i8 t4 on) (aa0 jL vf) λh2 sJ=>⟨rfl,?_⟩;refine Inv.zI (t':=s.toks) (ch:=eP n0 z TI TO ps.length) I (λb o hb e=>?_) hf;refine sJ b o (λe=>hb (by simp[eP,e])) (λe=>hb (by simp[eP,e])) (λc hc e=>hb ?_) e;let(k,hk,ek):=gR hc;let hg:=bY hk;rw[ek,lW]at hg;let(r,hr,rfl):=d9.mp hg;let iL:=(dU.mp hr).1;simp only[eP,bN,bK,eF];exact .inr (.inr (.inr ⟨k,by lia,by rw[e];rfl⟩))
 self:=λ_ _ _ _ _ st h=>VR st.1 h
def Yg(K:aQ)(ta:TA):TI:=λZ H R=>ta Z H λvs H1=>∃ps:List (Nat×Bool),vs=ps.map (λp=>V.ref p.1)/\(ps.length=2\/ps.length=3)/\∃bG,cn (cT K H1) ps bG/\((∀vs∈bG,vs.length<=a9)->R (Cc K ps) H1)
section
variable{X:Cx}{C:a8}{e:Expr}{es elts:List Expr}{x1:Nat}{mW pos p:aU}{ta:TA}{bx:List E}
def R6:∀{ps:List (Nat×Bool)}{us:List ak},ba (ps.map λp=>V.ref p.1) us->us=ps.map λp=>b9 p.1
 |[],_,.nil=>rfl
 |p::ps,_,.cons r t=>by rw[R6 t,show _=b9 p.1 from r];rfl
def cT.Ms(I:Inv X ae Z H s):∀{ps:List (Nat×Bool)}{bG:List (List V)},cn (cT X.K H) ps bG->∀vs∈bG,vs.length<=a9
 |_,_,.nil=>λvs h=>by cases h
 | _,_,.cons a t=>λvs h=>by
  rcases bN.mp h with rfl |h
  .let(_,_,_,z):=cT.cb I a;exact z
  .exact cT.Ms I t vs h
def xu2(hg:Gl X "zip")(hm:X.mg "zip" = aj)(hv:gD "zip" = aa (.type "zip"))(ha:PA X (e::es) ta)
  (he:bA (e::es) X.env=(false,eval e X.env)::bA es X.env) (dH:(dW pos (bA es X.env)).any (·.1)=false):PI X (.Tuple elts x1 mW) (.Call (.Name "zip" p) (e::es) [] pos) (Yg X.K ta):=by
 intro ae s Z H R I h;refine p6 (oR I hg hm hv ?_);refine xW (bf (ha pos ae s Z H _ I h) λus s1 ⟨vs,H1,I1,r1,q1⟩=>?_) he dH;let(ps,rfl,hn,bG,pr,hR):=q1;let hR:=hR (cT.Ms I1 pr);let om:=R6 r1;subst om;let(rs,i8,jL,on):=cT.zq I1 pr;let kA:rs.length=ps.length:=by rw[<-i8];simp
 let Wt:(ps.map λp=>b9 p.1)=rs.map λr=>b9 r.l:=by rw[<-i8,j7];rfl
 rw[Wt];refine yo8 rs () on ?_;intro h2 z TI TO e1 e2 e3 g1 g2 g3 g4 g5 g6;refine VR g1 ?_;let cq:∀p∈ps,p.1<s1.heap.objs.size:=λp hp=>by
  rw[<-i8]at hp;let(r,hr,rfl):=bK.mp hp;exact Sr.lt (on r hr)
 let oa:∀b∈eP s1.heap.objs.size z TI TO ps.length,s1.heap.objs.size<=b:=λb hb=>by
  rcases Sd hb with rfl |rfl |rfl |⟨k,hk,rfl⟩<;>lia
 refine(z,eP s1.heap.objs.size z TI TO ps.length,Jf s1.heap.objs.size z TI TO ps,Cc X.K ps,H1,rfl,I1.kept (t':=s1.toks) g6,yL3 _ _ _ _ _ () () () () cq,⟨g1,?_,⟨_,g3,?_⟩,λk p hk=>?_⟩,λb hb=>I1.sk (oa b hb) (I1.aF.fresh (oa b hb)),hR)
 .rw[A0,kA]at g2;exact g2
 .rw[cy,A0,cy,Hz,kA]
 .rw[<-i8,eC]at hk;let(r,c1,rfl):=d9.mp hk;let hb:(cS s1.heap.objs.size rs)[k]?=aa (r.sb (s1.heap.objs.size+k)):=by rw[lW,c1];rfl
  exact(Fw.mp (g4 _ (eE hb))).1
def MY{K:aQ}{O:Al}{st:ay}{H:Hp}:∀{xs:List PV}{ls:List (List PV)}{ws:List V},xs.mapM j4=aa ls->cn (RV K O st H) (xs.map .p) ws ->
  ∃(ps:List (Nat×Bool)) (bG:List (List V)),ws=ps.map (λp=>V.ref p.1)/\ps.length=xs.length/\cn (cT K H) ps bG/\cn (λ(l:List PV) vs=>aC K H (aP O st) l vs) ls bG /\
   ∀O' ao H',Lk K O st H O' ao H'->bu K O' ao H'->cn (cT K H') ps bG/\cn (λ(l:List PV) vs=>aC K H' (aP O' ao) l vs) ls bG
 | [],ls,ws,h,pr=>by
  cases pr;cases h;exact([],[],rfl,rfl,.nil,.nil,λ_ _ _ _ _=>⟨.nil,.nil⟩)
 | x::xr,ls,ws,h,pr=>by
  rw[bJ]at pr;cases pr with
  |cons hv t=>
   rw[By]at h;cases e1:j4 x with
   |none=>rw[e1]at h;cases h
   |some l=>
    rw[e1]at h;cases e2:xr.mapM j4 with
    |none=>rw[e2]at h;cases h
    |some lr=>
     rw[e2]at h;cases h;let(ps,bG,rfl,hl,c1,c2,c3):=MY e2 t;cases x with
     |af l'=>
      cases e1;let hv:RP K H (aP O st) (.af l) _:=hv;rw[RP]at hv;let(a,vs,rfl,h1,h2):=hv;refine((a,true)::ps,vs::bG,rfl,by simp[hl],.cons (by unfold cT;rw[if_pos rfl];exact h1) c1,.cons h2 c2,λO' ao H' lk r'=>?_);let(d1,d2):=c3 O' ao H' lk r';exact(.cons (by unfold cT;rw[if_pos rfl];exact lk.af a vs h1) d1,.cons (lk.cE h2) d2)
     |ai l'=>
      cases e1;let hv:RP K H (aP O st) (.ai l) _:=hv;rw[RP]at hv;let(a,vs,rfl,h1,h0,h2):=hv;refine((a,false)::ps,vs::bG,rfl,by simp[hl],.cons (by unfold cT;rw[if_neg (by simp)];exact h1) c1,.cons h2 c2,λO' ao H' lk r'=>?_);let(d1,d2):=c3 O' ao H' lk r';exact(.cons (by unfold cT;rw[if_neg (by simp)];exact(lk.ai a vs h1 h0).1) d1,.cons (lk.cE h2) d2)
     |_=>cases e1
def MW{K:aQ}{H:Hp}{lv:aq->Prop}{i:Nat}:∀{ls:List (List PV)}{bG:List (List V)},cn (λ(l:List PV) vs=>aC K H lv l vs) ls bG->(∀l∈ls,i<l.length) ->
  aC K H lv (ls.map λl=>l.getD i .aL) (bG.map λvs=>vs.getD i .aL)
 |_,_,.nil,_=>by simp[aC]
 | l::ls,vs::bG,.cons h t,hl=>by
  let hi:=hl l (by simp);let(v,hv,rp):=h.get (bY hi);rw[bJ,bJ,aC];refine(_,_,rfl,?_,MW t λl' h'=>hl l' (b5 _ h'));rw[gQ,gQ,hv,bY hi];exact rp
def Ax{K:aQ}{H:Hp}{lv:aq->Prop}:∀{ls:List (List PV)}{bG:List (List V)},cn (λ(l:List PV) vs=>aC K H lv l vs) ls bG->bG.map b7=ls.map b7
 |_,_,.nil=>rfl
 |_,_,.cons h t=>by rw[bJ,bJ,Ax t,aC.length h]
def A5{ls:List (List PV)}(hn:ls.length=2\/ls.length=3)(i:Nat):i<(iU ls).length↔∀l∈ls,i<l.length:=by
 match ls,hn with
 |[a,b],_=>simp[iU,Nat.lt_min]
 |[a,b,c],_=>simp[iU,Nat.lt_min]
 |[],h=>simp at h
 |[_],h=>simp at h
 |_::_::_::_::_,h=>simp at h
def xf8{ls:List (List PV)}(hn:ls.length=2\/ls.length=3){x:PV}(h:(iU ls)[i]?=aa x):x=.af (ls.map λl=>l.getD i .aL):=by
 let hi:=(A5 hn i).mp (dU.mp h).1
 match ls,hn with
 |[a,b],_=>
  let ha:=hi a (by simp);let hb:=hi b (by simp);simp only[iU,eC,d9]at h;obtain⟨⟨u,v⟩,h1,rfl⟩:=h;let(h2,h3):=Bv.mp h1;simp[h2,h3]
 |[a,b,c],_=>
  let ha:=hi a (by simp);let hb:=hi b (by simp);let hc:=hi c (by simp);simp only[iU,eC,d9]at h;obtain⟨⟨u,v,y⟩,h1,rfl⟩:=h;let(h2,h3):=Bv.mp h1;let(h4,h5):=Bv.mp h3;simp[h2,h4,h5]
 |[],h=>simp at h
 |[_],h=>simp at h
 |_::_::_::_::_,h=>simp at h
def xy3(hn:bx.length=2\/bx.length=3)(hg:Gl X "zip")(hm:X.mg "zip" = aj)(hv:gD "zip" = aa (.type "zip"))(ha:SA X C (e::es) bx)
  (he:bA (e::es) X.env=(false,eval e X.env)::bA es X.env) (dH:(dW pos (bA es X.env)).any (·.1)=false):SI X C (.Tuple elts x1 mW) (.Call (.Name "zip" p) (e::es) [] pos) (.zip bx) :=
 PI.mono (xu2 hg hm hv ha he dH) λZ H R h_=>by
  let(env,O,st,bh,cb,ao,aD,ev,q):=h_;rw[yD2]at ev;let(xs,aA,e1,ev):=ax.bE ev;let KZ:=xm e1;refine(env,O,st,xs.map .p,aA,aD,wF e1,λws H1 α1 x1 r1 pr=>?_);let ev:(match xs.mapM j4 with |some ls=>ax.ok (iU ls,aj) aA |none=>.stuck)=ax.ok (bh,cb) ao:=ev
  cases hz:xs.mapM j4 with
  |none=>rw[hz]at ev;cases ev
  |some ls=>
   rw[hz]at ev;cases ev;let(ps,bG,rfl,ac9,c1,c2,c3):=MY hz pr;let XB:ls.length=xs.length:=by
    let:=Ax c2;let l1:=congrArg b7 this;simp at l1;let:∀{ps:List (Nat×Bool)}{bG:List (List V)},cn (cT X.K H1) ps bG->ps.length=bG.length:=by
     intro ps bG h;induction h with
     |nil=>rfl
     |cons _ _ ih=>simp[ih]
    let l2:=this c1;lia
   let vp:ls.length=2\/ls.length=3:=by lia
   refine(ps,rfl,by lia,bG,c1,λDs=>q _ _ _ x1 r1 (λα2 aI H2 x2 r2 _=>?_) ?_)
   .let(d1,d2):=c3 α2 aI H2 x2 r2;let dl:=Ax d2;let Lz:∀i,(∀l∈ls,i<l.length)↔∀vs∈bG,i<vs.length:=λi=>by
     let k1:(∀l∈ls,i<l.length)↔∀n∈ls.map b7,i<n:=by simp
     let k2:(∀vs∈bG,i<vs.length)↔∀n∈bG.map b7,i<n:=by simp
     rw[k1,k2,dl]
    refine(λi hi=>⟨bG,d1,(Lz i).mp ((A5 vp i).mp hi)⟩,λi x w H' hx ⟨T,row,hT,hw,hH,g8⟩=>?_,λi hi=>?_)
    .subst hw hH;let s1:bt H2 (upd H2 T (.af row)):=fB hT _;refine(s1,?_);rw[xf8 vp hx,RP,g8 bG d1];refine(T,_,rfl,bR.of dZ,?_);let hi:=(A5 vp i).mp (dU.mp hx).1;rw[g8 bG d1]at s1;exact(bD.of_same r2 s1).cE (MW d2 hi)
    .let:¬ ∀vs∈bG,i<vs.length:=λh=>by
      let:=(A5 vp i).mpr ((Lz i).mpr h);lia
     simp only[SJ]at this;let(vs,hm,cq):=this;exact(bG,d1,vs,hm,by lia)
   .let hsz:∀l∈ls,l.length<=a9:=by
     let k1:(∀l∈ls,l.length<=a9)↔∀n∈ls.map b7,n<=a9:=by simp
     let k2:(∀vs∈bG,vs.length<=a9)↔∀n∈bG.map b7,n<=a9:=by simp
     rw[k1,<-Ax c2,<-k2];exact Ds
    match ls,vp,hsz with
    |[a,b],_,hsz=>let:=hsz a (by simp);simp[iU];lia
    |[a,b,c],_,hsz=>let:=hsz a (by simp);simp[iU];lia
    |[],h,_=>simp at h
    |[_],h,_=>simp at h
    |_::_::_::_::_,h,_=>simp at h
end
section
variable{X:Cx}{C:a8}{pos:aU}
def Z6(K:aQ):TE:=λ_ H Q=>∀p,H p=aj->K.lookup p=aj->Q (.ref p) (upd H p (.dK []))
def yI1:PE X (.Dict [] [] pos) (Z6 X.K):=λae s Z H Q I h =>
 wpAny_Dict_empty ⟨.ref s.heap.objs.size,_,I.laid (a:=s.heap.objs.size) (o:=.dK []) (t':=s.toks) (λ_ _ q=>cv _ q) (bF _) (OY s.heap I.Jq),rfl,h _ (I.aF.fresh (bF _)) (A_ I)⟩
def yJ9:SE X C (.Dict [] [] pos) (.dict [] []) :=
 PE.mono yI1 λZ H Q h_=>by
  let(env,O,st,v,ao,aD,e,q):=h_;rw[P_]at e;let(xs,aA,e1,e):=ax.bE e;rw[xn]at e1;cases e1;intro p hp hK;let yw:=AQ (o:=.bB []) (h':=.dK []) aD.rs hp hK;let D2:=Gz (o:=.bB []) (h':=.dK []) aD.rs hp hK (λxs z=>by cases z) (λav z=>by cases z;exact([],rfl,by rw[bS])) (λav z=>by cases z);let ha:=wO (p:=p) aD.rs;let dO:aW (st++[b6.bB []]) st.length=aa (.bB []):=by simp[aW]
  let e:(match aW (st++[b6.bB []]) st.length with |some (.bB [])=>ax.ok (aJ.ref st.length) ((st++[b6.bB []]).set st.length (.bB ((([]:List PV).zip []).foldl (λ(d:List (PV×PV)) (p:PV×PV)=>dC p.1 p.2 d) [])))|_=>.stuck)=.ok v ao:=e
  rw[dO]at e;let hs:(st++[b6.bB []]).set st.length (.bB [])=st++[b6.bB []]:=by simp
  let e:ax.ok (aJ.ref st.length) ((st++[b6.bB []]).set st.length (.bB []))=.ok v ao:=e;rw[hs]at e;cases e;exact q _ _ _ yw D2 ⟨p,rfl,ha⟩
end
def tX{O:Type}{l:List (Str×O)}{y:Str}{v c:O}(h:((y,v)::l).lookup x=aa c):(x=y/\c=v)\/(x≠y/\l.lookup x=aa c):=by
 rw[j6]at h;cases e:x==y with
 |true=>rw[e]at h;cases h;exact .inl ⟨beq_iff_eq.mp e,rfl⟩
 |false=>rw[e]at h;exact .inr ⟨by simpa using e,h⟩
def FQ(b0:Nat):∀(names:List (Str×k6)) (h:aT) (acc:List (Str×aq)),b0<=h.objs.size->(∀x c,acc.lookup x=aa c->c<h.objs.size) ->
  (∀x y c,acc.lookup x=aa c->acc.lookup y=aa c->b0<=c->x=y)->(∀x c,acc.lookup x=aa c->b0<=c->h.IsCell c aj) ->
  (∀x y c,(jz h.objs.size names acc).lookup x=aa c->(jz h.objs.size names acc).lookup y=aa c->b0<=c->x=y)/\(∀x c,(jz h.objs.size names acc).lookup x=aa c->b0<=c->(B0 h names).IsCell c aj) /\
  (∀x c,(jz h.objs.size names acc).lookup x=aa c->b0<=c\/acc.lookup x=aa c)/\(∀x,(x,jx)∉names->(jz h.objs.size names acc).lookup x=acc.lookup x) /\
  (∀x,((x,jx)∈names\/∃c,acc.lookup x=aa c)->∃c,(jz h.objs.size names acc).lookup x=aa c)/\∀x c,(x,jx)∈names->(jz h.objs.size names acc).lookup x=aa c->b0<=c
 | [],h,acc,_,_,a2,a3=>⟨a2,a3,λ_ _ e=>.inr e,λ_ _=>rfl,λx e=>by
  rcases e with e |e
  .cases e
  .exact e,λ_ _ e=>by cases e⟩
 | (name,kind)::r,h,acc,hb,a1,a2,a3=>by
  unfold jz B0;by_cases hk:(kind==jx)=true
  .rw[if_pos hk,if_pos hk];let f7:kind=.cell:=by simpa using hk
   let hsz:(h.push { cls:=.type "cell", data:=.cell aj }).objs.size=h.objs.size+1:=ka _ _
   let ih:=FQ b0 r (h.push { cls:=.type "cell", data:=.cell aj }) ((name,h.objs.size)::acc) (by rw[hsz];exact Nat.le_succ_of_le hb)
    (λx c e=>by
     rw[hsz];rcases tX e with⟨_,rfl⟩|⟨_,e⟩
     .exact BC _
     .exact pK (a1 x c e))
    (λx y c e1 e2 qg=>by
     rcases tX e1 with⟨z1,w1⟩|⟨_,e1⟩<;>rcases tX e2 with⟨z2,w2⟩|⟨_,e2⟩
     .rw[z1,z2]
     .exact absurd (w1▸a1 y c e2) (kW _)
     .exact absurd (w2▸a1 x c e1) (kW _)
     .exact a2 x y c e1 e2 qg)
    (λx c e qg=>by
     rcases tX e with⟨_,rfl⟩|⟨_,e⟩
     .exact(_,dY _ rfl,rfl)
     .exact(a3 x c e qg).keeps λb o e=>cv _ e)
   rw[hsz]at ih;let(i1,i2,i3,i4,i5,i6):=ih;refine(i1,i2,λx c e=>?_,λx hx=>?_,λx hx=>i5 x ?_,λx c hx e=>?_)
   .rcases i3 x c e with z |z
    .exact .inl z
    .rcases tX z with⟨_,rfl⟩|⟨_,z⟩
     .exact .inl hb
     .exact .inr z
   .rw[i4 x (λz=>hx (b5 _ z)),j6];split
    .rename_i yW
     exact absurd (by rw[f7,beq_iff_eq.mp yW];exact gy) hx
    .rfl
   .rcases hx with hx |⟨c,hx⟩
    .rcases bN.mp hx with e |e
     .cases e;exact .inr ⟨h.objs.size,by rw[j6];simp⟩
     .exact .inl e
    .refine .inr ?_;rw[j6];split
     .exact(_,rfl)
     .exact(c,hx)
   .by_cases hr:(x,jx)∈r
    .exact i6 x c hr e
    .rcases bN.mp hx with z |z
     .cases z;rw[i4 _ hr]at e;rcases tX e with⟨_,rfl⟩|⟨z,_⟩
      .exact hb
      .exact absurd rfl z
     .exact absurd z hr
  .rw[if_neg hk,if_neg hk];let(i1,i2,i3,i4,i5,i6):=FQ b0 r h acc hb a1 a2 a3;let inr:∀x,(x,jx)∈(name,kind)::r->(x,jx)∈r:=λx hx=>by
    rcases bN.mp hx with e |e
    .cases e;exact absurd rfl hk
    .exact e
   exact(i1,i2,i3,λx hx=>i4 x λz=>hx (b5 _ z),λx hx=>i5 x (hx.imp (inr x) id),λx c hx e=>i6 x c (inr x hx) e)
abbrev jl(X:Cx)(scope:cB)(N:List Str)(cl:List (Str×aq))(s₀:au)(H₀:Hp)(ex:List aq)(pn:List (aq×aV)):Cx where
 prog:=X.prog
 w:=X.w
 K:=X.K
 mg:=X.mg
 base:=X.base
 A:=X.A
 N:=N
 s₀:=s₀
 H₀:=H₀
 env:=pY scope cl s₀.heap.objs.size X.env
 outer:=X.stack
 stack:=X.stack
 ex:=ex
 fn:=λx=>scope.names.any λy=>y.1==x&&y.2 == .cell
 calm:=X.calm
 pn:=pn
 xe:=λ_ _=>False
section
variable{X:Cx}{ae:List (aq×aV)}{Z:L2.St}{H:Hp}{s:au}{scope:cB}{N:List Str}{cl:List (Str×aq)}{fp:List aq}{bc:List Nat}
def yp2{h1:aT}{Z':L2.St}(I:Inv X ae Z H s)(hk:scope.kind=.function)(kr:∀x c,cl.lookup x=aa c->X.env.cells.lookup x=aa c\/(s.heap.objs.size<c/\h1.IsCell c aj))(vj:∀x y c,cl.lookup x=aa c->cl.lookup y=aa c->x=y)(Dg:∀x c,(x,jx)∈scope.names->cl.lookup x=aa c->s.heap.objs.size<=c)(yD:∀x,(pY scope cl s.heap.objs.size X.env).kindOf x=aa .cell\/(pY scope cl s.heap.objs.size X.env).kindOf x=aa .free->∃c,cl.lookup x=aa c)
  (oa:∀b∈fp,hG X ae H b) (Kn:∀b∈fp,b<s.heap.objs.size) (hn:h1.Ns s.heap.objs.size λ_=>aj) (og:∀b o,s.heap.get? b=aa o->h1.get? b=aa o) (hl:Z'.length=N.length)
  (hσ:∀(j:Nat) x v,N[j]?=aa x->Z'[j]?=aa (aa v)->∃(i:Nat),X.N[i]?=aa x/\Z[i]?=aa (aa v)/\(X.env.kindOf x=aa .cell\/X.env.kindOf x=aa .free)/\((pY scope cl s.heap.objs.size X.env).kindOf x=aa .cell\/(pY scope cl s.heap.objs.size X.env).kindOf x=aa .free)/\n5 X.env.scope x/\∀c,cl.lookup x=aa c->X.env.cells.lookup x=aa c) :
  Inv (jl X scope N cl s H fp (X.pn++ae)) [] Z' H { s with heap:=h1 }:=by
 let zd:∀{b:aq},b≠X.env.locals->b∉X.fs->b∉jF X.stack:=λh1 h2 z=>by
  rcases bN.mp (I.zu _ z)with e |e
  .exact h1 e
  .exact h2 e
 refine(⟨I.ok.mod,hk,I.ok.glob,I.ok.blt,bF _,vj,yD,λx c e hc=>?_,I.ok.hd,I.ok.frames,.inl rfl,λb hb=>?_,I.bs,df I.ok.n6 I.sz,λb o e hb=>?_,λb hb=>?_,I.stack,I.Mx⟩,
  rfl,I.bare,Un.kept og,⟨_,hn,λj x v e1 e2 e3=>?_⟩,λx c e=>?_,I.aF.fresh (bF _),λx c e=>?_,λp hp=>?_,I.aF.kept og,hl)
 .let(y,hy,hz):=Ho.mp (show(scope.names.any λy=>y.1==x&&y.2 == .cell)=true from e);rw[bP,beq_iff_eq,beq_iff_eq]at hz;let(y1,y2):=y;let(rfl,rfl):=hz;exact Dg _ c hy hc
 .refine(eG (Kn b hb),λx c e=>?_);rcases kr x c e with z |z
  .exact(oa b hb).2.2.2.2.1 x c z
  .exact j8 (ux (Kn b hb) z.1)
 .let hb:b∈fp:=hb;let(_,_,_,f3,_):=oa b hb;rcases f3 with z |z
  .exact I.ok.vN b o e z
  .exact absurd (gz (b8 e) (df I.ok.n6 z)) (kW _)
 .let hb:b∈fp:=hb;let(_,f1,f2,_):=oa b hb;exact zd f1 f2
 .let(i,a1,a2,a3,a4,a5,a6):=hσ j x v e1 e2;let(m,hm,yH):=I.loc;let(u,r,l):=yH i x v a1 a2 a5;refine(u,r,.inr ⟨a4,?_⟩);rcases l with⟨k,_⟩|⟨_,c,e,z⟩
  .rcases a3 with a3 |a3<;>rw[k]at a3<;>cases a3
  .let(c',qi):=yD x a4;let:=a6 c' qi;rw[e]at this;cases this;let(o,ho,hd):=z;exact(c,qi,o,og c o ho,hd)
 .rcases kr x c e with z |z
  .let(v,o,ho,hd):=I.cell x c z;exact(v,o,og c o ho,hd)
  .exact(aj,z.2)
 .rcases kr x c e with z |z
  .exact I.lp x c z
  .exact I.aF.fresh (uw z.1)
 .let hp:p∈(X.pn++ae)++[]:=hp;rw[lZ]at hp;let(e,n,ne,nf,d):=I.pin p hp;exact(og _ _ e,n,eG (b8 e),zd ne nf,d)
end
def Q0{Z':L2.St}{H3:Hp}{s3 s1:au}{cl:List (Str×aq)}{fp:List aq}(I3:Inv X ae Z H3 s3)
  (I':Inv (jl X scope N cl s3 H3 fp (X.pn++ae)) [] Z' H' s1) (lC:gS s3.heap.objs.size s1.heap h') (oa:∀b∈fp,hG X ae H3 b):Inv X ae Z H' { s1 with heap:=h' }:=by
 let old:∀b o,s3.heap.get? b=aa o->∀o',s1.heap.get? b=aa o'->h'.get? b=aa o':=λb o e o' e'=>(lC.2 b (eG (b8 e))).trans e';let B:=I'.base;let free:H' s3.heap.objs.size=aj:=I'.free;refine I3.Ju (s':={ s1 with heap:=h' }) (ch:=fp) I'.os ⟨λb o e n hb hx=>?_,λb o e n hb hx=>?_,λb o e n hx=>B.free b o e n hx,λb o e hx=>?_,B.mY,B.lq,B.mV⟩ (λb u e=>?_) I'.bare (λb hb=>?_)
 .exact old b o e _ (B.keep b o e n hb hx)
 .let(sl,e1):=B.slot b o e n hb hx;exact(sl,old b o e _ e1)
 .let(o',e1):=B.there b o e hx;exact(o',old b o e _ e1)
 .refine(I'.aF b u e).mU (λc v hc q=>(lC.2 c ?_).trans q) (λ_ q=>q) λ_ _ q=>q;rintro rfl;rcases hc with z |z
  .rw[<-z,free]at e;cases e
  .rw[free]at z;cases z
 .let(f0,f1,f2,f3,f4,f5):=oa b hb;exact(f3,f1,f4,f5)
structure PN(X:Cx)(scope:cB)(N:List Str)(bc:List Nat)(n:Nat):Prop where
 kind:scope.kind=.function
 names:∀x∈scope.names,x.2=.local->scope.names.lookup x.1=aa .local
 fc:∀x,(x,Im)∈scope.names->(x,jx)∉scope.names
 free:∀x∈scope.names,x.2=.free->X.env.kindOf x.1=aa .cell\/X.env.kindOf x.1=aa .free
 look:∀x,scope.names.lookup x=aa .free->∃k,(B1 scope X.env).names.lookup x=aa k/\(k=.cell\/k=.free)
 back:∀x,(B1 scope X.env).names.lookup x=aa .cell\/(B1 scope X.env).names.lookup x=aa .free->(x,Im)∈scope.names\/(x,jx)∈scope.names
 Wg:∀(j i:Nat),bc[j]?=aa i->∃x,N[j]?=aa x/\X.N[i]?=aa x/\scope.names.lookup x=aa .free
 len:N.length=bc.length+n
def yY9{M:Model}{A:bb}{E:ak->au->Prop}{g:aq}{cl:List (Str×aq)}{q:Str}{env:j9}{Q:j9->au->Prop}
  (h:Q { scope,locals:=s.heap.objs.size,globals:=g,cells:=jz (s.heap.objs.size+1) scope.names cl,qual:=q,func:=aj,code:=env.code,frame:=env.frame,builtins:=env.builtins } { s with heap:=B0 (s.heap.push { cls:=.type "dict", data:=.dict #[] }) scope.names }) :
  aG M A (newFunctionEnv scope g cl [] q aj .none (aa env)) Q E s:=by
 simp only[newFunctionEnv,T4,if_true];refine aE (wpAny_alloc ?_);refine aE (wpAny_layCells _ (λname kind cells=>by cases Xu:kind==jx<;>simp[Xu]) _ _ _ _ ?_);rw[show({ s with heap:=s.heap.push { cls:=.type "dict", data:=.dict #[] } }:au).heap.objs.size=s.heap.objs.size+1 from ka ..]
 exact aE (aX (aX h))
section
variable{X:Cx}{bU iter tg:Expr}{ifs:List Expr}{scope:cB}{pos:aU}{N:List Str}{bc:List Nat}{n:Nat}{wi:TI}{g:TG}{tc:TT}{te:TE}
end
section
variable{X:Cx}{C:a8}{bU iter tg:Expr}{ifs:List Expr}{dj:E}{it:It}{t:Tg}{scope:cB}{pos:aU}{N:List Str}{bc:List Nat}{n:Nat}
end
def F_(XN:List Str)(up scope:cB)(N:List Str)(bc:List Nat)(n:Nat):Bool :=
 decide (scope.kind=.function)&&scope.names.all (λx=>decide (x.2≠.local) ||decide (scope.names.lookup x.1=aa .local))&&scope.names.all (λx=>decide (x.2≠.free) ||decide ((x.1,jx)∉scope.names))
 && scope.names.all (λx=>decide (x.2≠.free) ||decide (up.names.lookup x.1=aa .cell) ||decide (up.names.lookup x.1=aa .free))
 && scope.names.all (λx=>decide (x.2≠.free) ||decide ((xu scope up).lookup x.1=aa .cell) ||decide ((xu scope up).lookup x.1=aa .free))
 && (xu scope up).all (λx=>(decide (x.2≠.cell)&&decide (x.2≠.free)) ||(decide ((x.1,Im)∈scope.names) ||decide ((x.1,jx)∈scope.names)))
 && z8 XN scope bc N&&decide (N.length=bc.length+n)
def yj4{up:cB}{XN:List Str}{bc:List Nat}(hu:X.env.scope=up)(hN:X.N=XN)(h:F_ XN up scope N bc n=true):PN X scope N bc n:=by
 subst hu hN;unfold F_ at h;rw[bP,bP,bP,bP,bP,bP,bP]at h;obtain⟨⟨⟨⟨⟨⟨⟨h1,h2⟩,h3⟩,h4⟩,h5⟩,h6⟩,h7⟩,h8⟩:=h;rw[c_]at h2 h3 h4 h5 h6;let rl:(B1 scope X.env).names=xu scope X.env.scope:=rfl;refine(of_decide_eq_true h1,λx hx e=>?_,λx hx=>?_,λx hx e=>?_,λx e=>?_,λx e=>?_,N3 h7,of_decide_eq_true h8)
 .let:=h2 x hx;rw[iX]at this;rcases this with z |z
  .exact absurd e (of_decide_eq_true z)
  .exact of_decide_eq_true z
 .let:=h3 (x,.free) hx;rw[iX]at this;rcases this with z |z
  .exact absurd rfl (of_decide_eq_true z)
  .exact of_decide_eq_true z
 .let:=h4 x hx;rw[iX,iX]at this;rcases this with(z |z)|z
  .exact absurd e (of_decide_eq_true z)
  .exact .inl (of_decide_eq_true z)
  .exact .inr (of_decide_eq_true z)
 .let:=h5 (x,.free) (w6 e);rw[iX,iX]at this;rcases this with(z |z)|z
  .exact absurd rfl (of_decide_eq_true z)
  .exact(_,by rw[rl];exact of_decide_eq_true z,.inl rfl)
  .exact(_,by rw[rl];exact of_decide_eq_true z,.inr rfl)
 .rw[rl]at e;rcases e with e |e
  .let:=h6 (x,.cell) (w6 e);rw[iX,bP]at this;rcases this with z |z
   .exact absurd rfl (of_decide_eq_true z.1)
   .rw[iX]at z;exact z.imp of_decide_eq_true of_decide_eq_true
  .let:=h6 (x,.free) (w6 e);rw[iX,bP]at this;rcases this with z |z
   .exact absurd rfl (of_decide_eq_true z.2)
   .rw[iX]at z;exact z.imp of_decide_eq_true of_decide_eq_true
section
variable{prog:Program}{w:aY}{A:bb}{E:ak->au->Prop}
end
section
variable{X:Cx}{C:a8}{W:Nat}{pos:aU}
end
section
variable{X:Cx}{C:a8}{e:Expr}{ie:E}{pos p dn p':aU}
end
section
variable{X:Cx}{C:a8}{e:Expr}{es elts:List Expr}{x1:Nat}{mW pos p:aU}{ia ib:E}
end
section
variable{X:Cx}{PR:List FD}{W d k:Nat}{pos p:aU}
def yJ5(F:gc X.prog X.w X.K X.mg X.base gU d f fd [] (je X.K PR W d k 0))(hr:gf d X.A)(hg:Gl X x)(hm:X.mg x=aa (.ref f))(hk:pU X.K (.ref f)=true)(hb:Binds X.K fd [] [])
  (gY:(x==("__debug__" : Str))=false):SE X (a0 PR W d) (.Call (.Name x p) [] [] pos) (.call k []) :=
 PE.mono (yH7 F hr hg hm hk hb .nil NP gY) λZ H Q h_=>by
  let(env,O,st,v,ao,aD,e,q):=h_;rw[P8,rf,ax.lb]at e;exact(rfl,O,st,[],v,ao,aD.rs,.nil,e,λw H2 α2 x2 r2 rv=>q w H2 α2 x2 r2 rv)
end
section
variable{X:Cx}{C:a8}{e:Expr}{es elts:List Expr}{x1:Nat}{mW pos p:aU}{ta:TA}{ia:E}
def yD1{x:PV}(h:(q_ xs)[i]?=aa x):∃y,xs[i]?=aa y/\x=.af [.int i,y]:=by
 unfold q_ at h;rw[eC,S5]at h;cases e:xs[i]? with
 |none=>rw[e]at h;cases h
 |some y=>
  rw[e]at h;simp at h;exact(y,rfl,h.symm)
end
section
variable{X:Cx}{ae:List (aq×aV)}{Z:L2.St}{H:Hp}{s:au}{lv:aq->Prop}
end
def zD6:fillsNumberSlot (.type "tuple") "mul" = pure false :=
 PySem.fillsNumberSlot_seq (id := "tuple.__mul__") (r:=aa (.builtin "tuple.__rmul__")) Ij.lookup (by decide +kernel) U0.lookup (by decide +kernel)
def zW8:seqRepeat? (.type "tuple")=pure (aa (.builtin "tuple.__mul__")):=by
 unfold seqRepeat?;rw[VE (T := "tuple") (name := "__mul__") (id := "tuple.__mul__") Ij.lookup (by decide +kernel),VE (T := "tuple") (name := "__rmul__") (id := "tuple.__rmul__") U0.lookup (by decide +kernel)];rfl
def xR1(a:Int)(t:dt)(l:aq)(is:Array ak)(n:Nat)(dd:Option aq)(sl:Array (Option ak)):
  Meets (Builtin.«int.__rmul__» ⟨[.int a t,.ref l],[]⟩) (λ_ R s=>s.heap.get? l=aa { cls:=.type "tuple", dict:=dd,data:=.seq is n,slots:=sl } /\
   R (.ok (.ret Vn)) s) :=
 .of_wp λprog w A R s0 hh=>by
  let(hp,gg,dw,tk,oo):=s0;let(k1,k2):=hh
  wp_walk
  exact(_,rfl,k2)
def DP(l:aq)(is:Array ak)(n:Nat)(x:Int)(u:dt)(dd:Option aq)(sl:Array (Option ak))(h0:2<=x)(h1:x<=1000)(h2:1<=is.size)(h3:is.size<=1000):
  Meets (Builtin.«tuple.__mul__» ⟨[.ref l,.int x u],[]⟩) (λ_ R s=>s.heap.get? l=aa { cls:=.type "tuple", dict:=dd,data:=.seq is n,slots:=sl } /\
   R (.ok (.ret (b9 s.heap.objs.size))) { s with heap:=s.heap.push { cls:=.type "tuple", data:=.seq (xA (λx1 x2=>x1++x2) #[] (cG x.toNat is)) },toks:=s.toks }) :=
 .of_wp λprog w A R s0 hh=>by
  let(hp,gg,dw,tk,oo):=s0;let(k1,k2):=hh;let g1:=Uc;let hx:1*1<=(is.size:Int)*x:=SM () () () ();let hy:(is.size:Int)*x<=1000*1000:=SM () h1 () ();let hsz:a9=16777216:=by decide
  let hA:(decide (x < -2 ^ 63) ||decide (x ≥ 2 ^ 63))=false:=by simp;lia
  let he:is.isEmpty=false:=by
   cases c:is.isEmpty
   .rfl
   .rw[Array.isEmpty_iff_size_eq_zero]at c;lia
  let hB:(is.isEmpty ||x==1)=false:=by rw[he];simp;lia
  let hC:(decide (x<=0) ||is.isEmpty)=false:=by rw[he];simp;lia
  let hE:Ul (is.size*x)=false:=by
   unfold Ul;rw[hsz];simp;lia
  let hF:(xA (λx1 x2=>x1++x2) #[] (cG x.toNat is)).size<=a9:=by
   let key:∀(n:Nat)(a:Array ak),(xA (λx1 x2=>x1++x2) a (cG n is)).size=a.size+n*is.size:=by
    intro n;induction n with
    |zero=>intro a;simp
    |succ n ih=>
     intro a;rw[nM,xB,ih,Array.size_append,HS];lia
   rw[key,hsz];let e:((x.toNat*is.size:Nat):Int)=is.size*x:=by
    rw[Int.natCast_mul,Int.toNat_of_nonneg (),Int.mul_comm]
   let:(#[]:Array ak).size=0:=rfl;lia
  wp_walk using Hd k1
  rw[if_neg (by rw[hA];exact nL)];refine aE (wpAny_tupleItemsOf k1 rfl ?_);dsimp only;rw[if_neg (by rw[hB];exact nL)];rw[if_neg (by rw[hC];exact nL)];rw[if_neg ()];rw[if_neg (by rw[hE];exact nL)];exact aE (m:=xZ _) (p7 (aX ⟨_,rfl,k2⟩) hF)
section
variable{prog:Program}{w:aY}{A:bb}{E:ak->au->Prop}{s:au}
end
section
variable{X:Cx}
end
section
variable{X:Cx}{C:a8}{o e f:Expr}{io ie iff:E}{fw di:aU}
end
section
variable{X:Cx}{C:a8}{e e2:Expr}{pos dn p p':aU}{ta:TA}{ia ib:E}
end
section
variable{K:aQ}{H:Hp}{lv:aq->Prop}{k x:PV}{k':List Key}
end
section
variable{X:Cx}{C:a8}{W:Nat}{a b:Expr}{ia ib:E}{pos:aU}
def EE(K:aQ)(fs:List (List Nat)):Bool:=K.all λp=>match p.2.data with
 | .seq aw _=>(match aw.toList with
  |.str s _::_=>fs.contains s.cps.toList
  |_=>true)
 |_=>true
end
section
variable{X:Cx}{C:a8}{W:Nat}{o i value:Expr}{io ii iv:E}{pos dn:aU}{fs:List (List Nat)}
end
section
open PySem.AutoSeq1 (wpAny_loadPart')
open PySem.MeetsSeq PySem.MeetsSeq2 PySem.MeetsSeq3
end
section
variable{X:Cx}{C:a8}{o e:Expr}{io ie:E}{fw di:aU}{ae:List (aq×aV)}{s:au}{Z:L2.St}{H:Hp}
end
section
variable{prog:Program}{w:aY}{A:bb}{E:ak->au->Prop}{s:au}
end
section
variable{prog:Program}{w:aY}{A:bb}{E:ak->au->Prop}{s:au}
end
section
variable{prog:Program}{w:aY}{A:bb}{E:ak->au->Prop}{s:au}
end
section
variable{X:Cx}{C:a8}{e:Expr}{ie:E}{pos dn p p':aU}
def xO1:jr X (.type "str") (f1 JP):=by
 rintro ae s Z H ws us Q I rs ⟨O,st,xs,z,r,pr,hz,q⟩;cases pr with
 |nil=>cases hz
 |cons h1 t=>
  cases t with
  |cons _ _=>cases hz
  |nil=>
   rename_i x w
   cases rs with
   |cons ra rt=>
    cases rt;cases x with
    |int i=>
     let hz:(if i.natAbs.log2<1920 then aa (PV.str (fq i))else aj)=aa z:=hz
     split at hz
     .rename_i hl
      cases hz;let e1:=h1.int;subst e1;let(t,rfl):=ra;refine PySem.P.str_of_int hl ⟨.str _,H,I.tok _,⟨_,rfl⟩,q _ _ (bt.refl H) ?_⟩;rw[RP];let e:=Qj i;let z:(c7 (toString i)).length<=a9:=int_text_fits hl;rw[e]at z;let hs:a9=16777216:=by decide
      exact(congrArg V.str e,by simpa[bp,dJ,hs]using z)
     .cases hz
    |bl b=>
     let e1:=h1.bl;subst e1;obtain rfl:=(show _=gT b from ra);refine PySem.P.str_of_bool ⟨.str _,H,I.tok _,⟨_,rfl⟩,q _ _ (bt.refl H) ?_⟩;cases b
     .cases hz;rw[RP];exact(by decide +kernel,by decide +kernel)
     .cases hz;rw[RP];exact(by decide +kernel,by decide +kernel)
    |_=>cases hz
end
end OR
namespace HT
open PySem
def qr(m i:Nat):Nat:=(i*5+1)%m
abbrev zg(m:Nat):Nat->Nat->List Nat
 |0,_=>[]
 |n+1,i=>i::zg m n (qr m i)
def pos(m i:Nat):Nat:=(zg m m 0).idxOf i
abbrev mO(m:Nat):Nat->Nat->Nat
 |0,i=>i
 |a+1,i=>mO m a (qr m i)
def jE(m:Nat):Bool:=(cF m).all λi=>decide (pos m (qr m i)=(pos m i+1)%m)&&decide ((zg m m 0)[pos m i]?=aa i)&&decide (pos m i<m)
def Wm:jE 8=true:=by decide +kernel
def Wl:jE 32=true:=by decide +kernel
def Wk:jE 128=true:=by decide +kernel
def uY{m:Nat}(h:jE m=true){i:Nat}(hi:i<m):pos m (qr m i)=(pos m i+1)%m/\(zg m m 0)[pos m i]?=aa i/\pos m i<m:=by
 let:=c_.mp h i (eF.mpr hi);simp only[bP,decide_eq_true_eq]at this;exact(this.1.1,this.1.2,this.2)
def YJ{m:Nat}(h:0<m)(i:Nat):qr m i<m:=kY _ h
def L_{m:Nat}(h:jE m=true)(h0:0<m):∀(a i:Nat),i<m->mO m a i<m/\pos m (mO m a i)=(pos m i+a)%m
 |0,i,hi=>⟨hi,by rw[mO,TJ,TR (uY h hi).2.2]⟩
 | a+1,i,hi=>by
  let(u1,u2):=L_ h h0 a (qr m i) (YJ h0 i);refine(u1,?_);rw[mO,u2,(uY h hi).1,Nat.mod_add_mod,HJ,TH 1 a]
def Wn{m:Nat}(h:jE m=true){i e:Nat}(hi:i<m)(he:e<m):∃a,a<m/\mO m a i=e:=by
 let(_,p2,p3):=uY h hi;let(_,q2,q3):=uY h he;refine((pos m e+m-pos m i)%m,kY _ (),?_);let(u1,u2):=L_ h () ((pos m e+m-pos m i)%m) i hi;let e1:pos m (mO m ((pos m e+m-pos m i)%m) i)=pos m e:=by
  rw[u2,Nat.add_mod_mod,show pos m i+(pos m e+m-pos m i)=pos m e+m by lia,Nat.add_mod_right,TR q3]
 let r:=(uY h u1).2.1;rw[e1,q2]at r;exact(dE r).symm
abbrev dX(m:Nat):Nat->Nat×Nat->Nat×Nat
 |0,x=>x
 |k+1,x=>dX m k ((x.1*5+1+x.2/32)%m,x.2/32)
def yZ(m:Nat):∀(a b:Nat)(x:Nat×Nat),dX m (a+b) x=dX m b (dX m a x)
 |0,b,x=>by rw[BH,dX]
 |a+1,b,x=>by rw[Nat.succ_add,dX,dX,yZ m a b]
def LD(m:Nat):∀(a i:Nat),dX m a (i,0)=(mO m a i,0)
 |0,i=>rfl
 | a+1,i=>by
  rw[dX,mO,<-LD m a];simp[qr]
def LC(m:Nat):∀(a:Nat)(x:Nat×Nat),(dX m a x).2=x.2/32 ^ a
 |0,x=>by simp[dX]
 | a+1,x=>by
  rw[dX,LC m a,Nat.div_div_eq_div_mul,BE,BD]
def DJ{m:Nat}(h:0<m):∀(a:Nat)(x:Nat×Nat),x.1<m->(dX m a x).1<m
 |0,x,hx=>hx
 |a+1,x,hx=>by rw[dX];exact DJ h a _ (kY _ h)
def Ly{m:Nat}(hm:jE m=true){i p e:Nat}(hi:i<m)(hp:p<2 ^ 64)(he:e<m):∃k,k<13+m/\(dX m k (i,p)).1=e:=by
 let h0:0<m:=by lia
 let z:(dX m 13 (i,p)).2=0:=by
  rw[LC];exact Nat.div_eq_of_lt (gz hp (by decide))
 let l:=DJ h0 13 (i,p) hi;let(a,ha,e1):=Wn hm l he;refine(13+a,by lia,?_);rw[yZ];let:dX m 13 (i,p)=((dX m 13 (i,p)).1,0):=HW rfl z;rw[this,LD];exact e1
abbrev a_(mask:Nat)(h:Int):Nat->yb
 |0=>SetTable.probeStart { mask,place:=#[],dummies:=#[],finger:=0,led:=false,moves:=0,plain:=true } h
 |n+1=>rK { mask,place:=#[],dummies:=#[],finger:=0,led:=false,moves:=0,plain:=true } (a_ mask h n)
def Ji(t:dF)(h:Int)(n:Nat):t.advance (a_ t.mask h n)=a_ t.mask h (n+1):=rfl
def mQ(mask:Nat)(x:Nat×Nat)(q:Nat):yb:={ j:=x.1+q,more:=fu mask x.1-x.1-q,i:=x.1,perturb:=x.2,dummy:=aj }
def DW{mask:Nat}{h:Int}{n:Nat}{x:Nat×Nat}(e:a_ mask h n=mQ mask x 0):∀q,q<=fu mask x.1-x.1->a_ mask h (n+q)=mQ mask x q
 |0,_=>e
 | q+1,hq=>by
  let ih:=DW e q ();rw[<-HJ,a_,ih];unfold rK mQ;dsimp only;rw[if_pos ()];congr 1
def Y0{mask:Nat}{h:Int}:∀k,∃n,n<=10*k/\a_ mask h n=mQ mask (dX (mask+1) k (cO h%(mask+1),cO h)) 0:=by
 intro k;induction k with
 |zero=>exact(0,bF _,rfl)
 |succ k ih=>
  let(n,hn,e):=ih;let e2:=yZ (mask+1) k 1 (cO h%(mask+1),cO h);rw[e2];generalize dX (mask+1) k (cO h%(mask+1),cO h)=x at e;let hr:fu mask x.1-x.1<=9:=by unfold fu;split<;>lia
  let e3:=DW e (fu mask x.1-x.1) (bF _);refine(n+(fu mask x.1-x.1)+1,by lia,?_);rw[a_,e3];unfold rK mQ;dsimp only;rw[if_neg ()];rfl
def Dl:∀(n:Nat)(pl:List Nat),(∀e,e<n->e∈pl)->n<=pl.length
 |0,_,_=>ft _
 | n+1,pl,h=>by
  let hn:=h n (BC n);let:=Dl n (pl.erase n) λe he=>(Te (eG he)).mpr (h e (pK he));rw[S8 hn]at this;let:=Hy hn;lia
def WA{mask:Nat}(hm:jE (mask+1)=true){pl:List Nat}(hl:pl.length<=mask)(h:Int):∃n,n<10*mf mask/\(a_ mask h n).j∉pl:=by
 obtain ⟨e,he,cj⟩:∃e,e<mask+1/\e∉pl:=by
  by_cases c:∃e,e<mask+1/\e∉pl
  .exact c
  .exfalso;let:=Dl (mask+1) pl λe he=>by
    by_cases q:e∈pl
    .exact q
    .exact absurd ⟨e,he,q⟩ c
   lia
 let hb:cO h<2 ^ 64:=by
  unfold cO;let h1:=Hk h (b:=2 ^ 64) (by decide);let h2:=Hj h (b:=2 ^ 64) (by decide);lia
 let(k,hk,ek):=Ly hm (kY (cO h) (TZ mask)) hb he;let(n,hn,en):=Y0 (mask:=mask) (h:=h) k;refine(n,?_,?_)
 .unfold mf;lia
 .rw[en];unfold mQ;dsimp only;rw[ek,TJ];exact cj
structure TI(t:dF)(hs:List Int):Prop where
 rise:fi t.place
 le:∀j∈t.place.toList,j<=t.mask
 dm:t.dummies=#[]
 len:hs.length=t.place.size
 lj:t.place.size<=t.mask
 Cz:jE (t.mask+1)=true
 path:∀x∈hs.zip t.place.toList,∃n,(a_ t.mask x.1 n).j=x.2/\∀m,m<n->(a_ t.mask x.1 m).j∈t.place.toList
def below_at{xs:Array Nat}(hr:fi xs){j:Nat}(h:j∈xs.toList):xs[dh xs j]?=aa j:=by
 let L:=Jn (j:=j) hr;let(i,hi,e):=gR h;let sA:i<xs.size:=by simpa using hi
 let e':xs[i]=j:=by simpa using e
 by_cases c:dh xs j<xs.size
 .let h1:dh xs j=i:=by
   let a1:¬i<dh xs j:=λq=>by
    let:=L.lo i sA q;lia
   let a2:¬dh xs j<i:=λq=>by
    let r1:=hr.at q sA;let r2:=L.hi _ c (bF _);lia
   lia
  rw[h1,pA sA,e']
 .let:=L.lo i sA ();lia
def Jo{xs:Array Nat}{j:Nat}(h:j∉xs.toList):¬(xs[dh xs j]?==aa j)=true:=by
 intro c;let c:=eq_of_beq c;let(hi,e):=He.mp c;exact h (by rw[<-e];simp)
def TI.live{t:dF}{hs:List Int}(T:TI t hs){j:Nat}(h:j∈t.place.toList):t.slot j=.live (dh t.place j):=by
 unfold Iw;dsimp only;rw[if_pos (by rw[below_at T.rise h];simp)]
def TI.free{t:dF}{hs:List Int}(T:TI t hs){j:Nat}(h:j∉t.place.toList):t.slot j=.empty:=by
 unfold Iw;dsimp only;rw[if_neg (Jo h),if_neg];unfold Iu;rw[T.dm];simp
def TI.first{t:dF}{hs:List Int}(T:TI t hs)(h:Int):∃N,N<10*mf t.mask/\(a_ t.mask h N).j∉t.place.toList/\∀m,m<N->(a_ t.mask h m).j∈t.place.toList:=by
 let(n,h1,h2):=WA T.Cz (pl:=t.place.toList) (by simpa using T.lj) h;let key:∀n,(a_ t.mask h n).j∉t.place.toList->∃N,N<=n/\(a_ t.mask h N).j∉t.place.toList/\∀m,m<N->(a_ t.mask h m).j∈t.place.toList:=by
  intro n;induction n using HQ with
  |ind n ih=>
   intro hn;by_cases c:∃m,m<n/\(a_ t.mask h m).j∉t.place.toList
   .let(m,hm,q):=c;let(N,a,b,d):=ih m hm q;exact(N,by lia,b,d)
   .refine(n,bF _,hn,λm hm=>?_);by_cases q:(a_ t.mask h m).j∈t.place.toList
    .exact q
    .exact absurd ⟨m,hm,q⟩ c
 let(N,a,b,c):=key n h2;exact(N,by lia,b,c)
def Ma(mask:Nat)(h:Int):∀n,(a_ mask h n).dummy=aj
 |0=>rfl
 | n+1=>by
  let ih:=Ma mask h n;rw[a_];unfold rK;split
  .exact ih
  .exact ih
def TI.go{t:dF}{hs:List Int}(T:TI t hs){f:Nat->Int}{h:Int}{N:Nat}(hN:(a_ t.mask h N).j∉t.place.toList)(cq:∀m,m<N->(a_ t.mask h m).j∈t.place.toList):∀(fH k:Nat),k<=N->N<k+fH ->
  (∃n,k<=n/\n<N/\(∀m,k<=m->m<n->f (dh t.place (a_ t.mask h m).j)≠h)/\f (dh t.place (a_ t.mask h n).j)=h /\
   uC t f h fH (a_ t.mask h k)=aa (.candidate (a_ t.mask h n).j (dh t.place (a_ t.mask h n).j) (a_ t.mask h (n+1)))) \/
  ((∀m,k<=m->m<N->f (dh t.place (a_ t.mask h m).j)≠h)/\uC t f h fH (a_ t.mask h k)=aa (.empty (a_ t.mask h N).j aj)):=by
 intro fH;induction fH with
 |zero=>intro k h1 h2;lia
 |succ fH ih=>
  intro k h1 h2;rw[uC];by_cases c:k=N
  .subst c;rw[T.free hN];dsimp only;rw[Ma];exact .inr ⟨λm a b=>by lia,rfl⟩
  .let hk:=cq k ();rw[T.live hk];dsimp only;by_cases e:f (dh t.place (a_ t.mask h k).j)=h
   .rw[if_pos (by rw[e];simp)];exact .inl ⟨k,bF _,by lia,λm a b=>by lia,e,by rw[Ji]⟩
   .rw[if_neg (by simpa using e),Ji];rcases ih (k+1) () ()with⟨n,a,b,d,e1,e2⟩|⟨d,e2⟩
    .refine .inl ⟨n,by lia,b,λm q1 q2=>?_,e1,e2⟩;by_cases q:m=k
     .rw[q];exact e
     .exact d m () q2
    .refine .inr ⟨λm q1 q2=>?_,e2⟩;by_cases q:m=k
     .rw[q];exact e
     .exact d m () q2
def iO{O:Type}(l:List O)(p:Nat)(x:O):List O:=l.take p++x::l.drop p
def qo{O:Type}{l:List O}{p:Nat}{x y:O}:y∈iO l p x↔y=x\/y∈l:=by
 unfold iO;rw[d0,bN];constructor
 .rintro (h |h |h)
  .exact .inr (pI h)
  .exact .inl h
  .exact .inr (xI h)
 .rintro (h |h)
  .exact .inr (.inl h)
  .let:y∈l.take p++l.drop p:=by rw[HH];exact h
   rcases d0.mp this with h |h
   .exact .inl h
   .exact .inr (.inr h)
def yX{O:Type}(l:List O)(p:Nat)(x:O):(iO l p x).length=l.length+1:=by
 unfold iO;simp;lia
def Yi{O β:Type}(l:List O)(m:List β)(p:Nat)(x:O)(y:β)(h:l.length=m.length):(iO l p x).zip (iO m p y)=iO (l.zip m) p (x,y):=by
 unfold iO;rw[TB (by simp[h])];rw[xR];let e1:(l.take p).zip (m.take p)=(l.zip m).take p:=(List.take_zipWith (f:=Prod.mk) (l:=l) (l':=m) (i:=p)).symm;let e2:(l.drop p).zip (m.drop p)=(l.zip m).drop p:=(List.drop_zipWith (f:=Prod.mk) (l:=l) (l':=m) (i:=p)).symm;rw[e1,e2]
def Lo{O:Type}(xs:Array O)(p:Nat)(x:O):(iC xs p x).toList=iO xs.toList p x:=by
 unfold iC iO;simp;exact kU (by simp)
def DV(mask:Nat)(h:Int):∀n,(a_ mask h n).j+(a_ mask h n).more<=mask/\(a_ mask h n).i<=mask
 | 0=>by
  let:cO h%(mask+1)<=mask:=by let:=kY (cO h) (show 0<mask+1 by lia);lia
  refine(?_,this);show cO h%(mask+1)+(fu mask (cO h%(mask+1))-cO h%(mask+1))<=mask;unfold fu;split<;>lia
 | n+1=>by
  let ih:=DV mask h n;rw[a_];unfold rK;split
  .rename_i c
   dsimp only at c ⊢;lia
  .dsimp only;let:(yc mask (a_ mask h n).i (a_ mask h n).perturb).1<=mask:=by
    unfold yc;let:=kY ((a_ mask h n).i*5+1+(a_ mask h n).perturb/32) (show 0<mask+1 by lia);dsimp only;lia
   refine(?_,this);show(yc mask (a_ mask h n).i (a_ mask h n).perturb).1+(fu mask (yc mask (a_ mask h n).i (a_ mask h n).perturb).1-(yc mask (a_ mask h n).i (a_ mask h n).perturb).1)<=mask;unfold fu;split<;>lia
def TI.put{t:dF}{hs:List Int}(T:TI t hs){h:Int}{N:Nat}(hN:(a_ t.mask h N).j∉t.place.toList)(cq:∀m,m<N->(a_ t.mask h m).j∈t.place.toList)(hf:t.place.size+1<=t.mask):
  TI (t.put (a_ t.mask h N).j).1 (iO hs (t.put (a_ t.mask h N).j).2 h)/\(t.put (a_ t.mask h N).j).1.mask=t.mask/\(t.put (a_ t.mask h N).j).1.moves=t.moves/\(t.put (a_ t.mask h N).j).1.led=t.led/\(t.put (a_ t.mask h N).j).1.dummies=#[]:=by
 let hd:Iu t.dummies (a_ t.mask h N).j=false:=by
  unfold Iu;rw[T.dm];simp
 let el:=Lo t.place (dh t.place (a_ t.mask h N).j) (a_ t.mask h N).j;unfold SetTable.put;dsimp only;rw[hd];refine(⟨Mj T.rise (λc=>Jo hN (by rw[c];simp)),?_,?_,?_,?_,T.Cz,?_⟩,rfl,rfl,rfl,?_)
 .intro j hj;dsimp only at hj ⊢;rw[el]at hj;rcases qo.mp hj with rfl |hj
  .let:=(DV t.mask h N).1;lia
  .exact T.le j hj
 .simpa using T.dm
 .let:(iC t.place (dh t.place (a_ t.mask h N).j) (a_ t.mask h N).j).size=t.place.size+1:=by
   rw[<-jt,el,yX,jt]
  dsimp only;rw[this,yX,T.len]
 .let:(iC t.place (dh t.place (a_ t.mask h N).j) (a_ t.mask h N).j).size=t.place.size+1:=by
   rw[<-jt,el,yX,jt]
  dsimp only;rw[this];exact hf
 .intro x hx;dsimp only at hx ⊢;rw[el,Yi _ _ _ _ _ (by simpa using T.len)]at hx;rcases qo.mp hx with rfl |hx
  .exact(N,rfl,λm hm=>by rw[el];exact qo.mpr (.inr (cq m hm)))
  .let(n,e,k):=T.path x hx;exact(n,e,λm hm=>by rw[el];exact qo.mpr (.inr (k m hm)))
 .simpa using T.dm
structure LI(mask:Nat)(owner:Array (Option Nat))(done:List Int)(js:List Nat):Prop where
 sz:owner.size=mask+1
 len:js.length=done.length
 nd:js.Nodup
 le:∀j∈js,j<=mask
 own:∀(j k:Nat),owner[j]?=aa (aa k)↔js[k]?=aa j
 path:∀x∈done.zip js,∃n,(a_ mask x.1 n).j=x.2/\∀m,m<n->(a_ mask x.1 m).j∈js
def LI.empty{mask:Nat}{owner:Array (Option Nat)}{done:List Int}{js:List Nat}(L:LI mask owner done js){j:Nat}(hj:j<=mask):(owner.getD j (aa 0)).isNone=true↔j∉js:=by
 let hs:j<owner.size:=by let:=L.sz;lia
 let e:owner.getD j (aa 0)=owner[j]:=by simp[Bm,hs]
 rw[e];cases h:owner[j]with
 |none=>
  simp only[Option.isNone_none,true_iff];intro hm;let(k,hk,ek):=gR hm;let:=(L.own j k).mpr (by rw[bY hk,ek]);rw[pA hs,h]at this;cases this
 |some k=>
  simp only[Option.isNone_some,eN,false_iff,Classical.not_not];let:=(L.own j k).mp (by rw[pA hs,h]);exact eE this
def WB{mask:Nat}{owner:Array (Option Nat)}{done:List Int}{js:List Nat}(L:LI mask owner done js){h:Int}{k:Nat}(hk:(dX (mask+1) k (cO h%(mask+1),cO h)).1∉js):
  ∀(fH l n:Nat),l<=k->k<l+fH->a_ mask h n=mQ mask (dX (mask+1) l (cO h%(mask+1),cO h)) 0->(∀m,m<n->(a_ mask h m).j∈js) ->
   ∃N,BP mask owner fH (dX (mask+1) l (cO h%(mask+1),cO h)).1 (dX (mask+1) l (cO h%(mask+1),cO h)).2=aa (a_ mask h N).j/\(a_ mask h N).j∉js/\∀m,m<N->(a_ mask h m).j∈js:=by
 intro fH;induction fH with
 |zero=>intro l n h1 h2;lia
 |succ fH ih=>
  intro l n h1 h2 e hm;let hx:=DJ (show 0<mask+1 by lia) l (cO h%(mask+1),cO h) (kY _ ());generalize hX:dX (mask+1) l (cO h%(mask+1),cO h)=x at e hx;let hr:fu mask x.1<=mask/\x.1<=fu mask x.1:=by unfold fu;split<;>lia
  let run:=λq (hq:q<=fu mask x.1-x.1)=>DW e q hq;rw[BP];cases hf:(cF (fu mask x.1+1-x.1)).find? λk=>(owner.getD (x.1+k) (aa 0)).isNone with
  |some q=>
   dsimp only;let KN:=List.find?_some hf;let hq2:=eF.mp (List.mem_of_find?_eq_some hf);let ej:(a_ mask h (n+q)).j=x.1+q:=by rw[run q ()];rfl
   refine(n+q,by rw[ej],?_,λm vn=>?_)
   .rw[ej];exact(L.empty ()).mp KN
   .by_cases c:m<n
    .exact hm m c
    .obtain⟨q',rfl⟩:∃q',m=n+q':=⟨m-n,by lia⟩;let CB:(a_ mask h (n+q')).j=x.1+q':=by rw[run q' ()];rfl
     rw[CB];let(_,as,bs,e3,e4):=List.find?_eq_some_iff_append.mp hf;by_cases cc:x.1+q'∈js
     .exact cc
     .exfalso;let h5:=(L.empty ()).mpr cc;let ku:q'∈as:=by
       let vw:q'∈cF (fu mask x.1+1-x.1):=eF.mpr ();rw[e3]at vw;rcases d0.mp vw with z |z
       .exact z
       .exfalso;let hp:(cF (fu mask x.1+1-x.1)).Pairwise (· < ·):=HF;rw[e3,Th]at hp;rcases bN.mp z with z |z
        .lia
        .let:=(Ti.mp hp.2.1).1 q' z;lia
      let:=e4 q' ku;rw[h5]at this;cases this
  |none=>
   dsimp only;let vq:=List.find?_eq_none.mp hf;let ku:∀q,q<=fu mask x.1-x.1->x.1+q∈js:=λq hq=>by
    by_cases cc:x.1+q∈js
    .exact cc
    .exact absurd ((L.empty ()).mpr cc) (vq q (eF.mpr ()))
   let yH:l≠k:=λc=>by
    subst c;rw[hX]at hk;exact hk (by simpa using ku 0 ())
   let e2:=yZ (mask+1) l 1 (cO h%(mask+1),cO h);rw[hX]at e2;let e3:=run (fu mask x.1-x.1) (bF _);let e4:a_ mask h (n+(fu mask x.1-x.1)+1)=mQ mask (dX (mask+1) (l+1) (cO h%(mask+1),cO h)) 0:=by
    rw[e2,a_,e3];unfold rK mQ;dsimp only;rw[if_neg ()];rfl
   let:=ih (l+1) _ () () e4 (λm vn=>by
    by_cases c:m<n
    .exact hm m c
    .obtain⟨q',rfl⟩:∃q',m=n+q':=⟨m-n,by lia⟩;let CB:(a_ mask h (n+q')).j=x.1+q':=by rw[run q' ()];rfl
     rw[CB];exact ku q' ())
   rw[e2]at this;exact this
def LI.step{mask:Nat}{owner:Array (Option Nat)}{done:List Int}{js:List Nat}(L:LI mask owner done js){h:Int}{N:Nat}(h1:(a_ mask h N).j∉js)(h2:∀m,m<N->(a_ mask h m).j∈js):
  LI mask (owner.setIfInBounds (a_ mask h N).j (aa done.length)) (done++[h]) (js++[(a_ mask h N).j]):=by
 let hj:=(DV mask h N).1;generalize hJ:(a_ mask h N).j=J at h1 hj;let hsz:=L.sz;refine(by simpa using L.sz,by simp[L.len],?_,?_,?_,?_)
 .rw[HD];refine(L.nd,by simp,λa ha b hb=>?_);rw[jw]at hb;subst hb;exact λe=>h1 (e▸ha)
 .intro j hm;rcases d0.mp hm with hm |hm
  .exact L.le j hm
  .rw[jw]at hm;lia
 .intro j k;let hl:=L.len;by_cases c:j=J
  .subst c;rw[Array.getElem?_setIfInBounds_self_of_lt ()];constructor
   .intro e;injection e with e;injection e with e;subst e;rw[uo (),<-hl];simp
   .intro e;by_cases ck:k<js.length
    .rw[jv ck]at e;exact absurd (eE e) h1
    .let hk:k<(js++[j]).length:=(dU.mp e).1;simp at hk;let:k=done.length:=by lia
     rw[this]
  .rw[Array.getElem?_setIfInBounds_ne (l8 c),L.own];by_cases ck:k<js.length
   .rw[jv ck]
   .rw[uo (),l0 ()];constructor
    .intro e;cases e
    .intro e;let:=eE e;rw[jw]at this;exact absurd this c
 .intro x hx;rw[TB (by rw[L.len])]at hx;rcases d0.mp hx with hx |hx
  .let(n,e,k):=L.path x hx;exact(n,e,λm hm=>uv _ (k m hm))
  .simp only[xR,List.zip_nil_right,jw]at hx;subst hx;exact(N,hJ,λm hm=>uv _ (h2 m hm))
def LI.none{mask:Nat}:LI mask (Hf (mask+1) aj) [] []:=by
 refine(by simp,rfl,List.nodup_nil,by simp,λj k=>?_,by simp);rw[Array.getElem?_replicate];split<;>simp
def Lx{mask:Nat}(hc:jE (mask+1)=true):∀(todo:List Int)(owner:Array (Option Nat)) (done:List Int) (js:List Nat),LI mask owner done js->done.length+todo.length<=mask ->
  ∃ L4 DF,todo.foldl (λacc h=>do
   let(owner,k) <-acc
   let j <-BP mask owner (mf mask) (cO h%(mask+1)) (cO h)
   pure (owner.setIfInBounds j (aa k),k+1)) (aa (owner,done.length))=aa (L4,(done++todo).length)/\LI mask L4 (done++todo) DF
 |[],owner,done,js,L,_=>⟨owner,js,by simp,by simpa using L⟩
 | h::todo,owner,done,js,L,hl=>by
  rw[c6]at hl;let bj:=L.len;obtain ⟨e,he,cj⟩:∃e,e<mask+1/\e∉js:=by
   by_cases c:∃e,e<mask+1/\e∉js
   .exact c
   .exfalso;let:=Dl (mask+1) js λe he=>by
     by_cases q:e∈js
     .exact q
     .exact absurd ⟨e,he,q⟩ c
    lia
  let hb:cO h<2 ^ 64:=by
   unfold cO;let h1:=Hk h (b:=2 ^ 64) (by decide);let h2:=Hj h (b:=2 ^ 64) (by decide);lia
  let(k,hk,ek):=Ly hc (kY (cO h) (show 0<mask+1 by lia)) hb he;let(N,f1,f2,f3):=WB L (h:=h) (k:=k) (by rw[ek];exact cj) (mf mask) 0 0 () (by unfold mf;lia) rfl (λm hm=>by lia);let f1:BP mask owner (mf mask) (cO h%(mask+1)) (cO h)=aa (a_ mask h N).j:=f1;let(o',DF,g1,g2):=Lx hc todo _ _ _ (L.step f2 f3) (by simp;lia);refine(o',DF,?_,by simpa using g2);rw[xB];simp only[HU,T3,f1,HV];simp only[cA,uq,HU,HV]at g1;rw[g1];simp;lia
def Y9{t:dF}{hs:List Int}{qy mask:Nat}(hm:Iv qy-1=mask)(hc:jE (mask+1)=true)(hl:hs.length<=mask):
  ∃(t':dF)(order:Array Nat),t.relaid hs.toArray qy=aa (t',order)/\t'.mask=mask/\t'.led=t.led/\t'.plain=t.plain/\TI t' (order.toList.map λk=>hs.getD k 0)/\order.toList.Perm (cF hs.length):=by
 let(owner,js,e,L):=Lx hc hs (Hf (mask+1) aj) [] [] LI.none (by simpa using hl);rw[d3]at e L;let ec:U_ mask hs.toArray=aa owner:=by
  unfold U_;rw[List.foldl_toArray']
  .rw[show hs.foldl _ (aa (Hf (mask+1) aj,0))=aa (owner,hs.length)from e];rfl
  .rfl
 unfold Va U9;rw[hm,ec];simp only[HU,T3,HV];let dM:∀j k,(j,k)∈((cF (mask+1)).filterMap λj=>(owner.getD j aj).map (j,·))↔js[k]?=aa j:=by
  intro j k;rw[HC];constructor
  .rintro⟨a,ha,e2⟩;let ha:=eF.mp ha;let vx:a<owner.size:=by let:=L.sz;lia
   let e3:owner.getD a aj=owner[a]:=by simp[Bm,vx]
   rw[e3]at e2;cases ho:owner[a]with
   |none=>rw[ho]at e2;cases e2
   |some b=>
    rw[ho]at e2;let e4:=dE e2;injection e4 with e5 e6;subst e5 e6;exact(L.own a b).mp (by rw[pA vx,ho])
  .intro hj;let hle:=L.le j (eE hj);let vx:j<owner.size:=by let:=L.sz;lia
   let:=(L.own j k).mpr hj;rw[pA vx]at this;let:=dE this;refine(j,eF.mpr (),?_);let e3:owner.getD j aj=owner[j]:=by simp[Bm,vx]
   rw[e3,this];rfl
 let Dq:=Mk (λj=>owner.getD j aj) (mask+1);generalize Kz:((cF (mask+1)).filterMap λj=>(owner.getD j aj).map (j,·))=live at dM Dq ⊢;let cq:live.Pairwise λa b=>a.1<b.1:=by
  let:=Dq;unfold fi at this;rw[xP,xJ]at this;exact this
 let Kt:(live.map (·.2)).Nodup:=by
  rw[Bq,xJ];refine SN (λ{a b} ha hb kq=>?_) cq;intro e;let h1:=(dM a.1 a.2).mp ha;let h2:=(dM b.1 b.2).mp hb;rw[e]at h1;rw[h1]at h2;let:=dE h2;lia
 let KI:(live.map (·.2)).Perm (cF hs.length):=by
  rw[List.perm_ext_iff_of_nodup Kt Tf];intro k;rw[bK,eF];constructor
  .rintro⟨x,hx,rfl⟩;let:=(dM x.1 x.2).mp hx;let:=(dU.mp this).1;rw[L.len]at this;exact this
  .intro hk;let f7:k<js.length:=by rw[L.len];exact hk
   exact((js[k],k),(dM _ _).mpr (bY f7),rfl)
 let XB:live.length=hs.length:=by simpa using KI.length_eq
 refine(_,_,rfl,rfl,rfl,rfl,⟨Dq,?_,rfl,?_,?_,hc,?_⟩,by rw[xP];exact KI)
 .intro j hj;dsimp only at hj;let(x,hx,rfl):=bK.mp hj;exact L.le _ (eE ((dM x.1 x.2).mp hx))
 .simp
 .simp;lia
 .intro x hx;simp only[xP,j7]at hx ⊢;rw[List.zip_map']at hx;let(y,hy,rfl):=bK.mp hx;let hj:=(dM y.1 y.2).mp hy;let(hk,ek):=dU.mp hj;let ky:y.2<hs.length:=by rw[<-L.len];exact hk
  let(n,e1,e2):=L.path (hs[y.2],y.1) (xH.mpr ⟨y.2,by simp;lia,by simp[ek]⟩);let eh:hs.getD y.2 0=hs[y.2]:=by simp[gQ,ky]
  refine(n,by simpa[ky]using e1,λm vn=>?_);let ku:=e2 m vn;let(q,hq,eq):=gR ku;let:(js[q],q)∈live:=(dM _ _).mpr (bY hq);refine bK.mpr ⟨_,this,?_⟩;simp[ky,eq]
open PyProof.Rows
section
variable{prog:Program}{w:aY}{K:Type}[DecidableEq K]{knd:KeyKind prog w K}{A:bb}{E:ak->au->Prop}{s:au}
def gE(knd:KeyKind prog w K)(h:aT)(B:Nat)(e:Int×ak)(k:List K):Prop:=∃b,b<B/\e.2=.ref b/\e.1=du knd k/\kb knd h k b
def gE.inj{h:aT}{B:Nat}{e:Int×ak}{k k':List K}(x:gE knd h B e k)(y:gE knd h B e k'):k=k':=by
 let(b,_,e1,_,h1):=x;let(c,_,e2,_,h2):=y;rw[e1]at e2;cases e2;exact h1.inj h2
structure iH(knd:KeyKind prog w K)(h:aT)(B:Nat)(es:Array (Int×ak))(t:dF)(ks:List (List K)):Prop where
 el:∀e∈es.toList,∃k,k∈ks/\gE knd h B e k
 mem:∀k∈ks,∃e∈es.toList,gE knd h B e k
 len:es.size=ks.length
 ti:TI t (es.toList.map (·.1))
 sz:t.mask=7/\es.size<=4\/t.mask=31/\es.size<=18\/t.mask=127/\es.size<=76
def Kp(h0:aT)(B:Nat)(h:aT):Prop:=∀b o,b<B->h0.get? b=aa o->h.get? b=aa o
def Kp.key{h0 h:aT}{B:Nat}{k:List K}{b:aq}(q:Kp h0 B h)(hb:b<B)(x:kb knd h0 k b):kb knd h k b:=by
 let(o,bI,n,ho,r):=x;exact(o,bI,n,q b o hb ho,r)
def iH.fits{h:aT}{B:Nat}{es:Array (Int×ak)}{t:dF}{ks:List (List K)}(T:iH knd h B es t ks):t.fits es.size=true:=by
 let h1:=T.ti.len;let h2:=T.ti.lj;unfold U8 U7;rw[T.ti.dm];simp at h1 ⊢;lia
def iH.way{h:aT}{B:Nat}{es:Array (Int×ak)}{t:dF}{ks:List (List K)}(T:iH knd h B es t ks):t.gaveWay=false:=by
 unfold SetTable.gaveWay;rcases T.sz with e |e |e<;>rw[e.1]<;>rfl
def Jx{k:List K}{b:aq}{Q:Bool->au->Prop}(hx:kb knd s.heap k b)(h:Q false s):aG (aN prog w) A (IH 8 (.ref b)) Q E s:=by
 let hT:=hx.typeIs;let(o,bI,n,ho,hc,hd,hi):=hx;unfold IH;refine aE (B8 hT ?_);dsimp only;rw[if_pos (by decide)];refine aE (aX ?_);simp only[Bo,eN,if_false];refine aE (nZ ho hd ?_);dsimp only;refine aE ?_;rw[<-Sx];refine uM _ (λcx r s'=>r.1=aj/\s'=s/\∀v∈cx,BU v=true) _ ?_ ?_ _ _ ⟨rfl,rfl,hi.byValue⟩
 .rintro v cx r s' ⟨hr,rfl,fx⟩;let hv:=fx v gy;let e:IH 7 v=pure false:=by
   cases v with
   |ref a=>simp[BU]at hv
   |_=>rfl
  rw[e];refine aE (aX ?_);simp only[eN,if_false];exact aX ⟨rfl,rfl,λu ql=>fx u (b5 _ ql)⟩
 .rintro⟨r1,r2⟩ s' ⟨hr,rfl,_⟩;simp only at hr;subst hr;exact aX h
def YH{b:aq}{k:List K}(hx:kb knd s.heap k b)(l:List ak){Q:Bool->au->Prop}(hl:∀y∈l,∃k' b',y=.ref b'/\kb knd s.heap k' b')(h:Q false s):aG (aN prog w) A (VD (.ref b) l) Q E s:=by
 unfold VD;refine aE ?_;refine uM _ (λcx r s'=>r.1=aj/\s'=s/\∀y∈cx,∃k' b',y=.ref b'/\kb knd s.heap k' b') _ ?_ ?_ _ _ ⟨rfl,rfl,hl⟩
 .rintro v cx r s' ⟨hr,rfl,fx⟩;let(k',b',rfl,f7):=fx v gy;let Mi:=λu ql=>fx u (b5 _ ql);dsimp only;split
  .exact aX ⟨rfl,rfl,Mi⟩
  .refine aE (VM hx ?_);simp only[Bo,eN,if_false];refine aE (VM f7 ?_);simp only[Bo,eN,if_false];refine aE (Jx hx ?_);simp only[eN,if_false];refine aE (Jx f7 ?_);simp only[eN,if_false];exact aX ⟨rfl,rfl,Mi⟩
 .rintro⟨r1,r2⟩ s' ⟨hr,rfl,_⟩;simp only at hr;subst hr;exact aX h
def iH.at{h:aT}{B:Nat}{es:Array (Int×ak)}{t:dF}{ks:List (List K)}(T:iH knd h B es t ks){j:Nat}(hj:j∈t.place.toList):∃e,es[dh t.place j]?=aa e/\e∈es.toList/\∃k,k∈ks/\gE knd h B e k:=by
 let h1:=below_at T.ti.rise hj;let(hi,_):=He.mp h1;let h2:=T.ti.len;simp at h2;let sA:dh t.place j<es.size:=by lia
 exact(_,pA sA,by simp,T.el _ (by simp))
def iH.ZY{h:aT}{B:Nat}{es:Array (Int×ak)}{t:dF}{ks:List (List K)}(T:iH knd h B es t ks){k:List K}(hk:k∈ks){N:Nat}(hN:(a_ t.mask (du knd k) N).j∉t.place.toList):
  ∃n e,n<N/\es[dh t.place (a_ t.mask (du knd k) n).j]?=aa e/\gE knd h B e k:=by
 let(e,he,hE):=T.mem k hk;let(i,hi,ei):=gR he;let hl:=T.ti.len;simp at hl hi;let Xr:i<t.place.size:=by lia
 obtain ⟨n,h1,h2⟩:=T.ti.path (e.1,t.place[i]) (by
  refine xH.mpr ⟨i,by simp;lia,?_⟩;simp at ei;simp[ei])
 let e1:e.1=du knd k:=by
  let(b,_,_,q,_):=hE;exact q
 dsimp only at h1 h2;rw[e1]at h1 h2;let dM:(a_ t.mask (du knd k) n).j∈t.place.toList:=by rw[h1];simp
 let hn:n<N:=by
  by_cases c:n<N
  .exact c
  .by_cases c2:n=N
   .exact absurd (c2▸dM) hN
   .exact absurd (h2 N ()) hN
 refine(n,e,hn,?_,hE);rw[h1];let hb:=below_at T.ti.rise (j:=t.place[i]) (by simp);let(W6,Kd):=He.mp hb;let eq:dh t.place t.place[i]=i:=by
  rcases TN (dh t.place t.place[i]) i with c |c |c
  .let:=T.ti.rise.at c Xr;lia
  .exact c
  .let:=T.ti.rise.at c W6;lia
 rw[eq];simp at ei;rw[<-ei];exact pA _
end
section
variable{prog:Program}{w:aY}{K:Type}[DecidableEq K]{knd:KeyKind prog w K}{A:bb}{E:ak->au->Prop}{s:au}
def Zl{a b:aq}{k:List K}{h0:aT}{B:Nat}{o:aV}{es:Array (Int×ak)}{ep:Nat}{t:dF}{ks:List (List K)}{Q:SetFound->au->Prop}(hu:A.units<c8)
  (ho:s.heap.get? a=aa o) (hd:o.data=.set es ep t) (T:iH knd h0 B es t ks) (hB:Kp h0 B s.heap) (hb:kb knd s.heap k b)
  {N:Nat} (hN0:N<10*mf t.mask) (hN:(a_ t.mask (du knd k) N).j∉t.place.toList) (cq:∀m,m<N->(a_ t.mask (du knd k) m).j∈t.place.toList)
  (h1:k∈ks->Q (.there aj) s) (h2:k∉ks->Q (.free (a_ t.mask (du knd k) N).j false) s) :
  ∀(fH kk:Nat)(zr:Option yb),kk<=N->N<kk+fH->zr.getD (t.probeStart (du knd k))=a_ t.mask (du knd k) kk ->
   (∀m,m<kk->∀e,es[dh t.place (a_ t.mask (du knd k) m).j]?=aa e->¬gE knd h0 B e k) ->
   aG (aN prog w) A (setSearchFrom a (.ref b) (du knd k) true fH zr) Q E s:=by
 intro fH;induction fH with
 |zero=>intro kk zr q1 q2;lia
 |succ fH ih=>
  intro kk zr q1 q2 q3 q4;unfold setSearchFrom;refine aE (uN ho hd T.fits ?_);dsimp only;rw[T.way];simp only[eN,if_false];rw[q3];unfold SetTable.probe;rcases T.ti.go hN cq (10*mf t.mask) kk q1 ()with⟨n,a1,a2,a3,a4,a5⟩|⟨a3,a5⟩
  .rw[a5];dsimp only;let(e,e1,e2,k',f7,hE):=T.at (cq n a2);let WV:=hE;let(b',gH,eb,eh,sE):=hE;let Xv:=hB.key gH sE;let(eh0,ev):=e;dsimp only at eb eh;subst eb;let XX:∀y∈iZ (λx:Int×ak=>x.2) (Array.filter (λx:Int×ak=>x.1==du knd k) es).toList,∃k' b',y=b9 b'/\kb knd s.heap k' b':=by
    intro y hy;let(x,hx,rfl):=bK.mp hy;let ou:x∈es.toList:=by
     simp at hx;exact Sy.mpr hx.1
    let(k2,_,b2,Kd,ex,_,ky):=T.el x ou;exact(k2,b2,ex,hB.key Kd ky)
   let XU:t.sameMemory t.moves t.mask=aa true:=by
    unfold SetTable.sameMemory;rw[if_pos (by simp)]
   let Kz:=T.ti.live (cq n a2);let XD:∀m,m<n+1->∀e,es[dh t.place (a_ t.mask (du knd k) m).j]?=aa e->k'≠k->¬gE knd h0 B e k:=by
    intro m hm e he cj hc;by_cases c:m<kk
    .exact q4 m c e he hc
    .by_cases c2:m=n
     .subst c2;rw[e1]at he;cases he;exact cj (WV.inj hc)
     .refine a3 m () () ?_;let(_,_,_,q,_):=hc;show(T5 (λx:Int×ak=>x.1) es[dh t.place (a_ t.mask (du knd k) m).j]?).getD 0=_;rw[he];exact q
   rw[e1];dsimp only;split;refine aE (YH hb _ XX ?_);simp only[eN,if_false]
   all_goals
    refine aE (kc (wpAny_eqBool_tuple hu Xv hb ?_));refine aE (uN ho hd T.fits ?_);dsimp only;by_cases c:k'=k
    .subst c;rw[if_pos (by simp)];exact aX (h1 f7)
    .rw[if_neg (by simp[c]),XU];dsimp only;rw[if_pos rfl,Kz];dsimp only;rw[e1];dsimp only;refine aE (wpAny_isSame_ref_self ?_);rw[if_pos rfl];refine aE (aX ?_);dsimp only;rw[if_neg (by simp[c])];exact ih (n+1) _ () () rfl λm hm e he=>XD m hm e he c
  .rw[a5];dsimp only;refine aX (h2 λhk=>?_);let(n,e,hn,he,hE):=T.ZY hk hN;by_cases c:n<kk
   .exact q4 n c e he hE
   .refine a3 n () hn ?_;let(_,_,_,q,_):=hE;show(T5 (λx:Int×ak=>x.1) es[dh t.place (a_ t.mask (du knd k) n).j]?).getD 0=_;rw[he];exact q
end
def YS{O:Type}{es:Array O}{order:Array Nat}(hp:order.toList.Perm (cF es.size))(f:O->Int):
  (order.filterMap (es[·]?)).toList.Perm es.toList/\(order.filterMap (es[·]?)).toList.map f=order.toList.map λk=>(es.toList.map f).getD k 0:=by
 rw[Array.toList_filterMap];constructor
 .exact(hp.filterMap _).trans (by rw[filterMap_getElem?_range])
 .let hm:∀k∈order.toList,k<es.size:=λk hk=>by simpa using hp.mem_iff.mp hk
  generalize order.toList=l at hm;induction l with
  |nil=>rfl
  |cons k r ih=>
   let hk:=hm k gy;rw[List.filterMap_cons_some (b:=es[k]) (by simp[hk]),bJ,bJ,ih λx hx=>hm x (b5 _ hx)];simp[List.getD,hk]
section
variable{prog:Program}{w:aY}{K:Type}[DecidableEq K]{knd:KeyKind prog w K}{A:bb}{E:ak->au->Prop}{s:au}
def rY(knd:KeyKind prog w K)(h0:aT)(B:Nat)(h:aT)(a:aq)(ks:List (List K)):Prop :=
 ∃o es ep t,h.get? a=aa o/\o.ExactSet/\o.data=.set es ep t/\iH knd h0 B es t ks
def iH.fresh{h0:aT}{B:Nat}{led:Bool}:iH knd h0 B #[] (.fresh 0 0 led) [] :=
 ⟨λe he=>by simp at he,λk hk=>by simp at hk,rfl,⟨Hm,λj hj=>by simp[SetTable.fresh]at hj,rfl,rfl,ft _,Wm,λx hx=>by simp at hx⟩,.inl ⟨rfl,ft _⟩⟩
def W5{k:List K}{b:aq}{Q:Bool->au->Prop}(hx:kb knd s.heap k b)(h:∀r,Q r s):aG (aN prog w) A (IG 8 (.ref b)) Q E s:=by
 let hT:=hx.typeIs;let(o,bI,n,ho,hc,hd,hi):=hx;unfold IG;refine aE (VT hT F.slot_tuple_hash.lookup ?_);dsimp only;refine aE (nZ ho hd ?_);refine aE ?_;show aG _ _ (forIn bI _ _) _ _ s;rw[<-Sx];refine uM _ (λcx r s'=>s'=s/\∀v∈cx,BU v=true) _ ?_ ?_ _ _ ⟨rfl,hi.byValue⟩
 .rintro v cx r s' ⟨rfl,fx⟩;let hv:=fx v gy;let e:∃q,IG 7 v=pure q:=by
   cases v with
   |ref a=>simp[BU]at hv
   |_=>exact(_,rfl)
  let(q,e):=e;rw[e];refine aE (aX ?_);cases q
  .simp only[Bool.not_false,if_true];exact aX (aX (h _))
  .simp only[Bo,eN,if_false];exact aX ⟨rfl,λu ql=>fx u (b5 _ ql)⟩
 .rintro⟨r1,r2⟩ s' ⟨rfl,_⟩;cases r1
  .exact aX (h _)
  .exact aX (h _)
def Mh{a:aq}{h0:aT}{B:Nat}{o:aV}{es:Array (Int×ak)}{ep:Nat}{t:dF}{ks:List (List K)}{qy mask:Nat}{Q:Unit->au->Prop}
  (ho:s.heap.get? a=aa o) (hex:o.ExactSet) (hd:o.data=.set es ep t) (hf:t.fits es.size=true) (el:∀e∈es.toList,∃k,k∈ks/\gE knd h0 B e k) (mem:∀k∈ks,∃e∈es.toList,gE knd h0 B e k) (len:es.size=ks.length)
  (hm:Iv qy-1=mask) (hc:jE (mask+1)=true) (hl:es.size<=mask) (sz:mask=31/\es.size<=18\/mask=127/\es.size<=76)
  (h:∀h',gS a s.heap h'->rY knd h0 B h' a ks->Q Unit.unit { s with heap:=h' }):aG (aN prog w) A (B4 a qy) Q E s:=by
 let(t',order,e,em,_,_,X2,hp):=Y9 (t:=t) (hs:=es.toList.map (·.1)) hm hc (by simpa using hl);let e':t.relaid (es.map (·.1)) qy=aa (t',order):=by
  rw[<-e,<-Array.toList_map,Array.toArray_toList]
 let yO:order.toList.Perm (cF es.size):=by simpa using hp
 let⟨p1,p2⟩:=YS yO (·.1);unfold B4;refine aE (uN ho hd hf ?_);dsimp only;let kC:¬Iv qy > a9:=by
  rw[mj];lia
 rw[if_neg kC];rw[e'];refine aE ?_;let hs:(order.filterMap (es[·]?)).size=es.size:=by rw[<-jt,p1.length_eq,jt]
 show aG _ _ (if((order.filterMap (es[·]?)).size != es.size)=true then _ else pure (order.filterMap (es[·]?),t')) _ _ _
 rw[if_neg (by rw[hs];simp)];refine aX ?_;dsimp only;let T:iH knd h0 B (order.filterMap (es[·]?)) t' ks:=by
  refine(λe he=>el e (p1.mem_iff.mp he),λk hk=>?_,by rw[hs,len],by rw[p2];exact X2,by rw[hs,em];exact .inr sz);let(e,he,q):=mem k hk;exact(e,p1.mem_iff.mpr he,q)
 refine B7 ho hd (h _ (pQ s.heap a _) ⟨_,_,_,_,zj ho hd _ _,hex,rfl,T⟩) ?_;rw[hs,mj];lia
def Yh{O β:Type}(f:O->β)(l:List O)(p:Nat)(x:O):(iO l p x).map f=iO (l.map f) p (f x):=by simp[iO,xG,xF]
def TI.off{t:dF}{hs:List Int}(T:TI t hs):TI { t with plain:=false } hs:=⟨T.rise,T.le,T.dm,T.len,T.lj,T.Cz,T.path⟩
def MD{a:aq}{h0:aT}{B n:Nat}{o:aV}{es eu:Array (Int×ak)}{ep:Nat}{t t2:dF}{ks:List (List K)}{Q:Bool->au->Prop}
  (ho:s.heap.get? a=aa o) (hex:o.ExactSet) (hd:o.data=.set es ep t) (el:∀e∈eu.toList,∃k,k∈ks/\gE knd h0 B e k) (mem:∀k∈ks,∃e∈eu.toList,gE knd h0 B e k) (len:eu.size=ks.length)
  (ti:TI t2 (eu.toList.map (·.1))) (sz:t2.mask=7/\eu.size<=5\/t2.mask=31/\eu.size<=19\/t2.mask=127/\eu.size<=76) (hn:n=eu.size)
  (h:∀h' r,gS a s.heap h'->rY knd h0 B h' a ks->Q r { s with heap:=h' }) :
  aG (aN prog w) A (do
   B6 a eu t2
   if(!false&&t2.tooFull)=true then do
    B4 a (rL n)
    pure true
   else pure true) Q E s:=by
 subst hn;let jJ:eu.size=t2.place.size:=by simpa using ti.len
 let C4:t2.fill=eu.size:=by
  unfold U7;rw[ti.dm,jJ];rfl
 refine aE (B7 ho hd ?_ (by rw[mj];lia));let h1:=zj ho hd eu t2;let b1:=pQ s.heap a (ya eu t2);let hf:t2.fits eu.size=true:=by
  let:=ti.lj;unfold U8;rw[C4];simp;lia
 by_cases c:t2.tooFull=true
 .rw[if_pos (by rw[c];rfl)];unfold Vb at c;rw[C4,decide_eq_true_eq]at c;let fin:∀h',gS a (s.heap.update a (ya eu t2)) h'->rY knd h0 B h' a ks->aG (aN prog w) A (pure true) Q E { s with heap:=h' }:=λh' q1 q2=>aX (h _ _ (b1.trans q1) q2)
  rcases sz with⟨e1,e2⟩|⟨e1,e2⟩|⟨e1,e2⟩
  .rw[e1]at c;let e5:eu.size=5:=by lia
   exact aE (Mh (mask:=31) h1 hex rfl hf el mem len (by rw[e5];decide) Wl () (.inl ⟨rfl,by lia⟩) fin)
  .rw[e1]at c;let e5:eu.size=19:=by lia
   exact aE (Mh (mask:=127) h1 hex rfl hf el mem len (by rw[e5];decide) Wk () (.inr ⟨rfl,by lia⟩) fin)
  .rw[e1]at c;lia
 .rw[if_neg (by simpa using c)];unfold Vb at c;rw[C4,decide_eq_true_eq]at c;exact aX (h _ _ b1 ⟨_,_,_,_,h1,hex,rfl,el,mem,len,ti,by
   rcases sz with⟨e1,e2⟩|⟨e1,e2⟩|⟨e1,e2⟩
   .rw[e1]at c;exact .inl ⟨e1,by lia⟩
   .rw[e1]at c;exact .inr (.inl ⟨e1,by lia⟩)
   .exact .inr (.inr ⟨e1,e2⟩)⟩)
def Zo{a b:aq}{k:List K}{h0:aT}{B:Nat}{ks:List (List K)}{Q:Bool->au->Prop}(hu:A.units<c8)(hB:Kp h0 B s.heap)(hb:b<B)(hx:kb knd h0 k b)(hS:rY knd h0 B s.heap a ks)(yQ:ks.length+1<=76)
  (h:∀h' r,gS a s.heap h'->rY knd h0 B h' a (gW ks k)->Q r { s with heap:=h' }) :
  aG (aN prog w) A (B3 a (.ref b) (du knd k)) Q E s:=by
 let WZ:=hS;let(o,es,ep,t,ho,hex,hd,T):=hS;let yW:=hB.key hb hx;let(N,n1,n2,n3):=T.ti.first (du knd k);unfold B3 setAddHashedIn;refine kc (aE (uN ho hd T.fits ?_));dsimp only;rw[show byScan (.ref b) es=false from rfl];simp only[eN,if_false];let X4:N<0+100000:=by
  unfold mf at n1;rcases T.sz with e |e |e<;>rw[e.1]at n1<;>lia
 refine aE (Zl hu ho hd T hB yW n1 n2 n3 ?_ ?_ 100000 0 aj (ft _) X4 rfl (λm hm=>absurd hm (TU _)))
 .intro hk;rw[gW,if_pos hk]at h;let q:=h s.heap false (Il a s.heap) WZ;exact aX (by cases s;exact q)
 .intro hk;rw[gW,if_neg hk]at h;dsimp only;refine aE (uN ho hd T.fits ?_);dsimp only;let jJ:es.size=t.place.size:=by simpa using T.ti.len
  let bj:=T.len;let(P1,P2,_,_,_):=T.ti.put n2 n3 (by rcases T.sz with e |e |e<;>lia);let g8:=Lo es (t.put (a_ t.mask (du knd k) N).j).2 (du knd k,b9 b);generalize t.put (a_ t.mask (du knd k) N).j=ZZZ at P1 P2 g8 ⊢;let(t1,p):=ZZZ;dsimp only at P1 P2 g8 ⊢;let Kl:gE knd h0 B (du knd k,b9 b) k:=⟨b,hb,rfl,rfl,hx⟩;let el:∀e∈(iC es p (du knd k,b9 b)).toList,∃k',k'∈ks++[k]/\gE knd h0 B e k':=by
   intro e he;rw[g8]at he;rcases qo.mp he with rfl |he
   .exact(k,by simp,Kl)
   .let(k',q1,q2):=T.el e he;exact(k',uv _ q1,q2)
  let mem:∀k'∈ks++[k],∃e∈(iC es p (du knd k,b9 b)).toList,gE knd h0 B e k':=by
   intro k' f7;rw[g8];rcases d0.mp f7 with q |q
   .let(e,q1,q2):=T.mem k' q;exact(e,qo.mpr (.inr q1),q2)
   .rw[jw]at q;subst q;exact(_,qo.mpr (.inl rfl),Kl)
  let eu:(iC es p (du knd k,b9 b)).size=es.size+1:=by rw[<-jt,g8,yX,jt]
  let ti:TI t1 ((iC es p (du knd k,b9 b)).toList.map (·.1)):=by
   rw[g8,Yh];exact P1
  let sz:t1.mask=7/\(iC es p (du knd k,b9 b)).size<=5\/t1.mask=31/\(iC es p (du knd k,b9 b)).size<=19\/t1.mask=127/\(iC es p (du knd k,b9 b)).size<=76:=by
   rw[eu,P2];rcases T.sz with e |e |e<;>lia
  let len:(iC es p (du knd k,b9 b)).size=(ks++[k]).length:=by rw[eu,bj];simp
  let fin:∀r:Bool,aG (aN prog w) A (do
    B6 a (iC es p (du knd k,b9 b)) (if r=true then t1 else { t1 with plain:=false })
    if(!false&&(if r=true then t1 else { t1 with plain:=false }).tooFull)=true then do
     B4 a (rL (es.size+1))
     pure true
    else pure true) Q E s:=by
   intro r;cases r
   .exact MD ho hex hd el mem len ti.off sz eu.symm h
   .exact MD ho hex hd el mem len ti sz eu.symm h
  split
  .exact aE (W5 yW fin)
  .exact aE (aX (fin true))
end
section
variable{prog:Program}{w:aY}{A:bb}{κ:Type}[DecidableEq κ]
set_option genInjectivity false in
structure uO(prog:Program)(w:aY)(A:bb)(h0:aT)(B:Nat)(κ:Type)[DecidableEq κ] where
 SI:aT->aq->List κ->Prop
 ok:κ->ak->Prop
 kept:∀{h h':aT}{a:aq}{ks:List κ},SI h a ks->(∀o,h.get? a=aa o->h'.get? a=aa o)->SI h' a ks
 new:∀{h:aT}{a:aq},h.get? a=aa (gJ w)->SI h a []
 add:∀{s:au}{Q:Bool->au->Prop}{E:ak->au->Prop}{a:aq}{ks:List κ}{k:κ}{v:ak},ok k v->Kp h0 B s.heap->SI s.heap a ks->ks.length+1<=76 ->
  (∀h' r tk,s.toks<=tk->gS a s.heap h'->SI h' a (gW ks k)->Q r { s with heap:=h',toks:=tk })->aG (aN prog w) A.in1 (setAdd a v) Q E s
variable{h0:aT}{B:Nat}(D:uO prog w A h0 B κ){R:Result->au->Prop}{I:aq}{fp wr:List aq}{G:Array pP->Array pP->Prop}{n:Nat}{P:Nat->ak->Prop}{St:Nat->au->Prop}
def ZU(W:WalksS prog w A.in1 I fp wr G n P St)(a:aq)(ha:a∉fp)(hB:∀b∈a::wr,B<=b){ns:List κ}(hn:ns.length=n)(X6:∀i v,P i v->∃k,ns[i]?=aa k/\D.ok k v)(hb:n+1<=76):
  ∀(k i:Nat)(s:au),n-i=k->i<=n->St i s->Kp h0 B s.heap->D.SI s.heap a (once (ns.take i)) ->
   (∀s',Moved (a::wr) G s s'->D.SI s'.heap a (once ns)->R (.ok (.ret .none)) s') ->
   nV (aN prog w) A (.builtin "set.update.loop" ⟨[.ref a,.ref I],[]⟩) R s:=by
 let Kc:a∉wr:=λh=>ha (W.sub _ h);let sub:∀b∈wr,b∈a::wr:=λb hb=>b5 _ hb;intro k;induction k with
 |zero=>
  intro i s hk hi jb hK hS hR;obtain rfl:i=n:=by lia
  refine BV T7 ?_;rw[HZ HY _];show aG _ A.in1 (pyNext (.ref I) >>= _) _ _ s;refine aE (W.done s _ _ jb λs' hm=>?_);show aG _ A.in1 (ret gA) _ _ s';rw[<-hn,BA]at hS;exact aX (hR s' (hm.mono sub) (D.kept hS λo e=>hm.heap a o Kc e))
 |succ k ih=>
  intro i s hk hi jb hK hS hR;let cq:i<n:=by lia
  refine BV T7 ?_;rw[HZ HY _];show aG _ A.in1 (pyNext (.ref I) >>= _) _ _ s;refine aE (W.item i s _ _ cq jb λv s1 hP X1 hm=>?_);let(k0,Xt,yU):=X6 i v hP;let S1:=D.kept hS λo e=>hm.heap a o Kc e;let K1:Kp h0 B s1.heap:=λb o q1 q2=>hm.heap b o (λhc=>by let:=hB b (sub b hc);lia) (hK b o q1 q2);show aG _ A.in1 (jA [v] (setAdd a v) >>= _) _ _ s1;refine aE (kc ?_);let hl:=LZ (ns.take i);refine D.add yU K1 S1 (by simp at hl;lia) λh' b tk vz lC S2=>?_;rw[<-YQ Xt]at S2;let K2:Kp h0 B h':=λb o q1 q2=>by
   rw[lC.2 b (λhc=>by let:=hB a gy;subst hc;lia)];exact K1 b o q1 q2
  refine aX ⟨plainId_quiet HY _,ih (i+1) _ () cq (W.frame _ s1 _ _ X1 vz λb hb o e=>?_) K2 S2 λs2 gZ S3=>?_⟩
  .rw[lC.2 b (λh:b=a=>ha (h▸hb))];exact e
  .refine hR s2 (Moved.trans W.gtrans ((hm.mono sub).then_heap vz λb o hb e=>?_) gZ) S3;rw[lC.2 b (λh:b=a=>hb (h▸gy))];exact e
end
section
variable{prog:Program}{w:aY}{κ:Type}[DecidableEq κ]{A:bb}{E:ak->au->Prop}{s:au}
def Zp{h0:aT}{B:Nat}{l:aq}{vs:Array ak}{ns:List κ}{Q:ak->au->Prop}(hh:A.handled=aj)(D:uO prog w A.in1 h0 B κ)(hB:Kp h0 B s.heap)(J4:B<=s.heap.objs.size)(hl:s.heap.IsTuple l vs)(bj:ns.length=vs.size)(hi:∀(i:Nat)(v:ak),vs[i]?=aa v->∃k,ns[i]?=aa k/\D.ok k v)(hb:vs.size+1<=76)
  (h:∀(h':aT)(tk:Nat),D.SI h' s.heap.objs.size (once ns)->(∀b o,b<s.heap.objs.size->s.heap.get? b=aa o->h'.get? b=aa o)->Q .none { s with heap:=h',toks:=tk }) :
  nV (aN prog w) A (.call (.builtin "set.__init__") ⟨[.ref s.heap.objs.size,.ref l],[]⟩) (wants Q E) { s with heap:=s.heap.push (gJ w) }:=by
 let hS:(s.heap.push (gJ w)).get? s.heap.objs.size=aa (gJ w):=dY _ rfl;let hT:Vc { s with heap:=s.heap.push (gJ w) } (.ref s.heap.objs.size) "set" := ⟨_,hS,rfl⟩
 refine codeAny_call_builtin pO.init.plain PySem.F.entry_set_init (PySem.check_set_init_1 hT ?_);let(ol,yN,kr,nl,Kk):=hl;let(af6,YM,af7,YV):=ol;simp only at kr Kk;subst kr Kk;let XI:(s.heap.push (gJ w)).get? l=aa { cls:=.type "tuple", dict:=YM,data:=.seq vs nl,slots:=YV }:=cv _ yN;let q1:=PySem.F.sub_tuple_set;let q2:=PySem.F.sub_tuple_frozenset;let q3:(uD "tuple" == uD "dict")=false:=by decide
 let mI:(s.heap.push (gJ w)).IsTuple l vs:=⟨_,XI,rfl,nl,rfl⟩;unfold Builtin.«set.__init__» noKeywords aa2;generalize WY:pyIter=PI
 wp_walk
 subst WY;refine IZ mI (aE (wpAny_runValue ?_));let Kv:l<s.heap.objs.size:=b8 yN;let z2:(s.heap.push (gJ w)).objs.size=s.heap.objs.size+1:=ka _ _;let cj:l≠(s.heap.push (gJ w)).objs.size:=eG (by rw[z2];exact pK Kv);let hf:s.heap.objs.size∉[(s.heap.push (gJ w)).objs.size,l]:=by
  simp only[bN,iB,or_false,not_or];exact(eG (by rw[z2];exact BC _),j8 Kv)
 let WR:∀b∈[s.heap.objs.size,(s.heap.push (gJ w)).objs.size],B<=b:=by
  intro b hb;rw[z2]at hb;simp at hb;lia
 refine ZU D ((Walks.tuple (by simp[hh]) _ l cj vs).toS) s.heap.objs.size hf WR bj hi hb (vs.size-0) 0 _ () (ft _) ⟨⟨_,dY _ rfl,rfl,rfl⟩,(mI.push _)⟩ ?_ ?_ ?_
 .exact λb o e1 e2=>cv _ (cv _ (hB b o e1 e2))
 .exact D.new (cv _ hS)
 intro s1 hm S1;let(h1,g1,d1,ZN,YU):=s1;let eg:g1=s.gens:=hm.gens;let ed:d1=s.drawn:=hm.drawn;let eo:YU=s.os:=hm.os;subst eg ed eo;show aG _ _ _ _ _ _;refine aX ?_;show aG _ _ (ret gA) _ _ _;refine aX (h h1 ZN S1 λb o hb e=>?_);refine hm.heap b o ?_ (cv _ (cv _ e));simp only[bN,iB,or_false,not_or];exact(eG hb,eG (by rw[z2];exact pK hb))
end
section
variable{prog:Program}{w:aY}{κ:Type}[DecidableEq κ]{A:bb}{E:ak->au->Prop}{s:au}
def Jv{h0:aT}{B:Nat}{l:aq}{vs:Array ak}{ns:List κ}{Q:ak->au->Prop}(hh:A.handled=aj)(D:∀A':bb,A'.units<=A.units+10->uO prog w A' h0 B κ)(W0:∀A1 q1 A2 q2,(D A1 q1).SI=(D A2 q2).SI)(hB:Kp h0 B s.heap)(J4:B<=s.heap.objs.size)(hl:s.heap.IsTuple l vs)(bj:ns.length=vs.size)(hi:∀A' q (i:Nat) (v:ak),vs[i]?=aa v->∃k,ns[i]?=aa k/\(D A' q).ok k v)(hb:vs.size+1<=76)
  (h:∀(h':aT)(tk:Nat),(D A ()).SI h' s.heap.objs.size (once ns)->(∀b o,b<s.heap.objs.size->s.heap.get? b=aa o->h'.get? b=aa o)->Q (.ref s.heap.objs.size) { s with heap:=h',toks:=tk }) :
  aG (aN prog w) A (call (.type "set") [.ref l]) Q E s:=by
 let(c,tl,ac8):=pO.mro;let ac7:=pO.made;let g9:=pO.sub;let h1:=pO.notType;let h2:=pO.canCreate;let hct:=PySem.F.typeCall_set_1 (.ref l);refine wpAny_call (Vz ?_);show aG _ _ (callAny (.type "set") _) _ _ _;refine aX ⟨Code.quiet_builtin _ (by decide +kernel),BV PySem.F.entry_type_call ?_⟩;rw[Around.under_plain (weight_type_call_type "set" [.ref l] []) rfl]
 repeat (any_goals (first |assumption |wp_step))
 refine yf (Zq (.ref l) (E:=E) (Q:=λobj z=>obj=.ref s.heap.objs.size/\z={ s with heap:=s.heap.push (gJ w) }) ⟨rfl,rfl⟩) λr z hr=>?_
 cases r with
 |error e=>exact hr
 |ok fl=>
  cases fl with
  |ret obj=>
   let(rfl,rfl):=hr;let hS:(s.heap.push (gJ w)).get? s.heap.objs.size=aa (gJ w):=dY _ rfl;let hT:Vc { s with heap:=s.heap.push (gJ w) } (.ref s.heap.objs.size) "set" := ⟨_,hS,rfl⟩
   let Ky:=pO.init.lookup;let hbi:=pO.init.bind (.ref s.heap.objs.size)
   repeat (any_goals (first |assumption |wp_step))
   refine yf (Zp (E:=E) (Q:=λr z=>r=.none/\∃h' tk,z={ s with heap:=h',toks:=tk }/\(D A ()).SI h' s.heap.objs.size (once ns)/\(∀b o,b<s.heap.objs.size->s.heap.get? b=aa o->h'.get? b=aa o)) ?_ (D _ ?_) hB J4 hl bj (hi _ _) hb λh' tk a1 a2=>⟨rfl,h',tk,rfl,?_,a2⟩) λr2 z2 Dm=>?_
   .simp[hh]
   .simp
   .exact Eq.mp (congrFun (congrFun (congrFun (W0 _ _ A ()) h') s.heap.objs.size) (once ns)) a1
   .cases r2 with
    |error e=>exact Dm
    |ok Wy=>
     cases Wy with
     |ret r=>
      let(rfl,h',tk,rfl,a1,a2):=Dm
      repeat (any_goals (first |assumption |wp_step))
      exact h _ _ a1 a2
     |_=>exact Dm.elim
  |_=>exact hr.elim
end
section
variable{prog:Program}{w:aY}{K:Type}[DecidableEq K]
abbrev V8(knd:KeyKind prog w K)(A:bb)(h0:aT)(B:Nat):uO prog w A h0 B K where
 SI:=p_ knd
 ok:=λk v=>knd.is k v=true/\v.scannable=true
 kept:=λh e=>h.kept e
 new:=λh=>⟨_,_,_,_,h,⟨rfl,rfl,rfl⟩,rfl,iG.fresh⟩
 add:=λ{s Q E a ks k v} hk hK hS hr h=>by
  unfold setAdd;refine kc (aE (knd.pyHash (k:=k) hk.1 ?_));exact Zn (s:={ s with toks:=s.toks+1 }) hk.1 hk.2 hS (by unfold B2;lia) λh' b lC S2=>h h' b _ (Nat.le_succ _) lC S2
abbrev V9(knd:KeyKind prog w K)(A:bb)(hu:A.units+1<c8)(h0:aT)(B:Nat):uO prog w A h0 B (List K) where
 SI:=rY knd h0 B
 ok:=λk v=>∃b,v=.ref b/\b<B/\kb knd h0 k b
 kept:=λ{h h' a ks} hS e=>by
  let(o,es,ep,t,ho,r):=hS;exact(o,es,ep,t,e o ho,r)
 new:=λh=>⟨_,_,_,_,h,⟨rfl,rfl,rfl⟩,rfl,iH.fresh⟩
 add:=λ{s Q E a ks k v} hk hK hS hr h=>by
  let(b,rfl,hb,sE):=hk;unfold setAdd;refine kc (aE (wpAny_pyHash_tuple hu (hK.key hb sE) ?_));exact Zo (s:={ s with toks:=s.toks+(k.length+1) }) hu hK hb sE hS hr λh' r lC S2=>h h' r _ (Nat.le_add_right _ _) lC S2
end
end HT
namespace OR
open PySem L2 PySem.SeqAt PyProof.Rows
abbrev oA:PV->Key
 |.str cs=>.inr ⟨cs.toArray⟩
 |_=>.inl 0
abbrev wb:PV->List Key
 |.af xs=>xs.map oA
 |_=>[]
def Qo{x y:PV}(hx:iT x=true)(hy:iT y=true)(h:oA x=oA y):x=y:=by
 cases x<;>first |(cases hx;done)|skip
 cases y<;>first |(cases hy;done)|skip
 rename_i a b
 let h:(n4 ⟨a.toArray⟩:Key)=n4 ⟨b.toArray⟩:=h;injection h with h;injection h with h;let:a=b:=by simpa using congrArg pB h
 rw[this]
def Pd:∀{xs ys:List PV},xs.all iT=true->ys.all iT=true->xs.map oA=ys.map oA->xs=ys
 |[],[],_,_,_=>rfl
 |[],_::_,_,_,h=>by cases h
 |_::_,[],_,_,h=>by cases h
 | x::r,y::q,h1,h2,h=>by
  rw[ff,bP]at h1 h2;rw[bJ,bJ]at h;injection h with e1 e2;rw[Qo h1.1 h2.1 e1,Pd h1.2 h2.2 e2]
def yF5{x y:PV}(hx:nc x=true)(hy:nc y=true)(h:wb x=wb y):x=y:=by
 cases x<;>first |(cases hx;done)|skip
 cases y<;>first |(cases hy;done)|skip
 exact congrArg PV.af (Pd hx hy h)
def Fj{K:aQ}{H:Hp}{lv:aq->Prop}:∀{xs:List PV}{vs:List V},xs.all iT=true->aC K H lv xs vs->vs=(xs.map oA).map kV
 |[],vs,_,h=>by rw[aC]at h;exact h
 | x::r,vs,hx,h=>by
  rw[ff,bP]at hx;rw[aC]at h;let(v,vr,rfl,h1,h2):=h;cases x<;>first |(cases hx.1;done)|skip
  rw[RP]at h1;rw[bJ,bJ,<-Fj hx.2 h2,h1.1];rfl
def Pp{κ U':Type}[DecidableEq κ][DecidableEq U'](f:κ->U'):∀(r:List κ),(∀x∈r,∀y∈r,f x=f y->x=y)->HT.once (r.reverse.map f)=(HT.once r.reverse).map f
 |[],_=>rfl
 | k::r,inj=>by
  let ih:=Pp f r λx hx y hy=>inj x (b5 _ hx) y (b5 _ hy);rw[nN,kQ,bJ,eD,HT.sP,HT.sP,ih,HT.gW,HT.gW];let hm:f k∈(HT.once r.reverse).map f↔k∈HT.once r.reverse:=by
   constructor
   .intro h;let(x,hx,e):=bK.mp h;let Yb:x∈r:=by simpa using(HT.YO _ _).mp hx
    rw[<-inj x (b5 _ Yb) k gy e];exact hx
   .exact λh=>pH h
  by_cases c:k∈HT.once r.reverse
  .rw[if_pos c,if_pos (hm.mpr c)]
  .rw[if_neg c,if_neg (λh=>c (hm.mp h)),kQ];rfl
def Rn{U':Type}[DecidableEq U'](f:PV->U')(l:List PV)(inj:∀x∈l,∀y∈l,f x=f y->x=y):(HT.once (l.map f)).length=(fb l).length:=by
 let:=Pp f l.reverse λx hx y hy=>inj x (by simpa using hx) y (by simpa using hy);rw[HG]at this;rw[this,cy];rfl
variable{w:aY}
def yF3{P:Program}{knd:U2 P w Key}{ks:List Key}{vs:List ak}(h:ItemsAre knd ks vs):∀{i:Nat}{v:ak},vs[i]?=aa v->∃k,ks[i]?=aa k/\knd.is k v=true:=by
 induction h with
 |nil=>intro i v e;simp at e
 |@cons k u ks vs h1 h2 ih=>
  intro i v e;cases i with
  |zero=>
   simp at e;subst e;exact(k,rfl,h1)
  |succ i=>exact ih (by simpa using e)
variable{ir:E}
section
variable{X:Cx}{C:a8}{e:Expr}{ie:E}{pos p dn p':aU}
def af2:cw X (binaryOp .Mult) EO:=by
 rintro ae s Z H x y v u Q I rx ry ⟨O,st,px,py,z,r,hx,hy,hz,q⟩;cases px<;>cases py<;>simp only[EO,l_,reduceCtorEq,fW]at hz
 rename_i a n
 obtain⟨⟨h0,h1,h2,h3⟩,hz⟩:=hz;let(l1,vs,rfl,mI,mJ):=hx.af;let e2:=hy.int;subst e2;cases rx;let(t2,rfl):=ry;let(aw,nn,sl,r1,oz,ho):=Fy I mI;let q1:=r1.length;let q2:=mJ.length;let ty:∀s':au,s'.TypeIs (mh n t2) "int" := λs'=>IT s' n t2;let inner:aG (aN X.prog X.w) X.A (call (.builtin "tuple.__mul__") [.ref l1,.int n t2]) (EP X ae Z Q) X.xe s:=by
  refine call_meets Ij ⟨_,ho,rfl⟩ F.entry_tuple_mul (F.args_tuple_mul_2 _ _) (DP l1 aw.toArray nn n t2 aj sl h0 h1 (by rw[cV];lia) (by rw[cV];lia)) ⟨ho,?_⟩;rw[Q2];let hf:=I.fresh;let s1:bt H (upd H s.heap.objs.size (.af (cG n.toNat vs).flatten)):=fB hf _;let yI:(cG n.toNat vs).flatten.length<=a9:=by
   rw[RI,<-q2];let e:a.length*n.toNat<=1000*1000:=Nat.mul_le_mul h3 ();exact df e (by decide)
  refine(.ref _,_,I.laid (t':=s.toks) (o:=.af (cG n.toNat vs).flatten) (λb ob q=>cv _ q) (bF _) ?_,rfl,q _ _ s1 ?_)
  .exact(yI,_,F6 r1 n.toNat,lX.new _ _)
  .rw[<-hz,RP];exact(_,_,rfl,bR.of dZ,Gp ((bD.of_same r s1).cE mJ) n.toNat)
 exact VL (T := "tuple") (U := "int") (by decide) ⟨_,ho,rfl⟩ ty zD6 UR BL zW8
  UU.lookup (call_meets BL (ty s) UM (UI _ _) (xR1 n t2 l1 aw.toArray nn aj sl) ⟨ho,rfl,⟨_,ho,rfl⟩,inner⟩)
def yG6(hc:X.calm=true)(hu:X.A.units+200<c8)(ae:List (aq×aV))(s:au)(Z:L2.St)(H:Hp)(ws:List V)(us:List ak)(Q:VK)(I:Inv X ae Z H s)(rs:ba ws us)
  (h:∃O st xs z,bu X.K O st H/\cn (RW X.K O st H) xs ws/\f1 rj xs=aa z/\∀w H',bt H H'->RP X.K H' (aP O st) z w->Q w H') :
  aG (aN X.prog X.w) X.A (call (.type "set") us) (λu s1=>aG (aN X.prog X.w) X.A (call (.builtin "len") [u]) (EP X ae Z Q) X.xe s1) X.xe s:=by
 let(O,st,xs,z,r,pr,hz,q):=h;cases pr with
 |nil=>cases hz
 |cons h t=>
  cases t with
  |cons _ _=>cases hz
  |nil=>
   rename_i x w
   cases x with
   |af l=>
    let hz:rj (.af l)=aa z:=hz;simp only[rj,l_,fW]at hz;obtain⟨⟨hl,hk⟩,hz⟩:=hz;let(a,vs,rfl,h1,h2):=h.af;cases rs with
    |cons ra rt=>
     cases rt;obtain rfl:=(show _=b9 a from ra);let(aw,nn,sl,r1,oz,ho):=Fy I h1;let q1:=r1.length;let q2:=h2.length;let hh:=I.ok.hd hc;let ht:s.heap.IsTuple a aw.toArray:=⟨_,ho,rfl,nn,rfl⟩
     let fin:∀(h':aT)(tk:Nat){o:aV}{es:Array (Int×ak)}{ep:Nat}{t:dF},h'.get? s.heap.objs.size=aa o->o.ExactSet->o.data=.set es ep t->t.fits es.size=true->es.size=(fb l).length->(∀b o,b<s.heap.objs.size->s.heap.get? b=aa o->h'.get? b=aa o) ->
       aG (aN X.prog X.w) X.A (call (.builtin "len") [.ref s.heap.objs.size]) (EP X ae Z Q) X.xe { s with heap:=h',toks:=tk }:=by
      intro h' tk o es ep t g1 g2 g3 g4 g5 g6;let hle:(fb l).length<=l.length:=HT.LZ l;refine call_len_set (s:={ s with heap:=h',toks:=tk }) g1 g2 g3 g4 (by rw[g5];lia) ?_
      refine(.int (es.size:Nat),H,I.kept (t':=tk+1+1) λb ob e=>g6 b ob (b8 e) e,⟨_,rfl⟩,q _ _ (bt.refl H) ?_);rw[<-hz,g5,RP]
     rcases hk with hk |hk
     .let ev:=Fj hk h2;subst ev;let Xp:=Bg (P:=X.prog) (w:=X.w) r1;refine HT.Jv (h0:=s.heap) (B:=s.heap.objs.size) (ns:=l.map oA) hh (λA' _=>HT.V8 (gp X.prog X.w) A' _ _) (λ_ _ _ _=>rfl) (λ_ _ _ e=>e) (bF _) ht (by simp;lia) (λA' qq i v hv=>?_) (by simp;lia) λh' tk S1 k1=>?_
      .let(k,e1,e2):=yF3 Xp (i:=i) (v:=v) (by simpa using hv);refine(k,e1,e2,?_);rcases lR e2 with⟨_,_,_,e⟩|⟨_,_,_,e⟩<;>subst e<;>rfl
      .let(o,es,ep,t,g1,g2,g3,T):=S1;refine fin h' tk g1 g2 g3 T.fits (T.len.trans (Rn oA l λx hx y hy e=>Qo (c_.mp hk x hx) (c_.mp hk y hy) e)) k1
     .refine HT.Jv (h0:=s.heap) (B:=s.heap.objs.size) (ns:=l.map wb) hh (λA' hA=>HT.V9 (gp X.prog X.w) A' () _ _) (λ_ _ _ _=>rfl) (λ_ _ _ e=>e) (bF _) ht (by simp;lia) (λA' qq i v hv=>?_) (by simp;lia) λh' tk S1 k1=>?_
      .let hv:aw[i]?=aa v:=by simpa using hv
       let vi:i<aw.length:=(dU.mp hv).1;obtain⟨x,hx⟩:∃x,l[i]?=aa x:=⟨_,bY ()⟩;let(u,gI,iM):=h2.get hx;let(v',yU,Dy):=r1.get gI;rw[hv]at yU;cases yU;let Ku:=c_.mp hk x (eE hx);refine(wb x,by rw[eC,hx];rfl,?_);cases x<;>first |(cases Ku;done)|skip
       rename_i ys
       rw[RP]at iM;let(b,bs,rfl,b1,b2):=iM;obtain rfl:v=b9 b:=Dy;let(eI,n2,mT,r2,_,dk):=Fy I b1;let ev:=Fj Ku b2;subst ev;exact(b,rfl,b8 dk,_,eI.toArray,n2,dk,rfl,rfl,Bg r2)
      .let(o,es,ep,t,g1,g2,g3,T):=S1;refine fin h' tk g1 g2 g3 T.fits (T.len.trans (Rn wb l λx hx y hy e=>yF5 (c_.mp hk x hx) (c_.mp hk y hy) e)) k1
   |_=>cases hz
def yy7{bx:List E}(hc:X.calm=true)(hu:X.A.units+200<c8)(hi:∀env st,az C ir env st=(fG C bx env st).bind λvs st=>cM (f1 rj) vs st)(hg:Gl X "len")(hm:X.mg "len" = aj)(qj:Gl X "set")(gZ:X.mg "set" = aj)(ha:SA X C [e] bx)
  (he:bA [e] X.env=(false,eval e X.env)::bA [] X.env) (dH:(dW dn (bA [] X.env)).any (·.1)=false)
  (C1:bA [.Call (.Name "set" p') [e] [] dn] X.env=(false,eval (.Call (.Name "set" p') [e] [] dn) X.env)::bA [] X.env) (XQ:(dW pos (bA [] X.env)).any (·.1)=false) :
  SE X C (.Call (.Name "len" p) [.Call (.Name "set" p') [e] [] dn] [] pos) ir:=by
 let key:PE X (.Call (.Name "len" p) [.Call (.Name "set" p') [e] [] dn] [] pos) (zA (λws H Q=>∃O st xs z,bu X.K O st H/\cn (RW X.K O st H) xs ws/\f1 rj xs=aa z/\∀w H',bt H H'->RP X.K H' (aP O st) z w->Q w H') (D9 X.K C bx)):=by
  intro ae s Z H Q I h;refine p6 (oR I hg hm (u:=.builtin "len") rfl ?_ (by decide) (by decide));refine T9 ?_ C1 XQ;rw[C1];show aG _ _ (spliced ((false,eval (.Call (.Name "set" p') [e] [] dn) X.env)::dW pos (bA [] X.env))) _ _ s;refine Up ?_;refine p6 (oR I qj gZ (u:=.type "set") rfl ?_ (by decide) (by decide));refine xW (bf (ha dn ae s Z H _ I h) λus s1 h_=>?_) he dH;let(vs,H1,I1,r1,q1):=h_;refine bf (yG6 hc hu ae s1 Z H1 vs us Q I1 r1 q1) λu s2 h2=>?_;exact Uq h2
 exact PE.mono key λ_ _ _ h=>FO hi h
end
section
variable{X:Cx}{bU iter tg:Expr}{ifs:List Expr}{scope:cB}{pos:aU}{N:List Str}{bc:List Nat}{n:Nat}{wi:TI}{g:TG}{tc:TT}{te:TE}
end
section
variable{X:Cx}{C:a8}{W:Nat}{bU iter tg:Expr}{ifs:List Expr}{dj:E}{it:It}{t:Tg}{scope:cB}{pos:aU}{N:List Str}{bc:List Nat}{n:Nat}
end
section
variable{X:Cx}{bU iter tg:Expr}{ifs:List Expr}{scope:cB}{pos:aU}{N:List Str}{bc:List Nat}{n:Nat}{wi:TI}{g:TG}{tc:TT}{te:TE}
structure Bl(X:Cx)(bU iter tg:Expr)(ifs:List Expr)(scope:cB)(N:List Str)(bc:List Nat)(n:Nat)(wi:TI)(g:TG)(tc:TT)(te:TE):Prop where
 CY:X.calm=true
 ok:PN X scope N bc n
 hi:PI X tg iter wi
 hg:∀cl s₀ H₀ ex pn,PG (jl X scope N cl s₀ H₀ ex pn) tg g
 ht:∀cl s₀ H₀ ex pn,rW (jl X scope N cl s₀ H₀ ex pn) ifs tc
 he:∀cl s₀ H₀ ex pn,PE (jl X scope N cl s₀ H₀ ex pn) bU te
 hs:∀x,BW iter X.env x=pure x
def RE{use:Option (ak->fh Unit)}{Q':ak->au->Prop}{p0:aU}{ae:List (aq×aV)}{s:au}{Z:L2.St}{H:Hp}{Q:VK}(B:Bl X bU iter tg ifs scope N bc n wi g tc te)(I:Inv X ae Z H s)(h:qI X.K bc n wi g tc te Z H Q)
  (fin:∀{cl s3 H3 fp D H5 s6 σ5 r},Inv X ae Z H3 s3->Inv (jl X scope N cl s3 H3 fp (X.pn++ae)) [] σ5 H5 s6->(∀b∈fp,hG X ae H3 b)->Q (.ref D) H5->compPost (aN X.prog X.w) X.A X.xe use Q' (.ref D) s3.heap.objs.size (.ok r) s6) :
  aG (aN X.prog X.w) X.A (comprehension (.ListComp bU [⟨tg,iter,ifs,0⟩] scope pos) scope X.env p0 (newList []) false (eval iter X.env) use) Q' X.xe s:=by
 let(CY,ok,hi,hg,ht,he,hs):=B;let W_:∀x∈scope.names,x.2=.free->∃c,X.env.cells.lookup x.1=aa c:=λx hx hf=>I.ok.has x.1 (ok.free x hx hf);let(Cw,Xc,CZ,Xb):=yj3 W_;refine wpAny_comprehension_free rfl hs Xc ok.kind ok.names (bf (hi ae s Z H _ I h) λxv s1 h1=>bf h1 λDE s2 h2=>?_);let(it,fp,tn,J,H2,rfl,I2,T,aI,f2,q2):=h2;let WW:X.K.lookup s2.heap.objs.size=aj:=by
  cases e:X.K.lookup s2.heap.objs.size with
  |none=>rfl
  |some o=>exact absurd (b8 (I2.eA _ _ e)) (kW _)
 obtain⟨W,⟨m0,w0⟩,turn⟩:=q2 s2.heap.objs.size I2.fresh WW;refine p7 ?_;let I3:Inv X ae Z (upd H2 s2.heap.objs.size (.ai [])) { s2 with heap:=s2.heap.push { cls:=.type "list", data:=.seq ([]:List ak).toArray },toks:=s2.toks }:=I2.yY .nil (by decide)
 generalize hD:s2.heap.objs.size=D at *
 generalize KP:({ s2 with heap:=s2.heap.push { cls:=.type "list", data:=.seq ([]:List ak).toArray },toks:=s2.toks }:au)=s3 at I3;refine yY9 ?_;let hsz:(s3.heap.push { cls:=.type "dict", data:=.dict #[] }).objs.size=s3.heap.objs.size+1:=ka _ _;let YN:∀x c,X.env.cells.lookup x=aa c->c<s3.heap.objs.size:=λx c e=>(I3.cell x c e).elim λ_ z=>z.lt;let DT:∀x c,Cw.lookup x=aa c->c<s3.heap.objs.size:=λx c e=>YN x c (CZ x c e)
 let DN:=FQ (s3.heap.objs.size+1) scope.names (s3.heap.push { cls:=.type "dict", data:=.dict #[] }) Cw (by rw[hsz];exact bF _)
  (λx c e=>by rw[hsz];exact pK (DT x c e)) (λx _ c e _ qg=>absurd (DT x c e) (HN.mpr (HK qg))) (λx c e qg=>absurd (DT x c e) (HN.mpr (HK qg)))
 rw[hsz]at DN;generalize ac5:jz (s3.heap.objs.size+1) scope.names Cw=cl at DN;let(x1,x2,x3,x4,x5,x6):=DN;generalize Ko:B0 (s3.heap.push { cls:=.type "dict", data:=.dict #[] }) scope.names=h1 at x2;let lB:h1.Ns s3.heap.objs.size (λ_=>aj):=by rw[<-Ko];exact(Heap.Ns.new s3.heap (.type "dict")).keeps (VC _ _)
 let kr:∀x c,cl.lookup x=aa c->X.env.cells.lookup x=aa c\/(s3.heap.objs.size<c/\h1.IsCell c aj):=λx c e=>by
  rcases x3 x c e with z |z
  .exact .inr ⟨z,x2 x c e z⟩
  .exact .inl (CZ x c z)
 let vj:∀x y c,cl.lookup x=aa c->cl.lookup y=aa c->x=y:=λx y c e1 e2=>by
  by_cases hc:s3.heap.objs.size+1<=c
  .exact x1 x y c e1 e2 hc
  .rcases kr x c e1 with z1 |z1
   .rcases kr y c e2 with z2 |z2
    .exact I3.ok.inj x y c z1 z2
    .exact absurd z2.1 hc
   .exact absurd z1.1 hc
 let yD:∀x,(pY scope cl s3.heap.objs.size X.env).kindOf x=aa .cell\/(pY scope cl s3.heap.objs.size X.env).kindOf x=aa .free->∃c,cl.lookup x=aa c:=λx hx=>by
  rcases ok.back x hx with z |z
  .exact x5 x (.inr (Xb (x,.free) z rfl))
  .exact x5 x (.inl z)
 let e3:s3.heap.objs.size=D+1:=by rw[<-KP,<-hD];exact ka _ _
 let og:∀b o,s3.heap.get? b=aa o->h1.get? b=aa o:=λb o e=>by rw[<-Ko];exact VC _ _ b o (cv _ e)
 let WK:∀b o,s2.heap.get? b=aa o->s3.heap.get? b=aa o:=λb o e=>by rw[<-KP];exact cv _ e
 let yE:∀b∈fp,b<D:=λb hb=>by
  let(o,e,_):=T.obj 0 _ aI b hb;rw[<-hD];exact b8 e
 let f3:∀b∈fp,hG X ae (upd H2 D (.ai [])) b:=λb hb=>⟨by rw[cL (eG (yE b hb))];exact(f2 b hb).1,(f2 b hb).2⟩;let kX:∀x,X.env.kindOf x=X.env.scope.names.lookup x:=λx=>rfl;let I4:Inv (jl X scope N cl s3 (upd H2 D (.ai [])) fp (X.pn++ae)) [] (n8 bc n Z) (upd H2 D (.ai [])) { s3 with heap:=h1 }:=by
  refine yp2 I3 ok.kind kr vj (λx c hx e=>HK (x6 x c hx e)) yD f3 (λb hb=>by rw[e3];exact pK (yE b hb)) lB og ?_ (λj x v e1 e2=>?_)
  .unfold n8;rw[cA,cy,Ta,ok.len]
  .let hj:j<bc.length:=by
    by_cases hj:j<bc.length
    .exact hj
    .unfold n8 at e2;rw[uo (by simpa using hj),Bu]at e2;split at e2<;>cases e2
   unfold n8 at e2;rw[jv (by simpa using hj),eC,bY hj]at e2;let(x',a1,a2,a3):=ok.Wg j bc[j] (bY hj);rw[e1]at a1;cases a1;let fr:=ok.free (x,.free) (w6 a3) rfl;let(k,b1,b2):=ok.look x a3;refine(bc[j],a2,?_,fr,?_,?_,λc ec=>?_)
   .let e2:(Z[bc[j]]?).join=aa v:=dE e2;cases hσ:Z[bc[j]]? with
    |none=>rw[hσ]at e2;cases e2
    |some o=>rw[hσ]at e2;exact congrArg aa e2
   .rcases b2 with rfl |rfl
    .exact .inl b1
    .exact .inr b1
   .rcases fr with z |z
    .exact .inr (.inl z)
    .exact .inr (.inr z)
   .rw[x4 x (ok.fc x (w6 a3))]at ec;exact CZ x c ec
 let CH:∀{H':Hp},(∀b∈fp,H' b=aj)->∀b∈fp,hG (jl X scope N cl s3 (upd H2 D (.ai [])) fp (X.pn++ae)) [] H' b:=λ{H'} hn b hb=>by
  let(f0,f1,Wv,f3',f4,f5):=f3 b hb;refine(hn b hb,eG (show b<s3.heap.objs.size by rw[e3];exact pK (yE b hb)),λz=>?_,.inl hb,λx c e=>(kr x c e).elim (f4 x c) λz=>j8 (ux (show b<s3.heap.objs.size by rw[e3];exact pK (yE b hb)) z.1),λp hp=>f5 p (by let hp:p∈(X.pn++ae)++[]:=hp;rwa [lZ]at hp));rcases bN.mp (I3.zu _ z)with e |e
  .exact f1 e
  .exact Wv e
 let d6:tn 0 h1:=T.keep 0 _ _ aI λb _ o e=>og b o (WK b o e)
 let loop:∀s4:au,s4={ s3 with heap:=h1 }->nV (aN X.prog X.w) X.A (.compLoop (.ListComp bU [⟨tg,iter,ifs,0⟩] scope pos) 0 (.ref it) (.ref D) (pY scope cl s3.heap.objs.size X.env))
   (compPost (aN X.prog X.w) X.A X.xe use Q' (.ref D) s3.heap.objs.size) s4:=by
  rintro s4 rfl;refine yp3 (λm s'=>∃i Z' H' ys,Inv (jl X scope N cl s3 (upd H2 D (.ai [])) fp (X.pn++ae)) [] Z' H' s'/\tn i s'.heap/\(∀b∈fp,H' b=aj)/\W i m Z' H' ys) ?_ m0 ⟨0,_,_,[],I4,d6,λb hb=>(f3 b hb).1,w0⟩;rintro m s5 ⟨i,σ5,H5,ys,I5,jM,yy,w5⟩;let(jG,tu):=turn i m σ5 H5 ys w5;rcases tu with⟨stop,qn⟩|⟨go,hz,step⟩
  .refine bf (T.done (jl X scope N cl s3 (upd H2 D (.ai [])) fp (X.pn++ae)) rfl rfl rfl CY i [] s5 σ5 H5 (λ_ _=>False) I5 (CH yy) jM stop) λr s6 h_=>?_
   let(hr,I6):=h_;subst hr;exact fin I3 I6 f3 qn
  .refine bf (T.item (jl X scope N cl s3 (upd H2 D (.ai [])) fp (X.pn++ae)) rfl rfl rfl CY i [] s5 σ5 H5 (λ_ _=>False) I5 (CH yy) jM go) λr s6 h_=>?_;let(u,hr,h6):=h_;subst hr;refine bf h6 λ_ s7 h_=>?_;let(x,H7,I7,r7,y7,oI,yz):=h_;let V0:=I7.pinned (CH yz) (T.obj _ _ oI);refine bf (hg _ _ _ _ _ _ s7 σ5 H7 x u _ V0 r7 (step x H7 y7)) λ_ s8 h_=>?_;let(σ8,H8,I8,q8):=h_;refine bf (ht _ _ _ _ _ _ s8 σ8 H8 _ I8 q8) λb s9 h_=>?_;let(H9,I9,q9):=h_;let zh:∀{σ7:L2.St}{Hx:Hp}{sx:au},Inv (jl X scope N cl s3 (upd H2 D (.ai [])) fp (X.pn++ae)) ([]++wR fp s7.heap) σ7 Hx sx->tn (i+1) sx.heap/\∀b∈fp,Hx b=aj:=λIx=>by
    refine(T.keep _ _ _ oI λb hb o e=>(Ix.pin (b,o) (kR _ (kR _ (Ba hb e)))).1,λb hb=>?_);let(o,e,d):=T.obj _ _ oI b hb;exact(Ix.pin (b,o) (kR _ (kR _ (Ba hb e)))).2.1
   cases b with
   |false=>
    let(m',hm,w9):=q9;exact(m',hm,i+1,σ8,H9,ys,I9.vX,(zh I9).1,(zh I9).2,w9)
   |true=>
    refine bf (he _ _ _ _ _ _ s9 σ8 H9 _ I9 q9) λyv sQ h_=>?_;let(y,Jb,VY,Y3,WT,m',hm,ZW):=h_;refine bf (RT _ sQ σ8 Jb (.ref D) [y] (.ref D) [yv] (λv Hx=>v=.aL/\Hx=upd Jb D (.ai (ys++[y]))) VY rfl (.cons Y3 .nil) ⟨D,ys,y,rfl,rfl,WT,hz,rfl,rfl⟩) λ_ s11 h_=>?_;let(_,H11,B_,_,_,Wo):=h_;subst Wo;exact(m',hm,i+1,σ8,_,ys++[y],B_.vX,(zh B_).1,(zh B_).2,ZW)
 exact codeAny_compStart_list (loop _ rfl) (T.self _ 0 _ _ _ d6 (loop _ rfl))
def yH9(B:Bl X bU iter tg ifs scope N bc n wi g tc te):PE X (.ListComp bU [⟨tg,iter,ifs,0⟩] scope pos) (qI X.K bc n wi g tc te):=by
 intro ae s Z H Q I h;rw[eval_ListComp];refine RE B I h λ{cl s3 H3 fp D H5 s6 σ5 r} I3 I6 f3 qn=>?_;let(mm,yJ,_):=I6.loc;exact(mm,yJ,λh' gH=>⟨.ref D,H5,Q0 I3 I6 gH f3,rfl,qn⟩)
def xb2{i:Nat}{y:Str}{py vT:aU}(hN:X.N.Nodup)(DA:X.N[i]?=aa y)(sH:X.env.scope.names.lookup y=aa .local)(B:Bl X bU iter tg ifs scope N bc n wi g tc te)
  (Du:pZ (.ListComp bU [⟨tg,iter,ifs,0⟩] scope pos) (aa (.Name y py)) vT.line X.env=pure true):PS X (.Assign [.Name y py] (.ListComp bU [⟨tg,iter,ifs,0⟩] scope pos) vT) (qw (qI X.K bc n wi g tc te) (E8 i)):=by
 intro ae s Z H Dn I h;rw[exec_Assign_Name_used _ _ _ _ Du];refine aE (I0 (aE ?_));show aG _ X.A (do let _ <-comprehension (.ListComp bU [⟨tg,iter,ifs,0⟩] scope pos) scope X.env _ (newList []) false (eval iter X.env) (aa (assign (.Name y py) X.env))) _ _ s
 refine aE (bf (RE (Q':=λ_ s'=>∃Z' H',Inv X ae Z' H' s'/\Dn.nx Z' H') B I h λ{cl s3 H3 fp D H5 s6 σ5 r} I3 I6 f3 qn=>?_) λ_ s' hq=>aX (aX hq));let(mm,yJ,_):=I6.loc;let IX:Inv X ae Z H5 s6:=Q0 I3 I6 (Il _ _) f3;refine VJ (R4 IX hN DA (.inl sH) (v:=.ref D) (u:=.ref D) rfl (λs7 I7 ⟨a7,XW,W4⟩=>?_) (.inr sH));let WS:∀{o:aV},s3.heap.get? s3.heap.objs.size=aa o->False:=λe=>absurd (b8 e) (kW _);let DH:X.env.locals<s3.heap.objs.size:=by
  obtain⟨m3,⟨o3,_,_,sf,_⟩,_⟩:=I3.loc;exact b8 sf
 let Jw:∀{x:Str}{c:aq},X.env.cells.lookup x=aa c->c<s3.heap.objs.size:=λ{x c} e=>by
  let(v3,o3,sf,_):=I3.cell x c e;exact b8 sf
 let cj:s3.heap.objs.size≠a7:=by
  rcases W4 with z |z
  .rw[z];exact j8 DH
  .exact j8 (Jw z)
 let yz:H5 s3.heap.objs.size=aj:=I6.free;refine(mm,yJ.sameBut XW cj,λh' gH=>⟨_,H5,?_,qn⟩);let oI:∀b o,b≠s3.heap.objs.size->s7.heap.get? b=aa o->h'.get? b=aa o:=λb o hb e=>(gH.2 b hb).trans e;refine I7.Ju (s':={ s7 with heap:=h' }) (ch:=[s3.heap.objs.size]) rfl ⟨λb o e n hb hx=>oI b o (by simpa using hx) e,λb o e n hb hx=>⟨o.slots,oI b o (by simpa using hx) e⟩,λb o e n hx=>n,λb o e hx=>⟨o,oI b o (by simpa using hx) e⟩,λ_ _ e=>e,λ_ _ _ e=>e,λ_ ps e=>⟨#[],by rw[Array.append_empty];exact e⟩⟩ (λb u e=>?_) I7.bare (λb hb=>?_)
 .refine(I7.aF b u e).mU (λc v hc q=>oI c v ?_ q) (λ_ q=>q) λ_ _ q=>q;rintro rfl;rcases hc with z |z
  .rw[<-z,yz]at e;cases e
  .rw[yz]at z;cases z
 .let eb:b=s3.heap.objs.size:=by simpa using hb
  subst eb;refine(.inr (df I3.ok.above (uw DH)),j8 DH,λx c e=>eG (Jw e),λp hp e=>?_);let KJ:=(I3.pin p hp).1;rw[e]at KJ;exact WS KJ
end
section
variable{X:Cx}{C:a8}{W:Nat}{bU iter tg:Expr}{ifs:List Expr}{dj:E}{it:It}{t:Tg}{scope:cB}{pos:aU}{N:List Str}{bc:List Nat}{n:Nat}{cond:Option E}
@[reducible] def Cg(X:Cx)(C:a8)(bU iter tg:Expr)(ifs:List Expr)(scope:cB)(N:List Str)(bc:List Nat)(n:Nat)(it:It)(t:Tg)(cond:Option E)(dj:E):Prop:=Bl X bU iter tg ifs scope N bc n (tI X.K C it) (tG X.K t) (oJ X.K C cond) (tP X.K C dj)
def yJ8(B:Cg X C bU iter tg ifs scope N bc n it t cond dj):SE X C (.ListComp bU [⟨tg,iter,ifs,0⟩] scope pos) (.comp false dj t it cond bc n):=PE.mono (yH9 B) λ_ _ _ h=>RF h
def QK{i:Nat}{y:Str}{py vT:aU}{e:E}(hr:∀{Z H Q},tP X.K C e Z H Q->qI X.K bc n (tI X.K C it) (tG X.K t) (oJ X.K C cond) (tP X.K C dj) Z H Q)(hN:X.N.Nodup)(DA:X.N[i]?=aa y)(sH:X.env.scope.names.lookup y=aa .local)(B:Cg X C bU iter tg ifs scope N bc n it t cond dj)
  (Du:pZ (.ListComp bU [⟨tg,iter,ifs,0⟩] scope pos) (aa (.Name y py)) vT.line X.env=pure true):SS X C W (.Assign [.Name y py] (.ListComp bU [⟨tg,iter,ifs,0⟩] scope pos) vT) (.set i e) :=
 PS.mono (xb2 hN DA sH B Du) λD Z H h_=>by
  let(env,O,st,fl,ao,aD,e,q):=h_;rw[Oc]at e;let(v,aA,e1,e):=ax.bE e;cases e;exact hr ⟨env,O,st,v,ao,aD,e1,λw H1 α1 x1 r1 v1=>q _ H1 α1 x1 ((aD.next x1 r1).set v1)⟩
end
section
variable{prog:Program}{w:aY}{A:bb}{E:ak->au->Prop}{s:au}
variable{K:Type}[DecidableEq K]{knd:KeyKind prog w K}
end
section
variable{prog:Program}{w:aY}{A:bb}{E:ak->au->Prop}{s:au}
end
section
variable{X:Cx}{ae:List (aq×aV)}{Z:L2.St}{H:Hp}{s:au}
end
section
variable{X:Cx}{C:a8}{e:Expr}{pos p:aU}{ta:TA}{ia:E}{fs:List (List Nat)}
end
abbrev ents(P:pR):List (List Nat×List Nat)->List (Nat×Nat)->List DictEntry
 |(k,v)::r,(t,u)::ts=>⟨PyData.keyHash P ⟨k.toArray⟩,.str ⟨k.toArray⟩ t,.str ⟨v.toArray⟩ u⟩::ents P r ts
 |_,_=>[]
def Ng(P:pR)(K:aQ)(a:aq)(l:List (List Nat×List Nat)):Prop:=∃o es ep ts,K.lookup a=aa o/\o.ExactDict/\o.data=.dict es ep/\es.toList=ents P l ts/\ts.length=l.length/\(l.map HX).Nodup/\(l.all λp=>decide (p.2.length<=1000))=true
section
variable{X:Cx}{C:a8}{b:Expr}{ib:E}{pos p:aU}{x:Str}{l:List (List Nat×List Nat)}
end
section
variable{X:Cx}
end
section
variable{X:Cx}{C:a8}{a b:Expr}{ia ib:E}{pos:aU}
end
section
variable{prog:Program}{w:aY}{A:bb}{E:ak->au->Prop}{s:au}{K:Type}[DecidableEq K]{knd:KeyKind prog w K}
end
section
variable{X:Cx}{ae:List (aq×aV)}{Z:L2.St}{H:Hp}{s:au}
end
section
variable{X:Cx}{C:a8}{e:Expr}{pos p:aU}{ta:TA}{ia:E}
end
open PySem.StrLaws
open PySem.Builtin PySem.Builtin.Str
abbrev jT(c:Nat):List Nat->Nat->List Nat
 |[],_=>[]
 |x::r,i=>if x=c then i::jT c r (i+1)else jT c r (i+1)
def Fg{c x:Nat}{r:List Nat}:([c].isPrefixOf (x::r)=true)↔x=c:=by
 show((c==x&&([]:List Nat).isPrefixOf r)=true)↔x=c;rw[List.isPrefixOf_nil_left,uh,beq_iff_eq];exact(Eq.symm,Eq.symm)
def Gj(cs:List Nat)(c:Nat):∀(n i:Nat)(f:Array Nat)(fr:Nat),i+n=cs.length->fr<=i->f.size<=i ->
  (forIn (xw i (n+1)) (f,fr) (occBody ⟨cs.toArray⟩ ⟨[c].toArray⟩ cs.length (cs.length+1))).run.fst.toList=f.toList++jT c (cs.drop i) i
 | 0,i,f,fr,h,hf,hs=>by
  let hd:cs.drop i=[]:=xy ();rw[Bk,rG,hd];unfold occBody;rw [if_neg (by
   rintro⟨⟨_,h2⟩,_⟩;let h2:i+1<=cs.length:=h2;lia)]
  simp[jT]
 | n+1,i,f,fr,h,hf,hs=>by
  rw[Bk,rG];let q:=wJ cs [c] i ();obtain⟨x,hc⟩:∃x,cs.drop i=x::cs.drop (i+1):=⟨cs[i],by rw[kO ()]⟩;rw[hc]at q ⊢;rw[Fg]at q;unfold occBody;by_cases hx:x=c
  .let yR:=q.mpr hx;rw[if_pos ⟨⟨⟨by show f.size<cs.length+1;lia,hf⟩,yR.1⟩,yR.2⟩];let ih:=Gj cs c n (i+1) (f.push i) (i+1) () (bF _) (by rw[Array.size_push];lia);unfold occBody at ih;rw[jT,if_pos hx];refine Hi ih ?_;simp
  .rw[if_neg (λhh=>hx (q.mp ⟨hh.1.2,hh.2⟩)),jT,if_neg hx];let ih:=Gj cs c n (i+1) f fr () () ();unfold occBody at ih;exact ih
def yZ4(cs:List Nat)(c:Nat):occurrences ⟨cs.toArray⟩ ⟨[c].toArray⟩ 0 (dJ ⟨cs.toArray⟩) (dJ ⟨cs.toArray⟩+1)=jT c cs 0:=by
 rw[occ_eq,dS];let:=Gj cs c cs.length 0 #[] 0 () (bF _) (bF _);rw[pF]at this;exact this
abbrev Nh(l:List Nat):List (List Nat)->List (List Nat)
 |p::ps=>(l++p)::ps
 |[]=>[l]
def Bj(c:Nat):∀a,c9 c a≠[]
 |[]=>by simp[c9]
 | x::r=>by
  rw[c9];split
  .simp
  .split<;>simp
def AL{cs:List Nat}{a i:Nat}:strSub ⟨cs.toArray⟩ a i=bp ((cs.drop a).take (i-a)):=by
 apply Str.ext';apply Array.toList_inj.mp;rw[strSub_toList];rfl
def G_(cs:List Nat)(c:Nat):∀(n i a:Nat),i+n=cs.length->a<=i->partsFrom ⟨cs.toArray⟩ 1 a (jT c (cs.drop i) i)=(Nh ((cs.drop a).take (i-a)) (c9 c (cs.drop i))).map bp
 | 0,i,a,h,ha=>by
  let hd:cs.drop i=[]:=xy ();rw[hd];show[strSub ⟨cs.toArray⟩ a (dJ ⟨cs.toArray⟩)]=[bp ((cs.drop a).take (i-a)++[])];rw[AL,dS,lZ,show i=cs.length by lia]
 | n+1,i,a,h,ha=>by
  obtain⟨x,hc⟩:∃x,cs.drop i=x::cs.drop (i+1):=⟨cs[i],by rw[kO ()]⟩;rw[hc,jT,c9];by_cases hx:x=c
  .rw[if_pos hx,if_pos hx];show strSub ⟨cs.toArray⟩ a i::partsFrom ⟨cs.toArray⟩ 1 (i+1) (jT c (cs.drop (i+1)) (i+1))=bp ((cs.drop a).take (i-a)++[])::(c9 c (cs.drop (i+1))).map bp;rw[G_ cs c n (i+1) (i+1) () (bF _),AL,lZ,TX,xO];cases hp:c9 c (cs.drop (i+1))with
   |nil=>exact absurd hp (Bj c _)
   |cons p ps=>rfl
  .rw[if_neg hx,if_neg hx,G_ cs c n (i+1) a () ()];let e:(cs.drop a).take (i+1-a)=(cs.drop a).take (i-a)++[x]:=by
    let ou:(cs.drop a)[i-a]?=aa x:=by
     rw[S4,show a+(i-a)=i by lia];let:=congrArg S6 hc;rw[Hv]at this;exact this
    rw[show i+1-a=(i-a)+1 by lia,BB,ou];rfl
   rw[e];cases hp:c9 c (cs.drop (i+1))with
   |nil=>exact absurd hp (Bj c _)
   |cons p ps=>simp[Nh]
def Gu{c:Nat}:∀{a:List Nat},c∉a->c9 c a=[a]
 |[],_=>rfl
 | x::r,h=>by
  rw[c9,if_neg (λe=>h (by simp[e])),Gu (λm=>h (by simp[m]))]
def PX{c:Nat}:∀{a:List Nat}{i:Nat},jT c a i=[]->c∉a
 |[],_,_=>by simp
 | x::r,i,h=>by
  rw[jT]at h;by_cases hx:x=c
  .rw[if_pos hx]at h;cases h
  .rw[if_neg hx]at h;simp only[bN,not_or];exact(λe=>hx e.symm,PX h)
def yX9{a:List Nat}{c:Nat}(h:xY ⟨a.toArray⟩<xY ⟨[c].toArray⟩):c∉a:=by
 intro m;unfold xY at h;let e1:∀k,(a.toArray.all (· < k))=true->c<k:=λk z=>by
  let:=Array.all_eq_true'.mp z c (by simpa using m);simpa using this
 let e2:∀k,([c].toArray.all (· < k))=decide (c<k):=λk=>by simp
 rw[e2,e2]at h;let a1:=e1 256;let a2:=e1 65536;revert h a1 a2;cases a.toArray.all (· < 256)<;>cases a.toArray.all (· < 65536)<;>by_cases h1:c<256<;>by_cases h2:c<65536<;>simp[h1,h2]
def R3(a:List Nat)(c:Nat):BR ⟨a.toArray⟩ ⟨[c].toArray⟩=(c9 c a).map bp:=by
 unfold BR;split
 .rename_i h
  rw[Gu]
  .rfl
  .rw[iX,decide_eq_true_eq,decide_eq_true_eq]at h;rcases h with h |h
   .rw[dS]at h;let h:a.length<1:=h;cases a with
    |nil=>simp
    |cons x r=>simp at h
   .exact yX9 h
 .rw[yZ4];split
  .rename_i h
   rw[Gu (PX (l4.mp h))];rfl
  .rw[partsBetween_eq];let:=G_ a c a.length 0 0 () (bF _);rw[pF]at this;refine Hi this ?_;cases hp:c9 c a with
   |nil=>exact absurd hp (Bj c _)
   |cons p ps=>rfl
def Rr(c:Nat):∀a:List Nat,(c9 c a).length<=a.length+1/\∀p∈c9 c a,p.length<=a.length
 |[]=>by simp[c9]
 | x::r=>by
  let(h1,h2):=Rr c r;rw[c9];split
  .refine(by simpa using h1,λp hp=>?_);rcases bN.mp hp with rfl |hp
   .simp
   .let:=h2 p hp;simp only[c6];lia
  .cases hq:c9 c r with
   |nil=>exact absurd hq (Bj c r)
   |cons p ps=>
    rw[hq]at h1 h2;refine(by simp only[c6]at h1 ⊢;lia,λy hy=>?_);rcases bN.mp hy with rfl |hy
    .let:=h2 p (by simp);simp only[c6];lia
    .let:=h2 y (b5 _ hy);simp only[c6];lia
def Gr{K:aQ}{H:Hp}{lv:aq->Prop}:∀{ls:List (List Nat)},(∀p∈ls,p.length<=a9)->aC K H lv (ls.map .str) (ls.map λc=>V.str (bp c))
 |[],_=>by rw[eD,eD,aC]
 | p::r,h=>by
  rw[bJ,bJ,aC];exact(_,_,rfl,by rw[RP];exact⟨rfl,h p (by simp)⟩,Gr λq hq=>h q (b5 _ hq))
def F7:∀{ls:List (List Nat)}{l:List (Str×dt)},l.map (·.1)=ls.map bp->ba (ls.map λc=>V.str (bp c)) (IM l)
 | [],l,h=>by
  cases l with
  |nil=>exact .nil
  |cons _ _=>cases h
 | p::r,l,h=>by
  cases l with
  |nil=>cases h
  |cons q l=>
   rw[bJ,bJ]at h;let(q1,q2):=q;let h1:=(SQ h).1;let h1:q1=bp p:=h1;subst h1;exact .cons ⟨q2,rfl⟩ (F7 (SQ h).2)
section
variable{X:Cx}
def yY4:p9 X "str.split" Ay:=by
 rintro ae s Z H x ws v us Q I rx rs ⟨O,st,px,xs,z,r,hx,pr,hz,q⟩;cases px with
 |str a=>
  cases pr with
  |nil=>cases hz
  |cons h t=>
   cases t with
   |cons _ _=>rename_i y _ _ _ _ _ _ _;cases y<;>(try cases hz);rename_i cs;cases cs<;>(try cases hz);rename_i tl;cases tl<;>cases hz
   |nil=>
    rename_i y w
    cases y with
    |str b=>
     match b,h,hz with
     |[c],h,hz=>
      let(e1,hl):=hx.str;let(e2,_):=h.str;subst e1 e2;let(t1,rfl):=rx;let hz:(if a.length<SZ then aa (PV.ai ((c9 c a).map .str))else aj)=aa z:=hz
      by_cases hc:a.length<SZ
      .rw[if_pos hc]at hz;let ez:PV.ai ((c9 c a).map .str)=z:=dE hz;rw[Ao]at hc;let yI:=Rr c a;let kC:a9=16777216:=mj;cases rs with
       |cons ru rt=>
        cases rt;let(t2,rfl):=ru;let hy:(dJ ⟨[c].toArray⟩==0)=false:=rfl;let KZ:dJ ⟨a.toArray⟩<=a9:=by rw[dS];lia
        let fin:∀(l:List (Str×dt)) (k:Nat),l.map (·.1)=BR ⟨a.toArray⟩ ⟨[c].toArray⟩->EP X ae Z Q (.ref s.heap.objs.size) { s with toks:=k,heap:=s.heap.push { cls:=.type "list", data:=.seq (IM l).toArray } }:=by
         intro l k hle;rw[R3]at hle;let yF:=I.aF.fresh (bF s.heap.objs.size);let s1:bt H (upd H s.heap.objs.size (.ai ((c9 c a).map λc=>V.str (bp c)))):=fB yF _;refine(.ref s.heap.objs.size,_,I.laid (t':=k) (λb o e=>cv _ e) (bF _) (show dz X.prog X.w _ _ _ (.ai ((c9 c a).map λc=>V.str (bp c)))from⟨by rw[cy];lia,_,0,F7 hle,dY _ rfl⟩),rfl,q _ _ s1 ?_);rw[<-ez,RP];exact(_,_,rfl,bL.of dZ,r.sN yF,Gr λp hp=>by let:=yI.2 p hp;lia)
        cases h1:(decide (dJ ⟨a.toArray⟩<dJ ⟨[c].toArray⟩) ||decide (xY ⟨a.toArray⟩<xY ⟨[c].toArray⟩))
        .cases hf:(occurrences ⟨a.toArray⟩ ⟨[c].toArray⟩ 0 (dJ ⟨a.toArray⟩) (dJ ⟨a.toArray⟩+1)).isEmpty
         .let es:BR ⟨a.toArray⟩ ⟨[c].toArray⟩=partsBetween ⟨a.toArray⟩ (occurrences ⟨a.toArray⟩ ⟨[c].toArray⟩ 0 (dJ ⟨a.toArray⟩) (dJ ⟨a.toArray⟩+1)) (dJ ⟨[c].toArray⟩):=(if_neg (ne_true_of_eq_false h1)).trans (if_neg (ne_true_of_eq_false hf));let hn:(partsBetween ⟨a.toArray⟩ (occurrences ⟨a.toArray⟩ ⟨[c].toArray⟩ 0 (dJ ⟨a.toArray⟩) (dJ ⟨a.toArray⟩+1)) (dJ ⟨[c].toArray⟩)).length<=a9:=by
           rw[<-es,R3,cy];lia
          refine call_meets Ih (nY _ _ _) Ie (Ib _ _) (meets_str_split_sep _ _ _ _ h1 hy hf KZ hn) ?_;show EP X ae Z Q _ _;rw[strsFrom_eq];exact fin (numbered s.toks _) _ ((numbered_texts _ _).trans es.symm)
         .exact call_meets Ih (nY _ _ _) Ie (Ib _ _) (meets_str_split_not_found _ _ _ _ h1 hy hf)
           (fin [(⟨a.toArray⟩,t1)] s.toks ((if_neg (ne_true_of_eq_false h1)).trans (if_pos hf)).symm)
        .exact call_meets Ih (nY _ _ _) Ie (Ib _ _) (meets_str_split_cannot_occur _ _ _ _ h1)
          (fin [(⟨a.toArray⟩,t1)] s.toks (if_pos h1).symm)
      .rw[if_neg hc]at hz;cases hz
     |[],_,hz=>cases hz
     |_::_::_,_,hz=>cases hz
    |_=>cases hz
 |_=>cases hz
end
def RX(c:Nat):∀(a:List Nat)(k:Nat),findIn [c] a k=(jW c a).map λp=>k+p.1.length
 |[],k=>rfl
 | x::r,k=>by
  rw[findIn,jW];by_cases h:x=c
  .rw[if_pos (Fg.mpr h),if_pos h];rfl
  .rw[if_neg (λz=>h (Fg.mp z)),if_neg h,RX c r (k+1)];cases jW c r with
   |none=>rfl
   |some p=>simp;lia
def Pq{c:Nat}:∀{a:List Nat}{p:List Nat×List Nat},jW c a=aa p->a=p.1++c::p.2
 |[],p,h=>by cases h
 | x::r,p,h=>by
  rw[jW]at h;by_cases e:x=c
  .rw[if_pos e]at h;cases h;rw[e];rfl
  .rw[if_neg e]at h;let(q,h1,rfl):=d9.mp h;rw[Pq h1];rfl
section
variable{X:Cx}
def xq8:p9 X "str.partition" Ak:=by
 rintro ae s Z H x ws v us Q I rx rs ⟨O,st,px,xs,z,r,hx,pr,hz,q⟩;cases px with
 |str a=>
  cases pr with
  |nil=>cases hz
  |cons h t=>
   cases t with
   |cons _ _=>rename_i y _ _ _ _ _ _ _;cases y<;>(try cases hz);rename_i cs;cases cs<;>(try cases hz);rename_i tl;cases tl<;>cases hz
   |nil=>
    rename_i y w
    cases y with
    |str b=>
     match b,h,hz with
     |[c],h,hz=>
      let(e1,hl):=hx.str;let(e2,mJ):=h.str;subst e1 e2;let(t1,rfl):=rx;let hz:(match jW c a with |some p=>aa (PV.af [.str p.1,.str [c],.str p.2])|none=>aa (.af [.str a,.str [],.str []]))=aa z:=hz
      cases rs with
      |cons ru rt=>
       cases rt;let(t2,rfl):=ru;let yF:=I.aF.fresh (bF s.heap.objs.size);let fin:∀(l:List (List Nat)) (ts:List (Str×dt)) (k:Nat),ts.map (·.1)=l.map bp->l.length<=3->(∀p∈l,p.length<=a9)->PV.af (l.map .str)=z->EP X ae Z Q (.ref s.heap.objs.size) { s with toks:=k,heap:=s.heap.push { cls:=.type "tuple", data:=.seq (IM ts).toArray } }:=by
        intro l ts k hle h3 hp ez;let s1:bt H (upd H s.heap.objs.size (.af (l.map λc=>V.str (bp c)))):=fB yF _;refine(.ref s.heap.objs.size,_,I.laid (t':=k) (λb o e=>cv _ e) (bF _) (show dz X.prog X.w _ _ _ (.af (l.map λc=>V.str (bp c)))from⟨by rw[cy];exact df h3 (by decide),_,F7 hle,lX.new _ _⟩),rfl,q _ _ s1 ?_);rw[<-ez,RP];exact(_,_,rfl,bR.of dZ,Gr hp)
       refine call_meets F.slot_str_partition (nY _ _ _) F.entry_str_partition (F.args_str_partition_2 _ _) (meets_str_partition _ _ _ _ rfl (by rw[dS];exact hl)) ?_;rw[Pm,RX];cases hp:jW c a with
       |none=>
        rw[hp]at hz;exact fin [a,[],[]] [(⟨a.toArray⟩,t1),(Iy,s.toks),(Iy,s.toks)] _ rfl (bF _) (λp m=>by
         simp only[bN,iB,or_false]at m;rcases m with rfl |rfl |rfl
         .exact hl
         .exact ft _
         .exact ft _) (dE hz)
       |some p=>
        rw[hp]at hz;let ec:=Pq hp;let Wq:=congrArg b7 ec;rw[cA,c6]at Wq;let d1:strSub ⟨a.toArray⟩ 0 (0+p.1.length)=bp p.1:=by
         rw[AL,BH,HR,pF,ec,Tw]
        let d2:strSub ⟨a.toArray⟩ (0+p.1.length+dJ ⟨[c].toArray⟩) (dJ ⟨a.toArray⟩)=bp p.2:=by
         rw[AL,dS,dS,BH];let:a.drop (p.1.length+[c].length)=p.2:=by
          rw[ec,show p.1.length+[c].length=p.1.length+1 from rfl,<-SR,SU];rfl
         rw[this,kU (by simp only[uq];lia)]
        refine fin [p.1,[c],p.2] [(strSub ⟨a.toArray⟩ 0 (0+p.1.length),s.toks),(⟨[c].toArray⟩,t2),(strSub ⟨a.toArray⟩ (0+p.1.length+dJ ⟨[c].toArray⟩) (dJ ⟨a.toArray⟩),s.toks+1)] _ ?_ (bF _) (λy m=>?_) (dE hz)
        .simp only[bJ,eD,d1,d2];rfl
        .simp only[bN,iB,or_false]at m;rcases m with rfl |rfl |rfl
         .lia
         .exact mJ
         .lia
     |[],_,hz=>cases hz
     |_::_::_,_,hz=>cases hz
    |_=>cases hz
 |_=>cases hz
def yG3:p9 X "str.startswith" Am:=by
 rintro ae s Z H x ws v us Q I rx rs ⟨O,st,px,xs,z,r,hx,pr,hz,q⟩;cases px with
 |str a=>
  cases pr with
  |nil=>cases hz
  |cons h t=>
   cases t with
   |cons _ _=>rename_i y _ _ _ _ _ _ _;cases y<;>cases hz
   |nil=>
    rename_i y w
    cases y with
    |str b=>
     let(e1,_):=hx.str;let(e2,_):=h.str;subst e1 e2;let(t1,rfl):=rx;cases rs with
     |cons ru rt=>
      cases rt;let(t2,rfl):=ru;refine call_gives UZ (nY _ _ _) PySem.F.entry_str_startswith (PySem.F.args_str_startswith_2 _ _) (gives_str_startswith _ _ _ _) ?_;let ez:PV.bl (b.isPrefixOf a)=z:=dE hz;refine(.bl _,H,I,rfl,q _ _ (bt.refl H) ?_);rw[<-ez,RP,dS,dS];let k:=wJ a b 0 (ft _);rw[pF]at k;rw [show b.isPrefixOf a=(decide (0+b.length<=a.length)&&subAt ⟨a.toArray⟩ ⟨b.toArray⟩ 0)from by
       rw[pC,<-k,bP,decide_eq_true_eq]]
    |_=>cases hz
 |_=>cases hz
def xq6:p9 X "str.endswith" Ai:=by
 rintro ae s Z H x ws v us Q I rx rs ⟨O,st,px,xs,z,r,hx,pr,hz,q⟩;cases px with
 |str a=>
  cases pr with
  |nil=>cases hz
  |cons h t=>
   cases t with
   |cons _ _=>rename_i y _ _ _ _ _ _ _;cases y<;>cases hz
   |nil=>
    rename_i y w
    cases y with
    |str b=>
     let(e1,_):=hx.str;let(e2,_):=h.str;subst e1 e2;let(t1,rfl):=rx;cases rs with
     |cons ru rt=>
      cases rt;let(t2,rfl):=ru;refine call_gives UY (nY _ _ _) PySem.F.entry_str_endswith (PySem.F.args_str_endswith_2 _ _) (gives_str_endswith _ _ _ _) ?_;let ez:PV.bl (b.isSuffixOf a)=z:=dE hz;refine(.bl _,H,I,rfl,q _ _ (bt.refl H) ?_);rw[<-ez,RP,dS,dS];let k:=wJ a b (a.length-b.length) (xU _ _);rw [show b.isSuffixOf a=(decide (0+b.length<=a.length)&&subAt ⟨a.toArray⟩ ⟨b.toArray⟩ (a.length-b.length))from by
       rw[pC,bP,decide_eq_true_eq,S7,List.suffix_iff_eq_drop,BH];constructor
       .intro e;let hl:b.length<=a.length:=by
         let:=congrArg b7 e;rw[iY]at this;lia
        exact(hl,(k.mpr (by rw[<-e];simp)).2)
       .rintro⟨h1,h2⟩;let e:=k.mp ⟨by lia,h2⟩;rw[Hw,Tj]at e;rw[kU (by rw[iY];lia)]at e;exact e]
    |_=>cases hz
 |_=>cases hz
def yU7(v:aJ)(vs:List aJ)(st:ay):d8 .split v vs st=(match bQ st vs with |some xs=>(match view st v with |some x=>cQ (Ay x xs) st |none=>.stuck)|none=>.stuck):=by
 show(match bQ st vs with |some xs=>jq .split v xs st |none=>.stuck)=_
 cases bQ st vs<;>rfl
def xm0(v:aJ)(vs:List aJ)(st:ay):d8 .partition v vs st=(match bQ st vs with |some xs=>(match view st v with |some x=>cQ (Ak x xs) st |none=>.stuck)|none=>.stuck):=by
 show(match bQ st vs with |some xs=>jq .partition v xs st |none=>.stuck)=_
 cases bQ st vs<;>rfl
def yE0(v:aJ)(vs:List aJ)(st:ay):d8 .startswith v vs st=(match bQ st vs with |some xs=>(match view st v with |some x=>cQ (Am x xs) st |none=>.stuck)|none=>.stuck):=by
 show(match bQ st vs with |some xs=>jq .startswith v xs st |none=>.stuck)=_
 cases bQ st vs<;>rfl
def xl8(v:aJ)(vs:List aJ)(st:ay):d8 .endswith v vs st=(match bQ st vs with |some xs=>(match view st v with |some x=>cQ (Ai x xs) st |none=>.stuck)|none=>.stuck):=by
 show(match bQ st vs with |some xs=>jq .endswith v xs st |none=>.stuck)=_
 cases bQ st vs<;>rfl
def xb8:∀x xs z,Ay x xs=aa z->∃cs,x=.str cs:=by
 intro x xs z h;cases x<;>first |exact(_,rfl)|cases h
def xv6:∀x xs z,Ak x xs=aa z->∃cs,x=.str cs:=by
 intro x xs z h;cases x<;>first |exact(_,rfl)|cases h
def yJ0:∀x xs z,Am x xs=aa z->∃cs,x=.str cs:=by
 intro x xs z h;cases x<;>first |exact(_,rfl)|cases h
def xv4:∀x xs z,Ai x xs=aa z->∃cs,x=.str cs:=by
 intro x xs z h;cases x<;>first |exact(_,rfl)|cases h
end
def yL4{st:ay}{v:aJ}{cs:List Nat}(h:view st v=aa (.str cs)):v=.p (.str cs):=by
 cases v with
 |p y=>cases h;rfl
 |ref n=>
  let hx:(match aW st n with |some (.ai xs)=>aa (PV.ai xs)|_=>aj)=aa (PV.str cs):=h
  cases ho:aW st n with
  |none=>rw[ho]at hx;cases hx
  |some ob=>rw[ho]at hx;cases ob<;>cases hx
def F9{x u:PV}{t:List Nat}(h:qA x (.str t)=aa u):∃a,x=.str a/\u=.str (a++t)/\a.length+t.length<=SZ:=by
 cases x with
 |str a=>
  let hb:(if a.length+t.length<=SZ then aa (PV.str (a++t))else aj)=aa u:=h
  split at hb
  .rename_i hc;cases hb;exact(_,rfl,rfl,hc)
  .cases hb
 |_=>cases h
abbrev jP:List E->E
 |[]=>.ag (.str [])
 |x::r=>.bin .add x (jP r)
def AD{C:a8}:∀{es:List E}{env:Env}{st ao:ay}{v:aJ},az C (jP es) env st=.ok v ao->∃t,v=.p (.str t)
 | [],env,st,ao,v,h=>by
  rw[jP,xo]at h;cases h;exact(_,rfl)
 | x::r,env,st,ao,v,h=>by
  rw[jP,tL]at h;let(a,s1,_,h):=ax.bE h;let(b,s2,h2,h):=ax.bE h;let(t,rfl):=AD h2;let(x,y,u,_,hv,hb,rfl,rfl):=nH h;cases hv;let(a,_,e,_):=F9 hb;exact(_,by rw[e])
variable{a:Expr}
section
variable{X:Cx}{C:a8}{W:Nat}{e:Expr}{es:List Expr}{ie:E}{vD:List E}{pos:aU}
def FP(X:Cx)(C:a8)(e:Expr)(ie:E):Prop:=∀(ae:List (aq×aV)) (s:au) (Z:L2.St) (H:Hp) (env:Env) (O:Al) (st ao:ay) (cs:List Nat),Inv X ae Z H s->At X.K O st H env Z->az C ie env st=.ok (.p (.str cs)) ao ->
 aG (aN X.prog X.w) X.A (eval e X.env) (λv s1=>∃t α1 H1,v=.str ⟨cs.toArray⟩ t/\Inv X ae Z H1 s1/\bD X.K O st H α1 ao H1/\bu X.K α1 ao H1) X.xe s
def xK4(h:SE X C e ie):FP X C e ie:=by
 intro ae s Z H env O st ao cs I a ev;refine bf (h ae s Z H (λw H1=>∃α1,w=.str ⟨cs.toArray⟩/\bD X.K O st H α1 ao H1/\bu X.K α1 ao H1) I ⟨env,O,st,_,ao,a,ev,λw H1 α1 x1 r1 v1=>?_⟩) λv s1 h_=>?_
 .let v1:RP X.K H1 (aP α1 ao) (.str cs) w:=v1;rw[RP]at v1;exact(α1,v1.1,x1,r1)
 .let(w,H1,I1,r1,α1,rfl,x1,rs):=h_;let(t,rfl):=r1;exact(t,α1,H1,rfl,I1,x1,rs)
def xl5(h:SE X C e ie):FP X C (.FormattedValue e (-1) aj pos) ie:=by
 intro ae s Z H env O st ao cs I a ev;refine wpAny_FormattedValue_plain ?_;refine bf (h ae s Z H (λw H1=>∃α1,w=.str ⟨cs.toArray⟩/\cs.length<=a9/\bD X.K O st H α1 ao H1/\bu X.K α1 ao H1) I ⟨env,O,st,_,ao,a,ev,λw H1 α1 x1 r1 v1=>?_⟩) λv s1 h_=>?_
 .let v1:RP X.K H1 (aP α1 ao) (.str cs) w:=v1;rw[RP]at v1;exact(α1,v1.1,v1.2,x1,r1)
 .let(w,H1,I1,r1,α1,rfl,hl,x1,rs):=h_;let(t,rfl):=r1;exact wpAny_formatField_str ⟨_,α1,H1,rfl,I1,x1,rs⟩ ⟨_,α1,H1,rfl,I1.tok _,x1,rs⟩ (by rw[dS];exact hl)
def Pc:∀{es:List Expr}{vD:List E},cn (λie e=>FP X C e ie) vD es->∀(acc:List Nat)(ae:List (aq×aV)) (s:au) (Z:L2.St) (H:Hp) (env:Env) (O:Al) (st ao:ay) (cs:List Nat) (Q:Str->au->Prop),
  Inv X ae Z H s->At X.K O st H env Z->az C (jP vD) env st=.ok (.p (.str cs)) ao->acc.length+cs.length<=16777216 ->
  (∀s1 α1 H1,Inv X ae Z H1 s1->bD X.K O st H α1 ao H1->bu X.K α1 ao H1->Q (bp (acc++cs)) s1) ->
  Joins (aN X.prog X.w) X.A X.xe (evalEach es X.env) (bp acc) Q s
 | _,_,.nil,acc,ae,s,Z,H,env,O,st,ao,cs,Q,I,a,ev,hl,q=>by
  rw[jP,xo]at ev;cases ev;let q:=q s O H I .refl a.rs;rw[lZ]at q;exact q
 | _,_,.cons h t,acc,ae,s,Z,H,env,O,st,ao,cs,Q,I,a,ev,hl,q=>by
  rw[jP,tL]at ev;let(va,s1,ea,ev):=ax.bE ev;let(vb,s2,eb,ev):=ax.bE ev;let(t2,rfl):=AD eb;let(x,y,u,X5,X7,hb,hu,hs):=nH ev;cases X7;let(p,rfl,rfl,hpq):=F9 hb;cases hu;subst hs;let hp:=yL4 X5;subst hp;rw[cA]at hl;refine k7 (h ae s Z H env O st s1 p I a ea) (λv s2 h_=>?_) λ_ _ z=>z;let(t1,α1,H1,rfl,I1,x1,r1):=h_;let et:bp acc++(⟨p.toArray⟩:Str)=bp (acc++p):=by
   show(⟨acc.toArray++p.toArray⟩:Str)=⟨(acc++p).toArray⟩;simp
  refine(_,t1,rfl,?_,?_)
  .rw[et];show(acc++p).toArray.size<=a9;rw[cV,cA,mj];lia
  .rw[et];refine Pc t (acc++p) ae s2 Z H1 env α1 s1 ao t2 Q I1 (a.next x1 r1) eb (by rw[cA];lia) λs3 α2 H2 I2 x2 r2=>?_;rw[j5];exact q s3 α2 H2 I2 (x1.trans x2) r2
def yD7:∀{es:List E}{env:Env}{st ao:ay}{t:List Nat},az C (jP es) env st=.ok (.p (.str t)) ao->t.length<=16777216
 | [],env,st,ao,t,h=>by
  rw[jP,xo]at h;cases h;exact ft _
 | x::r,env,st,ao,t,h=>by
  rw[jP,tL]at h;let(a,s1,_,h):=ax.bE h;let(b,s2,h2,h):=ax.bE h;let(t2,rfl):=AD h2;let(x,y,u,_,hv,hb,hu,_):=nH h;cases hv;let(p,_,rfl,hl):=F9 hb;cases hu;rw[cA,<-Ao];exact hl
def xc5{b:Expr}{r:List Expr}(h:cn (λie e=>FP X C e ie) vD (a::b::r)):SE X C (.JoinedStr (a::b::r) pos) (jP vD):=by
 intro ae s Z H Q I h_;let(env,O,st,v,ao,aD,e,q):=h_;let(t,rfl):=AD e;let hl:=yD7 e;refine wpAny_JoinedStr ?_;refine Pc h [] ae s Z H env O st ao t _ I aD e (by simpa using hl) λs1 α1 H1 I1 x1 r1=>⟨?_,?_⟩
 .show t.toArray.size<=a9;rw[cV,mj];exact hl
 .exact(.str (bp t),H1,I1.tok _,⟨_,rfl⟩,q _ H1 α1 x1 r1 (show RP _ _ _ _ _ by rw[RP,mj];exact⟨rfl,hl⟩))
def yK6{sm:bW}:PS X sm (MB X.K C W (.expr (.blt .any []))):=by
 rintro ae s Z H D I ⟨env,O,st,fl,ao,_,e,_⟩;cases e
end
def RG{prog:Program}{A:bb}(hh:A.handled=aj)(it:aq)(x:Str)(t:dt):
  Draws prog w A it [it] x.cps.size (λi v=>∃c u,x.cps[i]?=aa c/\v=.str ⟨#[c]⟩ u) (λi h=>h.IsStrIter it (IL x) x t i):=by
 unfold IL;cases x.cps.all (· < 128)
 .exact Draws.strWide hh it x t
 .exact Draws.strAscii hh it x t
def Cb(cs:List Nat):L2.It :=
 ⟨λi _=>i<cs.length,λi H x H'=>∃T c,H T=aj/\x=.ref T/\cs[i]?=aa c/\H'=upd H T (.af [V.int i,V.str ⟨#[c]⟩]),λi _=>cs.length<=i⟩
def I_(e it:Nat)(cs:List Nat)(t:dt)(i:Nat)(h:aT):Prop:=(∃old,IsEnum h e it i old)/\h.IsStrIter it (IL ⟨cs.toArray⟩) ⟨cs.toArray⟩ t i/\i<=cs.length
def yn1{P:Program}{K:aQ}{elts:List Expr}{x1}{pos:aU}(e it:Nat)(cs:List Nat)(t:dt)(C2:e≠it):
  qB P w K (.Tuple elts x1 pos) (Cb cs) [e,it] e (I_ e it cs t) where
 mem:=by simp
 obj:=λi h st b hb=>by
  obtain⟨⟨old,t1⟩,⟨o,z,c,d⟩,_⟩:=st;simp only[bN,iB,or_false]at hb;rcases hb with rfl |rfl
  .exact(_,t1,λv e=>by cases e)
  .exact(o,z,λv e=>by rw[d]at e;cases e)
 keep:=λi h h' st k=>by
  obtain⟨⟨old,t1⟩,⟨o,z,r⟩,hi⟩:=st;exact(⟨old,k e (by simp) _ t1⟩,⟨o,k it (by simp) o z,r⟩,hi)
 item:=by
  intro X hP hw hK hc i ae s Z H E I hf st hg;subst hP hw hK;obtain⟨⟨old,t1⟩,t2,_⟩:=st;let hg:i<cs.length:=hg;let D:=RG (prog:=X.prog) (w:=X.w) (A:=X.A.in1) (show X.A.in1.handled=aj from I.ok.hd hc) it ⟨cs.toArray⟩ t;let ve:e<s.heap.objs.size:=b8 t1;let vi:it<s.heap.objs.size:=by
   let(o,z,_):=t2;exact b8 z
  refine wpAny_pyNext_enum_itemD D t1 t2 (by show i<cs.toArray.size;simpa using hg) C2 (by simpa using C2) λx h2 tk hx qt DU Ec Zu sJ=>⟨_,rfl,?_⟩;refine wpAny_letOwnedTupleGo_enum qt λh3 z3 s3=>?_;let J9:s.heap.objs.size≠e:=j8 ve;let W3:s.heap.objs.size≠it:=j8 vi;let C6:=I.fresh;let(c,u,jI,rfl):=hx;let jI:cs[i]?=aa c:=by simpa using jI
  let g8:ba [V.int i,V.str ⟨#[c]⟩] [.int i tk,.str ⟨#[c]⟩ u]:=.cons ⟨tk,rfl⟩ (.cons ⟨u,rfl⟩ .nil);let I1:Inv X ae Z (upd H s.heap.objs.size (.af [V.int i,V.str ⟨#[c]⟩])) { s with heap:=s.heap.push { cls:=.type "tuple", data:=.seq #[.int i tk,.str ⟨#[c]⟩ u] },toks:=tk+1 } :=
   I.laid (t':=tk+1) (λb o e=>cv _ e) (bF _) (show dz X.prog X.w _ _ _ (.af [V.int i,V.str ⟨#[c]⟩])from⟨by show 2<=a9;decide,_,g8,lX.new _ _⟩)
  let u0:∀b∈[e,it],b≠s.heap.objs.size:=λb hb z=>by
   simp only[bN,iB,or_false]at hb;rcases hb with rfl |rfl
   .exact J9 z.symm
   .exact W3 z.symm
  let C3:∀b∈[e,it],hG X ae (upd H s.heap.objs.size (.af [V.int i,V.str ⟨#[c]⟩])) b:=λb hb=>⟨by rw[cL (u0 b hb)];exact(hf b hb).1,(hf b hb).2⟩;let I2:Inv X ae Z (upd H s.heap.objs.size (.af [V.int i,V.str ⟨#[c]⟩])) { s with heap:=h3,toks:=tk+1 }:=by
   refine Inv.zI (s:={ s with heap:=s.heap.push { cls:=.type "tuple", data:=.seq #[.int i tk,.str ⟨#[c]⟩ u] },toks:=tk+1 }) (t':=tk+1) (ch:=[e,it]) I1 (λb o hb z=>?_) C3
   simp only[bN,iB,or_false,not_or]at hb;by_cases u5:b=s.heap.objs.size
   .subst u5;let z:aa { cls:=uD "tuple", data:=Ia #[.int i tk,.str ⟨#[c]⟩ u] }=aa o:=by rw[<-z];exact(dY _ rfl).symm
    cases z;exact s3.extBut _ _ J9 Ec
   .let z':s.heap.get? b=aa o:=JV u5 z;exact s3.extBut _ _ hb.1 (sJ b o hb.1 hb.2 z')
  refine(.ref s.heap.objs.size,_,I2,rfl,⟨_,c,C6,rfl,jI,rfl⟩,⟨⟨_,by simpa using z3⟩,?_,hg⟩,λb hb=>by rw[cL (u0 b hb)];exact(hf b hb).1);let(o,ho,r):=DU;exact(o,s3.extBut _ _ (l8 C2) ho,r)
 done:=by
  intro X hP hw hK hc i ae s Z H E I hf st hg;subst hP hw hK;obtain⟨⟨old,t1⟩,t2,hi⟩:=st;let hg:cs.length<=i:=hg;let D:=RG (prog:=X.prog) (w:=X.w) (A:=X.A.in1) (show X.A.in1.handled=aj from I.ok.hd hc) it ⟨cs.toArray⟩ t;refine wpAny_pyNext_enum_endD D t1 (by rw[show(⟨cs.toArray⟩:Str).cps.size=i by simp;lia];exact t2) λh2 he=>⟨rfl,?_⟩;refine Inv.zI (t':=s.toks) (ch:=[e,it]) I (λb o hb z=>?_) hf;simp only[bN,iB,or_false,not_or]at hb;exact he b o hb.2 z
 self:=λ_ _ _ _ _ st h=>VQ st.1.choose_spec h
section
variable{X:Cx}{C:a8}{e:Expr}{es elts:List Expr}{x1:Nat}{mW pos p:aU}{ta:TA}{ia:E}
def yI5(hg:Gl X "enumerate")(hm:X.mg "enumerate" = aj)(hv:gD "enumerate" = aa (.type "enumerate"))(ha:PA X (e::es) ta)
  (he:bA (e::es) X.env=(false,eval e X.env)::bA es X.env) (dH:(dW pos (bA es X.env)).any (·.1)=false):PI X (.Tuple elts x1 mW) (.Call (.Name "enumerate" p) (e::es) [] pos) (λZ H R=>ta Z H λvs H1=>∃cs:List Nat,vs=[V.str ⟨cs.toArray⟩]/\R (Cb cs) H1):=by
 intro ae s Z H R I h;refine p6 (oR I hg hm hv ?_ (by decide) (by decide));refine xW (bf (ha pos ae s Z H _ I h) λus s1 ⟨vs,H1,I1,r1,q1⟩=>?_) he dH;let(cs,rfl,hR):=q1;cases r1 with
 |cons r1 r2=>
  cases r2;let(t,rfl):=r1;refine call_enumerate_str ?_;intro h2 g1 g4 g5 g6;refine VQ g1 ?_;refine(s1.heap.objs.size+1,[s1.heap.objs.size+1,s1.heap.objs.size],I_ (s1.heap.objs.size+1) s1.heap.objs.size cs t,Cb cs,H1,rfl,I1.kept (t':=s1.toks) g6,yn1 _ _ _ _ (),⟨⟨_,g1⟩,g4,ft _⟩,λb hb=>?_,hR);let hb:s1.heap.objs.size<=b:=by
   simp only[bN,iB,or_false]at hb;rcases hb with rfl |rfl<;>lia
  exact I1.sk hb (I1.aF.fresh hb)
def yK4(hg:Gl X "enumerate")(hm:X.mg "enumerate" = aj)(hv:gD "enumerate" = aa (.type "enumerate"))(ha:SA X C (e::es) [ia])
  (he:bA (e::es) X.env=(false,eval e X.env)::bA es X.env) (dH:(dW pos (bA es X.env)).any (·.1)=false):SI X C (.Tuple elts x1 mW) (.Call (.Name "enumerate" p) (e::es) [] pos) (.qe ia) :=
 PI.mono (yI5 hg hm hv ha he dH) λZ H R h_=>by
  let(env,O,st,bh,cb,ao,aD,ev,q):=h_;rw[yj8]at ev;let(y,aA,e1,ev):=ax.mz ev;let ee:fG C [ia] env st=.ok [.p y] aA:=by rw[tU,e1,ax.lb,rf];rfl
  refine(env,O,st,[.p y],aA,aD,ee,λws H1 α1 x1 r1 pr=>?_);cases y with
  |str cs=>
   cases ev;cases pr with
   |cons py pr=>
    cases pr;let py:RP X.K H1 (aP α1 ao) (.str cs) _:=py;rw[RP]at py;let(rfl,hl):=py;let ve:(q_ (cs.map λc=>PV.str [c])).length=cs.length:=by unfold q_;simp
    refine(cs,rfl,q _ _ _ x1 r1 (λα2 aI H2 lk r2 so=>?_) (by rw[ve];exact hl));refine(λi hi=>by rw[ve]at hi;exact hi,λi x w H' hx sH=>?_,λi hi=>by rw[ve]at hi;exact hi);let(T,c,hT,hw,jI,hH):=sH;subst hw hH;let s1:bt H2 (upd H2 T (.af [V.int i,V.str ⟨#[c]⟩])):=fB hT _;refine(s1,?_);let(y',sG,rfl):=yD1 hx;rw[eC,jI]at sG;cases sG;rw[RP];refine(T,_,rfl,bR.of dZ,?_);rw[aC];refine(_,_,rfl,by rw[RP],?_);rw[aC];exact(_,_,rfl,by rw[RP];exact⟨rfl,by show 1<=a9;decide⟩,by rw[aC])
  |_=>cases ev
end
open PySem.W (hasDictIn mroIn findObj InstAt Frag looks_findIn looks_find specialIn takesIn handedIn)
section
variable{prog:Program}{w:aY}{A:bb}{E:ak->au->Prop}{s:au}{K:aQ}{x C:aq}{ox:aV}{od:Option aV}{name f:Str}{v:ak}{tk:dt}
end
open PySem.W (hasDictIn mroIn findObj InstAt Frag looks_findIn looks_find specialIn takesIn handedIn)
section
variable{prog:Program}{w:aY}{A:bb}{E:ak->au->Prop}{h:aT}{g:Array pP}{d:Drawn}{t:Nat}{os:OsState}
variable{nm qn:Str}{C R N:aq}{bs:List ak}{sn:List Str}{sub:List ak}{ab:Bool}{col:Option Bool}{dd:Option aq}{k0 k1 k2 k3 k5:Option ak}
end
open PySem.W (hasDictIn mroIn findObj InstAt Frag looks_findIn looks_find specialIn takesIn handedIn)
section
variable{prog:Program}{w:aY}{A:bb}{E:ak->au->Prop}{s:au}{K:aQ}
variable{nm qn f:Str}{C R N e:aq}{bs:List ak}{sn:List Str}{sub:List ak}{ab:Bool}{col:Option Bool}{dd:Option aq}{k0 k1 k2 k3 k5:Option ak}{v:ak}{vs:Array ak}{sl:Array (Option ak)}
end
open PySem.Spec
open PySem.W (Frag InstAt)
section
variable{X:Cx}{ae:List (aq×aV)}{Z:L2.St}{H:Hp}{s:au}{C R e:aq}{f:Str}{u:V}{v:ak}{vs:Array ak}{sl:Array (Option ak)}{fI:aq}{oc:ak}{od:Option aq}{jc:Array (Option ak)}{x qual y:Str}{params:xX}{scope:cB}{p1 p2 p3 p4:aU}{dV kV doc pm:ak}{an:Option aq}{cdv ct:ak}
end
open PySem.W (Frag InstAt)
section
variable{M:Model}{A:bb}{E:ak->au->Prop}{s:au}{base:aT}{env:j9}{outer:List j9}{L C e D T:aq}{tb fl:ak}{Q:Unit->au->Prop}
end
open PySem.W (Frag InstAt)
section
variable{M:Model}{A:bb}{E:ak->au->Prop}{s:au}{env:j9}{nm qn:Str}{C R N:aq}{bs:List ak}{sn:List Str}{sub:List ak}{ab:Bool}{col:Option Bool}{dd:Option aq}{k0 k1 k2 k3 k5:Option ak}
end
section
variable{X:Cx}{ae:List (aq×aV)}{Z:L2.St}{H:Hp}{s:au}{C R:aq}{f x w:Str}{j:Nat}{np cp di pos:aU}
end
open PySem.W (Frag InstAt)
section
variable{P:Program}{w:aY}{K:aQ}{mg:Str->Option ak}{base:aT}{N:List Str}{qual:Str}{scope:cB}{fa:aq}{cd:ak}{A:bb}{outer:List j9}{s:au}{H:Hp}{E:XK}{C e D:aq}{f:Str}{u:V}{ae:List (aq×aV)}{Z:L2.St}{H':Hp}{s':au}
end
open PySem.W (Frag InstAt)
section
variable{X:Cx}{C:a8}{W:Nat}{E:XK}{st:bW}{cx:List bW}{t:TS}{e c:Expr}{bx:List OR.E}{ic:OR.E}{ir:List S}{pos:aU}{x:Str}{cs:List Nat}
end
section
variable{P:Program}{w:aY}{K:aQ}{mg:Str->Option ak}{base:aT}{PR:List FD}{W d k:Nat}{C R:aq}{f:Str}
end
open PySem.W (Frag InstAt)
section
variable{X:Cx}{ae pn:List (aq×aV)}{Z:L2.St}{H:Hp}{s:au}{e:aq}
end
open PySem.W (Frag InstAt)
section
variable{X:Cx}{e C D:aq}{oe oD:aV}{f n:Str}{i:Nat}
end
open PySem.W (Frag InstAt)
section
variable{X:Cx}{e C R D c1 c2 c3 c4 c5:aq}{oe oD:aV}{w:Str}{v:ak}
end
section
variable{P:Program}{w:aY}{K:aQ}{mg:Str->Option ak}{base:aT}{PR:List FD}{W d k kT:Nat}{C R c1 c2 c3 c4 c5:aq}
@[reducible] def p2:List Str:=["_law_one","_law_other"]
end
noncomputable instance (sc:cB) (x:Str):Decidable (n5 sc x):=inferInstanceAs (Decidable (_\/_\/_))
noncomputable instance (sc:cB) (x:Str):Decidable (Loc sc x):=inferInstanceAs (Decidable (_\/_))
set_option genInjectivity false in
structure Gm where
 fs:List (Str×List Str)
 zs:List Str
 cs:List (Str×PV)
 /-- first words of tuples MF the module itself laid;aj where no dict has tuples as keys -/
 tk:List (List Nat)
 /-- ab2 of texts at the top -/
 gd:List (Str×List (List Nat×List Nat))
set_option genInjectivity false in
structure Gc where
 N:List Str
 sc:cB
 fn:Str->Bool
set_option genInjectivity false in
structure Rc where
 e:Gc->Expr->E->Bool
 t:Gc->Expr->E->Bool
 i:Gc->Expr->Expr->It->Bool
 s:Gc->bW->S->Bool
structure Mo(M:Gm)(P:Program)(w:aY)(K:aQ)(mg:Str->Option ak)(base:aT)(PR:List FD)(W d:Nat):Prop where
 fs:∀(k:Nat) x ps,M.fs[k]?=aa (x,ps)->∃f fd,mg x=aa (.ref f)/\pU K (.ref f)=true/\Binds K fd ps []/\gc P w K mg base gU d f fd ps (je K PR W d k ps.length)
 zs:∀x∈M.zs,mg x=aj
 cs:∀x v,M.cs.lookup x=aa v->∀(X:Cx) C pos,X.K=K->X.mg=mg->Gl X x->SE X C (.Name x pos) (.ag v)
 tk:M.tk=[]\/EE K M.tk=true
 gd:∀x l,M.gd.lookup x=aa l->∃a,mg x=aa (.ref a)/\(x==("__debug__" : Str))=false/\Ng w.params K a l
structure Hx(M:Gm)(Y:Gc)(X:Cx)(PR:List FD)(W d:Nat):Prop where
 m:Mo M X.prog X.w X.K X.mg X.base PR W d
 cm:X.calm=true
 rm:gf d X.A
 N:X.N=Y.N
 sc:X.env.scope=Y.sc
 fn:X.fn=Y.fn
 nd:Y.N.Nodup
 xe:X.xe=λ_ _=>False
structure Rc.Ok(M:Gm)(PR:List FD)(W d:Nat)(R:Rc):Prop where
 e:∀{Y X e ir},Hx M Y X PR W d->R.e Y e ir=true->SE X (a0 PR W d) e ir
 t:∀{Y X e ir},Hx M Y X PR W d->R.t Y e ir=true->ST X (a0 PR W d) e ir
 i:∀{Y X tg e ir},Hx M Y X PR W d->R.i Y tg e ir=true->SI X (a0 PR W d) tg e ir
 s:∀{Y X e ir},Hx M Y X PR W d->R.s Y e ir=true->SS X (a0 PR W d) W e ir
abbrev all2{O β:Type}(f:O->β->Bool):List O->List β->Bool
 |[],[]=>true
 |a::r,b::s=>f a b&&all2 f r s
 |_,_=>false
def ON{O β:Type}{f:O->β->Bool}:∀{r:List O}{s:List β},all2 f r s=true->s.length=r.length
 |[],[],_=>rfl
 |a::r,b::s,h=>by rw[all2,bP]at h;simp[ON h.2]
 |[],_::_,h=>by cases h
 |_::_,[],h=>by cases h
abbrev pl:Expr->Bool
 |.Starred ..=>false
 |.Slice ..=>false
 |.Set ..=>false
 |_=>true
abbrev LQ:Expr->Bool
 |.ListComp ..=>false
 |.SetComp ..=>false
 |.DictComp ..=>false
 |_=>true
abbrev ab:Expr->Bool
 |.Call ..=>false
 |_=>true
abbrev tv:Expr->Bool
 |.UnaryOp ..=>false
 |.BoolOp ..=>false
 |.IfExp ..=>false
 |.Compare ..=>false
 |_=>true
variable{i o:Expr}{l:Nat}{p:aU}
section
variable{a b:Expr}{es:List Expr}{env:j9}{pos:aU}
def tJ(h:pl a=true):bA (a::es) env=(false,eval a env)::bA es env:=by cases a<;>first |rfl |cases h
def QA(h:pl a=true):∀x,BW a env x=pure x:=by cases a<;>first |(intro _;rfl)|cases h
def xQ5(h:pl a=true):Gy a:=by cases a<;>first |exact λ_ _=>rfl |cases h
def Qz:∀{es:List Expr},es.all pl=true->(dW pos (bA es env)).any (·.1)=false
 |[],_=>rfl
 | a::r,h=>by
  rw[ff,bP]at h;rw[tJ h.1];exact Qz (es:=r) h.2
def Ot:∀{es:List Expr},es.all pl=true->(dW pos (bA es env)).all (λx=>!x.1)=true
 |[],_=>rfl
 | a::r,h=>by
  rw[ff,bP]at h;rw[tJ h.1];exact Ot (es:=r) h.2
def xr3{t:Option Expr}(h:LQ a=true):pZ a t l env=pure false:=by cases a<;>first |rfl |cases h
def EX{n:Str}(h:ab a=true):uF a n env (eval a env)=eval a env:=by cases a<;>first |rfl |cases h
def xT6(h:tv a=true):∀whole,isTrue a env whole=(do let v <-whole;uJ a.pos;jA [v] (truthy v)):=by cases a<;>first |(intro _;rfl)|cases h
def xr5:IQ [.Subscript o i p] a env=pure aj:=by cases a<;>rfl
end
def sM(Y:Gc)(i:Nat)(x:Str):Bool:=decide (Y.N[i]?=aa x)&&decide (Loc Y.sc x)&&(Y.fn x ||decide (Y.sc.names.lookup x=aa .local))
def u3(Y:Gc)(x:Str):Bool:=decide (Y.sc.names.lookup x=aa .globalImplicit) && !(x==("__debug__" : Str))
def zB(M:Gm)(Y:Gc)(x:Str):Bool:=decide (x∈M.zs)&&u3 Y x
def aB(R:Rc)(Y:Gc)(es:List Expr)(bx:List E):Bool:=es.all pl&&all2 (R.e Y) es bx
abbrev Eb(R:Rc)(Y:Gc):List Expr->Option E->Bool
 |[],aj=>true
 |[c],aa ic=>R.t Y c ic
 |_,_=>false
abbrev oB(R:Rc)(Y:Gc):Option Expr->Option E->Bool
 |none,aj=>true
 |some e,aa ie=>R.e Y e ie
 |_,_=>false
section
variable{M:Gm}{R:Rc}{PR:List FD}{W d:Nat}{Y:Gc}{X:Cx}{x:Str}{i:Nat}{es:List Expr}{bx:List E}{is:List Nat}{e:Expr}{t:Tg}{ir:E}
def Hx.u1(h:Hx M Y X PR W d):X.A.units+1<c8:=by let:=h.rm.un;lia
def Hx.u2(h:Hx M Y X PR W d):X.A.units+200<c8:=by let:=h.rm.un;lia
def gK(h:Hx M Y X PR W d)(g:sM Y i x=true):X.N[i]?=aa x/\Loc X.env.scope x/\(X.fn x=true\/X.env.scope.names.lookup x=aa .local):=by
 rw[sM,bP,bP,iX]at g;rw[h.N,h.sc,h.fn];exact(of_decide_eq_true g.1.1,of_decide_eq_true g.1.2,g.2.imp id of_decide_eq_true)
def E9(h:Hx M Y X PR W d)(g:u3 Y x=true):Gl X x/\(x==("__debug__" : Str))=false:=by
 rw[u3,bP]at g;refine(?_,by simpa using g.2);unfold Gl PySem.Env.kindOf;rw[h.sc];exact of_decide_eq_true g.1
def iS(h:Hx M Y X PR W d)(g:zB M Y x=true):X.mg x=aj/\Gl X x/\(x==("__debug__" : Str))=false:=by
 rw[zB,bP]at g;exact(h.m.zs _ (of_decide_eq_true g.1),E9 h g.2)
def jO(o:R.Ok M PR W d)(h:Hx M Y X PR W d):∀{es:List Expr}{bx:List E},aB R Y es bx=true->SA X (a0 PR W d) es bx
 |[],[],_=>Ow
 | a::r,b::s,g=>by
  rw[aB,all2,ff,bP,bP,bP]at g;exact QI (o.e h g.2.1) (jO o h (by rw[aB,g.1.2,g.2.2];rfl)) (tJ g.1.1)
 |[],_::_,h=>by cases h
 |_::_,[],h=>by cases(Bn.1 h).2
def zM(g:aB R Y es bx=true):es.all pl=true:=by rw[aB,bP]at g;exact g.1
def EW(g:aB R Y es bx=true):bx.length=es.length:=by rw[aB,bP]at g;exact ON g.2
def oN(g:aB R Y (a::es) bx=true):bA (a::es) X.env=(false,eval a X.env)::bA es X.env:=tJ (Bn.1 (zM g)).1
def qE{pos:aU}(g:aB R Y (a::es) bx=true):(dW pos (bA es X.env)).any (·.1)=false:=Qz (Bn.1 (zM g)).2
def xT5{cs:List Expr}{o':Option E}(o:R.Ok M PR W d)(h:Hx M Y X PR W d)(g:Eb R Y cs o'=true):rW X cs (oJ X.K (a0 PR W d) o'):=by
 unfold Eb at g;split at g
 .exact Y1
 .exact Y2 (o.t h g)
 .cases g
def LY{c:Option Expr}{o':Option E}(o:R.Ok M PR W d)(h:Hx M Y X PR W d)(g:oB R Y c o'=true):SO X (a0 PR W d) c o':=by
 unfold oB at g;split at g
 .exact xd2
 .exact xd3 (o.e h g)
 .cases g
end
def bV{p:Prop}[Decidable p]{f:p->Bool}(h:(if h:p then f h else false)=true):∃q,f q=true:=by
 split at h
 .exact(_,h)
 .cases h
def m6(e:Expr)(f):=UC<|>23
def pq{e f}(h:m6 e f=true):∃x p,e=.Name x p/\f x p=true:=2<|>UC
def JA(e:Expr)(f):=Ut<|>2
def PY{e f}(h:JA e f=true):∃a o b p,e=.BinOp a o b p/\f a o b p=true:=4<|>Ut
def CA(e:Expr)(f):=UH<|>3
def N5{e f}(h:CA e f=true):∃o a p,e=.UnaryOp o a p/\f o a p=true:=3<|>UH
def Er(e:Expr)(f):=Uw<|>15
def P4{e f}(h:Er e f=true):∃a o b p,e=.Compare a o b p/\f a o b p=true:=4<|>Uw
def Eo(e:Expr)(f):=Uu<|>0
def PZ{e f}(h:Eo e f=true):∃o a p,e=.BoolOp o a p/\f o a p=true:=3<|>Uu
def JB(e:Expr)(f):=Uz<|>5
def yS3{e f}(h:JB e f=true):∃a b c p,e=.IfExp a b c p/\f a b c p=true:=4<|>Uz
def zO(e:Expr)(f):=UG<|>25
def GH{e f}(h:zO e f=true):∃a k p,e=.Tuple a k p/\f a k p=true:=3<|>UG
def JD(e:Expr)(f):=UA<|>24
def yS4{e f}(h:JD e f=true):∃a p,e=.List a p/\f a p=true:=2<|>UA
def Et(e:Expr)(f):=Uy<|>6
def P6{e f}(h:Et e f=true):∃a b p,e=.Dict a b p/\f a b p=true:=3<|>Uy
def zN(e:Expr)(f):=UE<|>21
def GG{e f}(h:zN e f=true):∃a b p,e=.Subscript a b p/\f a b p=true:=3<|>UE
def JE(e:Expr)(f):=UD<|>26
def yS5{e f}(h:JE e f=true):∃a b c p,e=.Slice a b c p/\f a b c p=true:=4<|>UD
def JC(e:Expr)(f):=UB<|>8
def xj9{e f}(h:JC e f=true):∃a b c p,e=.ListComp a b c p/\f a b c p=true:=4<|>UB
def Ep(e:Expr)(f):=Uv<|>16
def P0{e f}(h:Ep e f=true):∃a b c p,e=.Call a b c p/\f a b c p=true:=4<|>Uv
def Jz(e:Expr)(f):=Us<|>20
def yS2{e f}(h:Jz e f=true):∃a x p,e=.Attribute a x p/\f a x p=true:=3<|>Us
def Es(e:Expr)(f):=Ux<|>19
def P5{e f}(h:Es e f=true):∃v k p,e=.Constant v k p/\f v k p=true:=3<|>Ux
def qw(e:bW)(f):=if h:e.ctorIdx=5 then Vd (motive_2:=λ_=>Bool) e h f else false
def QN{e f}(h:qw e f=true):∃a b p,e=.Assign a b p/\f a b p=true :=
 let⟨q,g⟩:=bV h;Vd (motive_2:=λt=>e=t->_) e q (λ_ _ _ z=>⟨_,_,_,z,by subst z;exact g⟩) rfl
def Mz(e:bW)(f):=if h:e.ctorIdx=24 then Vf (motive_2:=λ_=>Bool) e h f else false
def xe2{e f}(h:Mz e f=true):∃a p,e=.Expr a p/\f a p=true :=
 let⟨q,g⟩:=bV h;Vf (motive_2:=λt=>e=t->_) e q (λ_ _ z=>⟨_,_,z,by subst z;exact g⟩) rfl
def zF(e:bW)(f):=if h:e.ctorIdx=3 then Vi (motive_2:=λ_=>Bool) e h f else false
def xe4{e f}(h:zF e f=true):∃a p,e=.Return a p/\f a p=true :=
 let⟨q,g⟩:=bV h;Vi (motive_2:=λt=>e=t->_) e q (λ_ _ z=>⟨_,_,z,by subst z;exact g⟩) rfl
def zD(e:bW)(f):=if h:e.ctorIdx=12 then Vh (motive_2:=λ_=>Bool) e h f else false
def Z8{e f}(h:zD e f=true):∃a b c p,e=.If a b c p/\f a b c p=true :=
 let⟨q,g⟩:=bV h;Vh (motive_2:=λt=>e=t->_) e q (λ_ _ _ _ z=>⟨_,_,_,_,z,by subst z;exact g⟩) rfl
def zC(e:bW)(f):=if h:e.ctorIdx=9 then Vg (motive_2:=λ_=>Bool) e h f else false
def xe3{e f}(h:zC e f=true):∃a b c d p,e=.For a b c d p/\f a b c d p=true :=
 let⟨q,g⟩:=bV h;Vg (motive_2:=λt=>e=t->_) e q (λ_ _ _ _ _ z=>⟨_,_,_,_,_,z,by subst z;exact g⟩) rfl
def MC(e:bW)(f):=if h:e.ctorIdx=11 then Vj (motive_2:=λ_=>Bool) e h f else false
def xe5{e f}(h:MC e f=true):∃a b c p,e=.While a b c p/\f a b c p=true :=
 let⟨q,g⟩:=bV h;Vj (motive_2:=λt=>e=t->_) e q (λ_ _ _ _ z=>⟨_,_,_,_,z,by subst z;exact g⟩) rfl
def zy(e:bW)(f):=if h:e.ctorIdx=7 then Ve (motive_2:=λ_=>Bool) e h f else false
def xe1{e f}(h:zy e f=true):∃a o b p,e=.AugAssign a o b p/\f a o b p=true :=
 let⟨q,g⟩:=bV h;Ve (motive_2:=λt=>e=t->_) e q (λ_ _ _ _ z=>⟨_,_,_,_,z,by subst z;exact g⟩) rfl
def Lh(e:E)(f):=E.var.elim<|>0
def yW1{e f}(h:Lh e f=true):∃i,e=.var i/\f i=true:=1<|>E.var.elim
def zP(e:E)(f):=E.ag.elim<|>1
def Fc{e f}(h:zP e f=true):∃v,e=.ag v/\f v=true:=1<|>E.ag.elim
def Ex(e:E)(f):=E.bin.elim<|>2
def GL{e f}(h:Ex e f=true):∃q a b,e=.bin q a b/\f q a b=true:=3<|>E.bin.elim
def Le(e:E)(f):=E.neg.elim<|>3
def yV7{e f}(h:Le e f=true):∃a,e=.neg a/\f a=true:=1<|>E.neg.elim
def Lf(e:E)(f):=E.not.elim<|>4
def yV8{e f}(h:Lf e f=true):∃a,e=.not a/\f a=true:=1<|>E.not.elim
def K8(e:E)(f):=E.cmp.elim<|>5
def yV1{e f}(h:K8 e f=true):∃q a b,e=.cmp q a b/\f q a b=true:=3<|>E.cmp.elim
def K7(e:E)(f):=E.chain.elim<|>6
def yV0{e f}(h:K7 e f=true):∃q r a b c,e=.chain q r a b c/\f q r a b c=true:=5<|>E.chain.elim
def La(e:E)(f):=E.ite.elim<|>9
def yV4{e f}(h:La e f=true):∃a b c,e=.ite a b c/\f a b c=true:=3<|>E.ite.elim
def DB(e:E)(f):=E.af.elim<|>10
def yW0{e f}(h:DB e f=true):∃a,e=.af a/\f a=true:=1<|>E.af.elim
def Lc(e:E)(f):=E.list.elim<|>11
def yV5{e f}(h:Lc e f=true):∃m a,e=.list m a/\f m a=true:=2<|>E.list.elim
def Ey(e:E)(f):=E.dict.elim<|>12
def Qh{e f}(h:Ey e f=true):∃k a,e=.dict k a/\f k a=true:=2<|>E.dict.elim
def Lb(e:E)(f):=E.ix.elim<|>13
def xm5{e f}(h:Lb e f=true):∃a b,e=.ix a b/\f a b=true:=2<|>E.ix.elim
def Lg(e:E)(f):=E.slice.elim<|>14
def yV9{e f}(h:Lg e f=true):∃a b c,e=.slice a b c/\f a b c=true:=3<|>E.slice.elim
def K6(e:E)(f):=E.call.elim<|>15
def yU9{e f}(h:K6 e f=true):∃k a,e=.call k a/\f k a=true:=2<|>E.call.elim
def v_(e:E)(f):=E.blt.elim<|>16
def AW{e f}(h:v_ e f=true):∃y a,e=.blt y a/\f y a=true:=2<|>E.blt.elim
def Ld(e:E)(f):=E.cD.elim<|>17
def yV6{e f}(h:Ld e f=true):∃m a b,e=.cD m a b/\f m a b=true:=3<|>E.cD.elim
def K_(e:E)(f):=E.freeze.elim<|>19
def yV3{e f}(h:K_ e f=true):∃a,e=.freeze a/\f a=true:=1<|>E.freeze.elim
def zQ(e:E)(f):=E.fK.elim<|>20
def Fd{e f}(h:zQ e f=true):∃a,e=.fK a/\f a=true:=1<|>E.fK.elim
def Ls(e:It)(f):=if h:e.ctorIdx=0 then It.of.elim (motive_2:=λ_=>Bool) e h f else false
def xn7{e f}(h:Ls e f=true):∃a,e=.of a/\f a=true :=
 let⟨q,g⟩:=bV h;It.of.elim (motive_2:=λt=>e=t->_) e q (λ_ z=>⟨_,z,by subst z;exact g⟩) rfl
def Lu(e:It)(f):=if h:e.ctorIdx=1 then It.range.elim (motive_2:=λ_=>Bool) e h f else false
def yX0{e f}(h:Lu e f=true):∃a,e=.range a/\f a=true :=
 let⟨q,g⟩:=bV h;It.range.elim (motive_2:=λt=>e=t->_) e q (λ_ z=>⟨_,z,by subst z;exact g⟩) rfl
def Lv(e:It)(f):=if h:e.ctorIdx=2 then It.zip.elim (motive_2:=λ_=>Bool) e h f else false
def yX1{e f}(h:Lv e f=true):∃a,e=.zip a/\f a=true :=
 let⟨q,g⟩:=bV h;It.zip.elim (motive_2:=λt=>e=t->_) e q (λ_ z=>⟨_,z,by subst z;exact g⟩) rfl
def EH(e:S)(f):=S.expr.elim<|>0
def NY{e f}(h:EH e f=true):∃a,e=.expr a/\f a=true:=1<|>S.expr.elim
def Rv(e:S)(f):=S.ret.elim<|>1
def xf4{e f}(h:Rv e f=true):∃a,e=.ret a/\f a=true:=1<|>S.ret.elim
def zX(e:S)(f):=S.set.elim<|>2
def Fl{e f}(h:zX e f=true):∃i a,e=.set i a/\f i a=true:=2<|>S.set.elim
def Rz(e:S)(f):=S.mR.elim<|>4
def xf5{e f}(h:Rz e f=true):∃a b c,e=.mR a b c/\f a b c=true:=3<|>S.mR.elim
def Q5(e:S)(f):=S.ite.elim<|>8
def η{e f}(h:Q5 e f=true):∃a b c,e=.ite a b c/\f a b c=true:=3<|>S.ite.elim
def QV(e:S)(f):=if h:e.ctorIdx=9 then S.«for».elim (motive_1:=λ_=>Bool) e h f else false
def xf3{e f}(h:QV e f=true):∃a b c,e=.for a b c/\f a b c=true :=
 let⟨q,g⟩:=bV h;S.«for».elim (motive_1:=λt=>e=t->_) e q (λ_ _ _ z=>⟨_,_,_,z,by subst z;exact g⟩) rfl
def R0(e:S)(f):=if h:e.ctorIdx=10 then S.«while».elim (motive_1:=λ_=>Bool) e h f else false
def xf6{e f}(h:R0 e f=true):∃a b,e=.while a b/\f a b=true :=
 let⟨q,g⟩:=bV h;S.«while».elim (motive_1:=λt=>e=t->_) e q (λ_ _ z=>⟨_,_,z,by subst z;exact g⟩) rfl
def QO(e:S)(f):=S.mw.elim<|>7
def xf2{e f}(h:QO e f=true):∃i q a,e=.mw i q a/\f i q a=true:=3<|>S.mw.elim
@[reducible] def cX:=Gm->Rc->Gc->Expr->E->Bool
@[reducible] def rX:=Gm->Rc->Gc->Expr->Expr->It->Bool
@[reducible] def i7:=Gm->Rc->Gc->bW->S->Bool
@[reducible] def dv(r:cX):Prop:=∀{M R PR W d Y X e ir},Rc.Ok M PR W d R->Hx M Y X PR W d->r M R Y e ir=true->SE X (a0 PR W d) e ir
@[reducible] def rV(r:cX):Prop:=∀{M R PR W d Y X e ir},Rc.Ok M PR W d R->Hx M Y X PR W d->r M R Y e ir=true->ST X (a0 PR W d) e ir
@[reducible] def uS(r:rX):Prop:=∀{M R PR W d Y X tg e ir},Rc.Ok M PR W d R->Hx M Y X PR W d->r M R Y tg e ir=true->SI X (a0 PR W d) tg e ir
@[reducible] def jD(r:i7):Prop:=∀{M R PR W d Y X e ir},Rc.Ok M PR W d R->Hx M Y X PR W d->r M R Y e ir=true->SS X (a0 PR W d) W e ir
def cU{a b:Bool}(h:(a&&b)=true):a=true/\b=true:=Bn.1 h
theorem dc{p:Prop}[Decidable p](h:decide p=true):p:=of_decide_eq_true h
def nt{a:Bool}(h:(!a)=true):a=false:=by simpa using h
def oS{O:Type}(o:Option O)(f:O->Bool):Bool:=match o with
 |some a=>f a
 |none=>false
variable{O:Type}
def NO{o:Option O}{f:O->Bool}(h:oS o f=true):∃a,o=aa a/\f a=true:=by
 cases o
 .cases h
 .exact(_,rfl,h)
def lc{O:Type}(l:List O)(f:O->List O->Bool):Bool:=match l with
 |a::r=>f a r
 |[]=>false
def nu{l:List O}{f:O->List O->Bool}(h:lc l f=true):∃a r,l=a::r/\f a r=true:=by
 cases l
 .cases h
 .exact(_,_,rfl,h)
def l1{O:Type}(l:List O)(f:O->Bool):Bool:=lc l λa r=>r.isEmpty&&f a
def lN{l:List O}{f:O->Bool}(h:l1 l f=true):∃a,l=[a]/\f a=true:=by
 let(a,r,rfl,g):=nu h;cases r
 .exact(a,rfl,g)
 .cases g
abbrev Wj(c:Const):PV->Bool
 |.aL=>decide (c=.none)
 |.bl j=>decide (c=.bool j)
 |.int j=>decide (c=.int j)
 |.str s=>decide (c=.str ⟨s.toArray⟩/\s.length<=1000)
 |.af _=>false
 |.ai _=>false
def OI:cX:=λ_ _ _ e ir=>Es e λc _ _=>zP ir (Wj c)
def yX3:dv OI:=λo h g=>by
 let(c,_,_,rfl,g1):=P5 g;let(v,rfl,g2):=Fc g1;cases v with
 |aL=>rw[dc g2];exact xx1
 |bl j=>rw[dc g2];exact xR6
 |int j=>rw[dc g2];exact xw5
 |str s=>rw[(dc g2).1];exact xx4 rfl (dc g2).2
 |_=>cases g2
def Nb:cX:=λ_ _ Y e ir=>m6 e λx _=>Lh ir λi=>decide (Y.N[i]?=aa x/\n5 Y.sc x/\(x==("__debug__" : Str))=false/\(x==("__classdict__" : Str))=false)
def xN4:dv Nb:=λo h g=>by
 let(x,_,rfl,g1):=pq g;let(i,rfl,g2):=yW1 g1;let(a,b,c,d):=dc g2;rw[<-h.N]at a;rw[<-h.sc]at b;exact sv _ a b c d
def MZ:cX:=λM _ Y e ir=>m6 e λx _=>zP ir λv=>decide (M.cs.lookup x=aa v/\u3 Y x)
def xL9:dv MZ:=λo h g=>by
 let(x,_,e1,g1):=pq g;let(i,e2,g2):=Fc g1;rw[e1,e2];exact h.m.cs _ _ (dc g2).1 _ _ _ rfl rfl (E9 h (dc g2).2).1
def oY(op:me)(b:ke):cX:=λ_ R Y e ir=>JA e λx p y _=>Ex ir λq ix iy=>decide (p=op/\q=b/\R.e Y x ix/\R.e Y y iy)
def sZ{op:me}{b:ke}(ho:∀X:Cx,X.A.units+200<c8->cw X (binaryOp op) (iu b)):dv (oY op b):=λo h g=>by
 let(x,_,y,_,e1,g1):=PY g;let(_,_,_,e2,g2):=GL g1;let(e3,e4,a,b):=dc g2;rw[e1,e2,e3,e4];exact xS1 (ho _ h.u2) (o.e h a) (o.e h b) λ_ _=>tL
def M5:cX:=λ_ R Y e ir=>CA e λp x _=>Le ir λix=>decide (p=.USub/\R.e Y x ix)
def xM6:dv M5:=λo h g=>by
 let(_,_,_,e1,g1):=N5 g;let(_,e2,g2):=yV7 g1;let(e3,a):=dc g2;rw[e1,e2,e3];exact xx0 (o.e h a)
def Ef(f:Expr->E->Bool)(e:Expr)(ir:E):Bool:=CA e λp x _=>Lf ir λix=>decide (p=.Not/\f x ix)
variable{e:Expr}
def MU{f:Expr->E->Bool}(g:Ef f e ir=true):∃x p i,e=.UnaryOp .Not x p/\ir=.not i/\f x i=true:=by
 let(_,_,_,e1,g1):=N5 g;let(_,e2,g2):=yV8 g1;let(e3,a):=dc g2;rw[e1,e2,e3];exact(_,_,_,rfl,rfl,a)
def M6:cX:=λ_ R Y=>Ef (R.e Y)
def xM7:dv M6:=λo h g=>by
 let(_,_,_,e1,e2,a):=MU g;rw[e1,e2];exact xx2 (o.e h a)
def gr(op:kZ)(b:kg):cX:=λ_ R Y e ir=>Er e λx p y _=>K8 ir λq ix iy=>l1 y λy=>decide (p=[op]/\q=b/\nU op y=false/\R.e Y x ix/\R.e Y y iy)
variable{op:kZ}{b:kg}{M:Gm}{R:Rc}{Y:Gc}
def N4(g:gr op b M R Y e ir=true):∃x y p ix iy,e=.Compare x [op] [y] p/\ir=.cmp b ix iy/\nU op y=false/\R.e Y x ix/\R.e Y y iy:=by
 let(_,_,_,_,e1,g1):=P4 g;let(_,_,_,e2,g2):=yV1 g1;let(_,e3,g3):=lN g2;let(e4,e5,a):=dc g3;rw[e1,e2,e3,e4,e5];exact(_,_,_,_,_,rfl,rfl,a)
def qG(ho:∀X:Cx,X.A.units+200<c8->cw X (compareOp op) (dI b)):dv (gr op b):=λo h g=>by
 let(_,_,_,_,_,e1,e2,m,x,y):=N4 g;rw[e1,e2];exact xw4 (ho _ h.u2) (o.e h x) (o.e h y) m λ_ _=>N9
def qN(ho:∀X:Cx,X.A.units+200<c8->cw X (compareOp op) (dI b)):rV (gr op b):=λo h g=>by
 let(_,_,_,_,_,e1,e2,m,x,y):=N4 g;rw[e1,e2];exact xz8 (ho _ h.u2) (o.e h x) (o.e h y) m λ_ _=>N9
def wC(op cR:kZ)(b b':kg):cX:=λ_ R Y e ir=>Er e λx p y _=>K7 ir λq q' ix iy iz=>lc y λy z=>l1 z λz=>decide (p=[op,cR]/\q=b/\q'=b'/\uG [op,cR] [y,z]=false/\R.e Y x ix/\R.e Y y iy/\R.e Y z iz)
def OU{cR:kZ}{b':kg}(g:wC op cR b b' M R Y e ir=true):∃x y z p ix iy iz,e=.Compare x [op,cR] [y,z] p/\ir=.chain b b' ix iy iz/\uG [op,cR] [y,z]=false/\R.e Y x ix/\R.e Y y iy/\R.e Y z iz:=by
 let(_,_,_,_,e1,g1):=P4 g;let(_,_,_,_,_,e2,g2):=yV0 g1;let(_,_,e3,g3):=nu g2;let(_,e4,g4):=lN g3;let(e5,e6,e7,a):=dc g4;rw[e1,e2,e3,e4,e5,e6,e7];exact(_,_,_,_,_,_,_,rfl,rfl,a)
section
variable{op cR:kZ}{b b':kg}(ho:∀X:Cx,cw X (compareOp op) (dI b))(fy:∀X:Cx,cw X (compareOp cR) (dI b'))(hB:∀x y z,dI b x y=aa z->∃k,z=.bl k)
include ho fy hB
def yX2:dv (wC op cR b b'):=λo h g=>by
 let(_,_,_,_,_,_,_,e1,e2,m,x,y,z):=OU g;rw[e1,e2];exact yJ7 (ho _) (fy _) hB (o.e h x) (o.e h y) (o.e h z) m
def yF8:rV (wC op cR b b'):=λo h g=>by
 let(_,_,_,_,_,_,_,e1,e2,m,x,y,z):=OU g;rw[e1,e2];exact yK9 (ho _) (fy _) hB (o.e h x) (o.e h y) (o.e h z) m
end
abbrev cW(f:Expr->E->Bool)(an:Bool):List Expr->E->Bool
 |[],_=>false
 |[a],i=>f a i
 | a::b::r,i=>match i with
  |.and i j=>an&&(f a i&&cW f an (b::r) j)
  |.or i j=>!an&&(f a i&&cW f an (b::r) j)
  |_=>false
section
variable{M:Gm}{R:Rc}{PR:List FD}{W d:Nat}{Y:Gc}{X:Cx}{pos:aU}
def Eg{op:BoolOp}(o:R.Ok M PR W d)(h:Hx M Y X PR W d):∀{es:List Expr}{ir:E},cW (R.e Y) (decide (op=.And)) es ir=true->SE X (a0 PR W d) (.BoolOp op es pos) ir
 |[],_,g=>by cases g
 |[a],i,g=>xx3 (o.e h g)
 | a::b::r,i,g=>by
  unfold cW at g;split at g
  .let(c,g1):=cU g;obtain rfl:=dc c;exact xw3 (o.e h (cU g1).1) (Eg o h (cU g1).2)
  .cases op<;>first |cases g;done |exact xS2 (o.e h (cU (cU g).2).1) (Eg o h (cU (cU g).2).2)
  .cases g
def Eh{op:BoolOp}(o:R.Ok M PR W d)(h:Hx M Y X PR W d):∀{es:List Expr}{ir:E},cW (R.t Y) (decide (op=.And)) es ir=true->SW X (a0 PR W d) (.BoolOp op es pos) ir
 |[],_,g=>by cases g
 |[a],i,g=>by cases op<;>first |exact xd9 (o.t h g)|exact Z5 (o.t h g)
 | a::b::r,i,g=>by
  unfold cW at g;split at g
  .let(c,g1):=cU g;obtain rfl:=dc c;exact Z4 (o.t h (cU g1).1) (Eh o h (cU g1).2)
  .cases op<;>first |cases g;done |exact xS4 (o.t h (cU (cU g).2).1) (Eh o h (cU (cU g).2).2)
  .cases g
end
def Nj:cX:=λ_ R Y e ir=>Eo e λop es _=>cW (R.e Y) (decide (op=.And)) es ir
def xo0:dv Nj:=λo h g=>by
 let(_,_,_,e1,g1):=PZ g;rw[e1];exact Eg o h g1
def OL:cX:=λ_ R Y e ir=>Eo e λop es _=>cW (R.t Y) (decide (op=.And)) es ir
def yX7:rV OL:=λo h g=>by
 let(_,_,_,e1,g1):=PZ g;rw[e1];exact xS5 (Eh o h g1)
def Nx:cX:=λ_ R Y=>Ef (R.t Y)
def xp2:rV Nx:=λo h g=>by
 let(_,_,_,e1,e2,a):=MU g;rw[e1,e2];exact xz9 (o.t h a)
def Ny:cX:=λ_ R Y e ir=>tv e&&R.e Y e ir
def xp3:rV Ny:=λo h g=>Z1 (o.e h (cU g).2) (xT6 (cU g).1)
def M3:cX:=λ_ R Y e ir=>JB e λc a b _=>La ir λx y z=>decide (R.t Y c x/\R.e Y a y/\R.e Y b z)
def xM4:dv M3:=λo h g=>by
 let(_,_,_,_,e1,g1):=yS3 g;let(_,_,_,e2,g2):=yV4 g1;let(x,y,z):=dc g2;rw[e1,e2];exact xw6 (o.t h x) (o.e h y) (o.e h z)
def Na:cX:=λ_ R Y e ir=>zO e λes _ _=>DB ir λis=>decide (es.length<=1000/\aB R Y es is)
def xN2:dv Na:=λo h g=>by
 let(_,_,_,e1,g1):=GH g;let(_,e2,g2):=yW0 g1;rw[e1,e2];exact xx5 (jO o h (dc g2).2) (dc g2).1 (EW (dc g2).2)
def DK(R:Rc)(Y:Gc)(e:Expr)(ir:E):Bool:=JD e λes _=>Lc ir λm is=>decide (m=false/\es.length<=1000/\aB R Y es is)
def NL(g:DK R Y e ir=true):∃es p is,e=.List es p/\ir=.list false is/\es.length<=1000/\aB R Y es is:=by
 let(_,_,e1,g1):=yS4 g;let(_,_,e2,g2):=yV5 g1;let(e3,a):=dc g2;rw[e1,e2,e3];exact(_,_,_,rfl,rfl,a)
def M4:cX:=λ_ R Y=>DK R Y
def xM5:dv M4:=λo h g=>by
 let(_,_,_,e1,e2,l,a):=NL g;rw[e1,e2];exact xw7 (jO o h a) l (EW a)
def M_:cX:=λ_ R Y e ir=>zQ ir (DK R Y e)
def xN1:dv M_:=λo h g=>by
 let(_,e1,g1):=Fd g;let(_,_,_,e2,e3,l,a):=NL g1;rw[e1,e2,e3];exact QJ (xx9 (jO o h a) l (EW a))
def M9:cX:=λM R Y e ir=>zQ ir (oY .Add .add M R Y e)
def xN0:dv M9:=λo h g=>by
 let(_,e1,g0):=Fd g;let(_,_,_,_,e2,g1):=PY g0;let(_,_,_,e3,g2):=GL g1;let(e4,e5,a,b):=dc g2;rw[e1,e2,e3,e4,e5];exact QJ (xx8 (o.e h a) (o.e h b))
def Jr:cX:=λ_ _ _ e ir=>Et e λks vs _=>Ey ir λps is=>ks.isEmpty&&(vs.isEmpty&&(ps.isEmpty&&is.isEmpty))
def Yo:dv Jr:=λo h g=>by
 let(_,_,_,rfl,g1):=P6 g;let(_,_,rfl,g2):=Qh g1;simp only[bP,l4]at g2;let(rfl,rfl,rfl,rfl):=g2;exact yJ9
def JM(e:Expr)(v:PV):Bool:=Es e λc _ _=>match v with
 |.int j=>decide (c=.int j)
 |.str s=>decide (c=.str ⟨s.toArray⟩)
 |_=>false
variable{X:Cx}
def π{p:PV}(g:JM e p=true):PE X e (tC (kV (jQ p))):=by
 let(c,_,_,rfl,g1):=P5 g;cases p with
 |int j=>rw[dc g1];exact xy5
 |str s=>rw[dc g1];exact xy6 rfl
 |_=>cases g1
abbrev dB(R:Rc)(Y:Gc):List (Option Expr)->List Expr->List PV->List E->Bool
 |[],vs,ps,is=>vs.isEmpty&&(ps.isEmpty&&is.isEmpty)
 |k::ks,vs,ps,is=>oS k λk=>lc vs λv vs=>lc ps λp ps=>lc is λi is=>JM k p&&(R.e Y v i&&dB R Y ks vs ps is)
def JF{M:Gm}{R:Rc}{PR:List FD}{W d:Nat}{Y:Gc}{X:Cx}{pos:aU}(o:R.Ok M PR W d)(h:Hx M Y X PR W d):∀{ks:List (Option Expr)}{vs:List Expr}{ps:List PV}{is:List E},dB R Y ks vs ps is=true->mq X pos ks vs (jL X.K (a0 PR W d) ps is)
 | [],vs,ps,is,g=>by
  simp only[dB,bP,l4]at g;let(rfl,rfl,rfl):=g;exact xz2
 | k::ks,vs,ps,is,g=>by
  let(_,rfl,g1):=NO g;let(_,_,rfl,g2):=nu g1;let(_,_,rfl,g3):=nu g2;let(_,_,rfl,g4):=nu g3;exact xd4 (π (cU g4).1) (o.e h (cU (cU g4).2).1) (JF o h (cU (cU g4).2).2)
def Nn:cX:=λ_ R Y e ir=>Et e λks vs _=>Ey ir λps is=>decide (ps.all jV/\ps.length=is.length/\ks.all (·.isSome)/\ks.length=vs.length/\ks.isEmpty=false/\ks.length<=15/\ps.length<=15/\dB R Y ks vs ps is)
def xo3:dv Nn:=λo h g=>by
 let(_,_,_,e1,g1):=P6 g;let(_,_,e2,g2):=Qh g1;let(a,b,c,d,e,f,j,g):=dc g2;rw[e1,e2];exact xc4 (JF o h g) a b c d (List.isEmpty_eq_false_iff.1 e) f j
def OK:cX:=λ_ R Y e ir=>zN e λa b _=>JE b λlo hi s _=>Lg ir λia l k=>decide (s.isNone/\R.e Y a ia/\oB R Y lo l/\oB R Y hi k)
def yX6:dv OK:=λo h g=>by
 let(_,_,_,e1,g1):=GG g;let(_,_,_,_,e2,g2):=yS5 g1;let(_,_,_,e3,g3):=yV9 g2;let(n,a,b,c):=dc g3;rw[e1,e2,e3,BJ.1 n];exact yK0 (o.e h a) (LY o h b) (LY o h c)
def Jt:cX:=λ_ R Y e ir=>zN e λa b _=>Lb ir λia ib=>decide (pl b/\R.e Y a ia/\R.e Y b ib)
def Yq:dv Jt:=λo h g=>by
 let(_,_,_,e1,g1):=GG g;let(_,_,e2,g2):=xm5 g1;let(p,a,b):=dc g2;rw[e1,e2];exact xS0 h.u1 (o.e h a) (o.e h b) (xQ5 p)
def M1:cX:=λ_ R Y e ir=>K_ ir (R.e Y e)
def xM1:dv M1:=λo h g=>by
 let(_,e1,g1):=yV3 g;rw[e1];exact yy5 (o.e h g1)
def oE(e:Expr)(f:Str->List Expr->Bool):Bool:=Ep e λn es ks _=>m6 n λx _=>ks.isEmpty&&f x es
def qO{f:Str->List Expr->Bool}(g:oE e f=true):∃x p es q,e=.Call (.Name x p) es [] q/\f x es=true:=by
 let(_,_,_,_,rfl,g1):=P0 g;let(_,_,rfl,g2):=pq g1;rw[l4.1 (cU g2).1];exact(_,_,_,_,rfl,(cU g2).2)
def Nk:cX:=λM R Y e ir=>oE e λx es=>K6 ir λk is=>decide (u3 Y x/\aB R Y es is/\(M.fs[k]?.map λq=>(q.1,q.2.length))=aa (x,is.length))
def xo1:dv Nk:=λo h g=>by
 let(_,_,es,_,e1,g1):=qO g;let(_,is,e2,g2):=yU9 g1;let(g3,a,m):=dc g2;rw[e1,e2];clear e1 e2 g g1 g2;rw[d9]at m;obtain⟨⟨x,ps⟩,e,z⟩:=m;let(rfl,l):=Prod.mk.inj z;let(f,fd,b,c,d,F):=h.m.fs _ _ _ e;let⟨r,q⟩:=E9 h g3;let l:is.length=ps.length:=l.symm;cases es with
 |cons e es=>exact xc3 F h.rm r b c d (jO o h a) l q (oN a) (qE a)
 |nil=>
  cases is with
  |cons _ _=>cases a
  |nil=>
   cases ps with
   |nil=>exact yJ5 F h.rm r b c d q
   |cons _ _=>cases l
def jS(x:Str)(f:Bf):cX:=λM R Y e ir=>oE e λy es=>v_ ir λb is=>lc es λa r=>decide (y=x/\b=f/\zB M Y x/\aB R Y (a::r) is)
variable{x:Str}{f:Bf}
def N1(g:jS x f M R Y e ir=true):∃p a r q is,e=.Call (.Name x p) (a::r) [] q/\ir=.blt f is/\zB M Y x/\aB R Y (a::r) is:=by
 let(_,_,_,_,e1,g1):=qO g;let(_,_,e2,g2):=AW g1;let(_,_,e3,g3):=nu g2;let(e4,e5,a):=dc g3;rw[e1,e2,e3,e4,e5];exact(_,_,_,_,_,rfl,rfl,a)
def s_{id:String}(hn:x ≠ "__name__")(hv:gD x=aa (.builtin id))(hc:∀X:Cx,X.calm=true->X.A.units+200<c8->X.A.guards=aa []->jr X (.builtin id) (bfOp f)):dv (jS x f):=λo h g=>by
 let(_,_,_,_,_,e1,e2,z,a):=N1 g;let(p,q,r):=iS h z;rw[e1,e2];exact yJ6 (hc _ h.cm h.u2 h.rm.gd) (λ_ _=>Ap) q p hv (jO o h a) hn r (oN a) (qE a)
def ED{id:String}(hn:x ≠ "__name__")(hv:gD x=aa (.type id))(hc:∀X:Cx,jr X (.type id) (bfOp f)):dv (jS x f):=λo h g=>by
 let(_,_,_,_,_,e1,e2,z,a):=N1 g;let(p,q,r):=iS h z;rw[e1,e2];exact yy4 (hc _) (λ_ _=>Ap) q p hv (jO o h a) hn r (oN a) (qE a)
def wL(x:Str)(t:Ty):cX:=λM R Y e ir=>oE e λy es=>v_ ir λb is=>l1 is λia=>lc es λa r=>l1 r λz=>m6 z λz _=>decide (y = "isinstance" /\ z=x/\b=.mN t/\zB M Y "isinstance" /\ zB M Y x/\pl a/\R.e Y a ia)
def As{t:Ty}(hn:x ≠ "__name__")(hv:gD x=aa (.type (wW t))):dv (wL x t):=λo h g=>by
 let(_,_,_,_,e1,g1):=qO g;let(_,_,e2,g2):=AW g1;let(_,e3,g3):=lN g2;let(_,_,e4,g4):=nu g3;let(_,e5,g5):=lN g4;let(_,_,e6,g6):=pq g5;let(e7,e8,e9,y,z,b,a):=dc g6;let(p,q,r):=iS h y;let(p',q',r'):=iS h z;rw[e1,e2,e3,e4,e5,e6,e7,e8,e9];exact yy6 _ q p (by decide +kernel) q' p' hv (o.e h a) hn r' (tJ b) rfl rfl
def M2:rX:=λ_ R Y _ e ir=>Ls ir (R.e Y e)
def xM3:uS M2:=λo h g=>by
 let(_,e1,g1):=xn7 g;rw[e1];exact xy2 (o.e h g1)
def NZ:rX:=λM R Y _ e ir=>oE e λx es=>Lu ir λia=>l1 es λa=>decide (x = "range" /\ zB M Y "range" /\ pl a/\R.e Y a ia)
def yF7:uS NZ:=λo h g=>by
 let(_,_,_,_,e1,g1):=qO g;let(_,e2,g2):=yX0 g1;let(_,e3,g3):=lN g2;let(e4,z,b,a):=dc g3;rw[e1,e2,e3,e4];exact yK5 (iS h z).2.1 (iS h z).1 (o.e h a) (tJ b)
def Ee(M:Gm)(R:Rc)(Y:Gc)(n:Str)(tg e:Expr)(is:List E):Bool:=zO tg λ_ _ _=>oE e λx es=>lc es λa r=>decide (x=n/\zB M Y n/\aB R Y (a::r) is)
variable{is:List E}
def MT{n:Str}{tg:Expr}(g:Ee M R Y n tg e is=true):∃l k p q a r s,tg=.Tuple l k p/\e=.Call (.Name n q) (a::r) [] s/\zB M Y n/\aB R Y (a::r) is:=by
 let(_,_,_,e1,g1):=GH g;let(_,_,_,_,e2,g2):=qO g1;let(_,_,e3,g3):=nu g2;let(e4,a):=dc g3;rw[e1,e2,e3,e4];exact(_,_,_,_,_,_,_,rfl,rfl,a)
def Nr:rX:=λM R Y tg e ir=>Lv ir λis=>decide ((is.length=2\/is.length=3)/\Ee M R Y "zip" tg e is)
def xo6:uS Nr:=λo h g=>by
 let(_,e1,g1):=yX1 g;let(_,_,_,_,_,_,_,e2,e3,z,a):=MT (dc g1).2;rw[e1,e2,e3];exact xy3 (dc g1).1 (iS h z).2.1 (iS h z).1 (by decide +kernel) (jO o h a) (oN a) (qE a)
def ML(M:Gm)(R:Rc)(Y:Gc)(f g:Str)(e:Expr)(is:List E):Bool:=oE e λx es=>l1 es λe=>oE e λy es=>l1 es λa=>decide (x=f/\y=g/\zB M Y f/\zB M Y g/\aB R Y [a] is)
def xe8{f g:Str}(k:ML M R Y f g e is=true):∃p q a r s,e=.Call (.Name f p) [.Call (.Name g q) [a] [] r] [] s/\zB M Y f/\zB M Y g/\aB R Y [a] is:=by
 let(_,_,_,_,e1,g1):=qO k;let(_,e2,g2):=lN g1;let(_,_,_,_,e3,g3):=qO g2;let(_,e4,g4):=lN g3;let(e5,e6,a):=dc g4;rw[e1,e2,e3,e4,e5,e6];exact(_,_,_,_,_,rfl,a)
def Nt:cX:=λM R Y e ir=>v_ ir λb is=>decide (b=.sL/\ML M R Y "len" "set" e is)
def xo7:dv Nt:=λo h g=>by
 let(_,_,e1,g1):=AW g;let(e2,k):=dc g1;let(_,_,_,_,_,e3,z,y,a):=xe8 k;rw[e1,e2,e3];exact yy7 h.cm h.u2 (λ_ _=>Ap) (iS h z).2.1 (iS h z).1 (iS h y).2.1 (iS h y).1 (jO o h a) (oN a) rfl rfl rfl
variable{env:j9}
def Oe{es:List Expr}{di:aU}(h:es.all pl=true)(l:es.length<30):((dW di (bA es env)).all (λx=>!x.1)&&(BS di (BY [] env)).all (λx=>x.1.isSome)
      && decide (es.length+([]:List nP).length+(if([]:List nP).isEmpty then 0 else 1)<30))=true:=by
  rw[Ot h];show decide _=true;exact decide_eq_true l
def DO(f:Nat->Bool)(name:Str)(m:Mt):cX:=λ_ R Y e ir=>Ep e λn es ks cp=>Jz n λo nm ap=>Ld ir λm' io is=>decide (nm=name/\m'=m/\ks.isEmpty/\f es.length/\ab o/\(ap.endLine==cp.line)=true/\es.length<30/\R.e Y o io/\aB R Y es is)
def E_{f:Nat->Bool}{name:Str}{m:Mt}(g:DO f name m M R Y e ir=true):∃o ap es cp io is,e=.Call (.Attribute o name ap) es [] cp/\ir=.cD m io is/\f es.length/\ab o/\(ap.endLine==cp.line)=true/\es.length<30/\R.e Y o io/\aB R Y es is:=by
 let(_,_,_,_,e1,g1):=P0 g;let(_,_,_,e2,g2):=yS2 g1;let(_,_,_,e3,g3):=yV6 g2;let(e4,e5,k,a):=dc g3;rw[e1,e2,e3,e4,e5,l4.1 k];exact(_,_,_,_,_,_,rfl,rfl,a)
abbrev m5:Str->Mt->cX:=DO λn=>n != 0
abbrev Nu:Str->Mt->cX:=DO λn=>n==0
def xh1(g:aB R Y [] is=true):is=[]:=by
 cases is
 .rfl
 .cases g
section
variable{name:Str}{id:String}{m:Mt}{g:List PV->List PV->Option (PV×List PV)}(slot:Slot "list" name id)(d4:rP (.builtin id)=pure (.type "method_descriptor"))
include slot d4
def NK(hm:∀X,ym X id g)(hg:∀v vs st,d8 m v vs st=(match iR vs with |some xs=>iw v st (g xs)|none=>.stuck)):dv (m5 name m):=λo h k=>by
 let(_,_,es,_,_,_,rfl,rfl,c,b,l,n,q,a):=E_ k;cases es
 .cases c
 .exact xw8 slot d4 (hm _) (o.e h q) (jO o h a) hg (EX b) (Oe (zM a) n) l (oN a) (qE a)
def xo9(hm:∀X,Ce X id g)(hg:∀v st,d8 m v [] st=iw v st (g [])):dv (Nu name m):=λo h k=>by
 let(_,_,es,_,_,_,rfl,rfl,c,b,l,n,q,a):=E_ k;cases es
 .cases xh1 a;exact xc6 slot d4 (hm _) (o.e h q) hg (EX b) l
 .cases c
end
section
variable{name:Str}{id:String}{m:Mt}{g:PV->List PV->Option PV}(slot:Slot "str" name id)(d4:rP (.builtin id)=pure (.type "method_descriptor"))(hm:∀X,p9 X id g)
include slot d4 hm
def wq(hg:∀v vs st,d8 m v vs st=(match bQ st vs with |some xs=>(match view st v with |some x=>cQ (g x xs) st |none=>.stuck)|none=>.stuck))(Dt:∀x xs z,g x xs=aa z->∃cs,x=.str cs):dv (m5 name m):=λo h k=>by
 let(_,_,es,_,_,_,rfl,rfl,c,b,l,n,q,a):=E_ k;cases es
 .cases c
 .exact xw9 slot d4 (hm _) (o.e h q) (jO o h a) hg Dt (EX b) (Oe (zM a) n) l (oN a) (qE a)
end
abbrev CL(Y:Gc):List Expr->List Nat->Bool
 |[],is=>is.isEmpty
 |e::r,is=>lc is λi s=>m6 e λx _=>sM Y i x&&CL Y r s
abbrev gB(Y:Gc)(e:Expr):Tg->Bool
 |.name i=>m6 e λx _=>sM Y i x
 |.af is=>zO e λes _ _=>CL Y es is
section
variable{M:Gm}{R:Rc}{PR:List FD}{W d:Nat}{Y:Gc}{X:Cx}{e:Expr}{t:Tg}
def NG(h:Hx M Y X PR W d):∀{es:List Expr}{is:List Nat},CL Y es is=true->iF X es (vV X.K is)/\(i0 es X.env).length=is.length/\(i0 es X.env).findIdx? (·.1)=aj
 |[],is,g=>by rw[l4.1 g];exact(xc8,rfl,rfl)
 | e::r,is,g=>by
  let(i,s,e1,g1):=nu g;let(x,p,e2,g2):=pq g1;let(a,b,c):=gK h (cU g2).1;let(q,l,f):=NG h (cU g2).2;rw[e1,e2];refine(yK2 (h.N▸h.nd) a b q c rfl,congrArg (· + 1) l,?_);show((false,_)::i0 r X.env).findIdx? _=aj;rw[List.findIdx?_cons,f];rfl
def JR(h:Hx M Y X PR W d)(g:gB Y e t=true):SG X e t:=by
 cases t with
 |name i=>
  let(x,p,e2,g2):=pq g;let(a,b,c):=gK h g2;rw[e2];exact xc7 (h.N▸h.nd) a b c
 |af is=>
  let(es,k,p,e2,g2):=GH g;let(q,l,f):=NG h g2;rw[e2];exact xy0 h.cm q l f
end
abbrev ZL:Expr->List Str
 |.Name x _=>[x]
 | .Tuple es _ _=>es.filterMap fun
  |.Name x _=>aa x
  |_=>aj
 |_=>[]
def cN(Y:Gc)(bc:List Nat)(tg:Expr):List Str:=bc.filterMap (Y.N[·]?)++ZL tg
def gC(Y:Gc)(scope:cB)(N:List Str):Gc:=⟨N,{ scope with names:=xu scope Y.sc },λx=>scope.names.any λy=>y.1==x&&y.2 == .cell⟩
section
variable{M:Gm}{R:Rc}{PR:List FD}{W d:Nat}{Y:Gc}{X:Cx}{scope:cB}{N:List Str}
def Hx.comp(h:Hx M Y X PR W d)(nd:(gC Y scope N).N.Nodup)(cl s₀ H₀ ex pn):Hx M (gC Y scope N) (jl X scope N cl s₀ H₀ ex pn) PR W d :=
 ⟨h.m,h.cm,h.rm,rfl,by unfold gC;rw[<-h.sc];rfl,rfl,nd,rfl⟩
end
def K9(e:E)(f):=E.comp.elim<|>18
def yV2{e f}(h:K9 e f=true):∃m a t i c k n,e=.comp m a t i c k n/\f m a t i c k n=true:=7<|>E.comp.elim
def yu(R:Rc)(Y:Gc)(e:Expr)(ir:E):Bool:=JC e λbU gs scope _=>l1 gs λG=>K9 ir λm dj t it cond bc n=>let N:=cN Y bc G.target;let Y':=gC Y scope N
 decide (m=false/\G.is_async=0/\F_ Y.N Y.sc scope N bc n/\Y'.N.Nodup/\pl G.iter/\R.i Y G.target G.iter it/\gB Y' G.target t/\Eb R Y' G.ifs cond/\R.e Y' bU dj)
variable{PR:List FD}{W d:Nat}
def E2(o:R.Ok M PR W d)(h:Hx M Y X PR W d)(g:yu R Y e ir=true):∃bU tg iter ifs scope p dj t it cond bc n N,e=.ListComp bU [⟨tg,iter,ifs,0⟩] scope p/\ir=.comp false dj t it cond bc n/\Cg X (a0 PR W d) bU iter tg ifs scope N bc n it t cond dj:=by
 let(_,_,_,_,e1,g1):=xj9 g;obtain⟨⟨tg,iter,ifs,z⟩,e2,g2⟩:=lN g1;let(_,_,_,_,_,_,_,e3,g3):=yV2 g2;let(e4,y,c,nd,p,gi,gt,gs,ge):=dc g3;rw[e1,e2,e3,e4,show z=0 from y];let H:=h.comp nd;exact(_,_,_,_,_,_,_,_,_,_,_,_,_,rfl,rfl,h.cm,yj4 h.sc h.N c,o.i h gi,λa b c d e=>JR (H a b c d e) gt,λa b c d e=>xT5 o (H a b c d e) gs,λa b c d e=>o.e (H a b c d e) ge,QA p)
def Nl:cX:=λ_ R Y=>yu R Y
def xo2:dv Nl:=λo h g=>by
 let(_,_,_,_,_,_,_,_,_,_,_,_,_,e1,e2,B):=E2 o h g;rw[e1,e2];exact yJ8 B
abbrev sS(Y:Gc)(x:Str)(px:aU):Expr->Bool
 |.ListComp _ _ s p=>Y.sc.names.lookup x==aa .local&&px.line==p.line && !(s.names.any λ(n,k)=>n==x&&(k == .local ||k == .cell))
 |_=>false
abbrev LS:Expr->Bool
 |.SetComp ..=>false
 |.DictComp ..=>false
 |_=>true
def EM{px:aU}(h:Hx M Y X PR W d)(k:Y.sc.kind=.function)(n:LS e=true):pZ e (aa (.Name x px)) l X.env=pure (sS Y x px e):=by
 cases e<;>first |rfl |(cases n;done)|skip
 let b:X.env.blockKind=.function:=by unfold Env.blockKind;rw[h.sc,k];rfl
 show(pure (X.env.blockKind == .function&&X.env.kindOf x==aa .local&&_&&_):fh Bool)=_;rw[b,show X.env.kindOf x=Y.sc.names.lookup x from by rw[<-h.sc];rfl];rfl
def Np:i7:=λ_ R Y e ir=>Mz e λe _=>EH ir λie=>decide (LQ e/\R.e Y e ie)
def xo4:jD Np:=λo h g=>by
 let(_,_,e1,g1):=xe2 g;let(_,e2,g2):=NY g1;rw[e1,e2];exact xd7 (o.e h (dc g2).2) (xr3 (dc g2).1)
def M7:i7:=λ_ R Y e ir=>zF e λe _=>oS e λe=>Rv ir (R.e Y e)
def xM8:jD M7:=λo h g=>by
 let(_,_,e1,g1):=xe4 g;let(_,e2,g2):=NO g1;let(_,e3,g3):=xf4 g2;rw[e1,e2,e3];exact xz6 (o.e h g3)
def yq(e:bW)(f:Str->aU->Expr->Bool):Bool:=qw e λts e _=>l1 ts λt=>m6 t λx p=>f x p e
def Fm{e:bW}{f:Str->aU->Expr->Bool}(g:yq e f=true):∃x p v q,e=.Assign [.Name x p] v q/\f x p v=true:=by
 let(_,_,_,e1,g1):=QN g;let(_,e2,g2):=lN g1;let(_,_,e3,g3):=pq g2;rw[e1,e2,e3];exact(_,_,_,_,rfl,g3)
def M8:i7:=λ_ R Y e ir=>yq e λx px e=>zX ir λi ie=>decide (Y.sc.kind=.function/\LS e/\sS Y x px e=false/\sM Y i x/\R.e Y e ie)
def xM9:jD M8:=λo h g=>by
 let(_,_,_,_,e1,g1):=Fm g;let(_,_,e2,g2):=Fl g1;let(k,n,s,m,g):=dc g2;let(a,b,c):=gK h m;rw[e1,e2];exact xz7 (h.N▸h.nd) a b (o.e h g) (by rw[EM h k n,s]) c
def Oz{px:aU}(s:sS Y x px e=true):Y.sc.names.lookup x=aa .local:=by
 unfold sS at s;split at s
 .simp only[bP,beq_iff_eq]at s;exact s.1.1
 .cases s
def Nv:i7:=λ_ R Y e ir=>yq e λx px e=>zX ir λi ie=>decide (Y.N[i]?=aa x/\Y.sc.kind=.function/\sS Y x px e/\yu R Y e ie)
def xp0:jD Nv:=λo h g=>by
 let(_,_,_,_,e1,g1):=Fm g;let(_,_,e2,g2):=Fl g1;let(a,k,s,g):=dc g2;let(_,_,_,_,_,_,_,_,_,cond,_,_,_,e3,e4,B):=E2 o h g;rw[e1,e2,e3,e4];exact QK RF (h.N▸h.nd) (h.N▸a) (h.sc▸Oz s) B (by rw[EM h k rfl,<-e3,s])
def Nw:i7:=λ_ R Y e ir=>yq e λx px e=>zX ir λi ie=>zQ ie λie=>decide (Y.N[i]?=aa x/\Y.sc.kind=.function/\sS Y x px e/\yu R Y e ie)
def xp1:jD Nw:=λo h g=>by
 let(_,_,_,_,e1,g1):=Fm g;let(_,_,e2,g2):=Fl g1;let(_,e3,g3):=Fd g2;let(a,k,s,g):=dc g3;let(_,_,_,_,_,_,_,_,_,cond,_,_,_,e4,e5,B):=E2 o h g;rw[e1,e2,e3,e4,e5];exact QK yj5 (h.N▸h.nd) (h.N▸a) (h.sc▸Oz s) B (by rw[EM h k rfl,<-e4,s])
def xz0:IS [.Subscript o i p] a l env=pure false:=by cases a<;>rfl
def xy4(h:pl i=true):∀v,assign (.Subscript o i p) env v=(do
      let ov <-jA [v] (eval o env)
      let iv <-jA [v,ov] (eval i env)
      uJ p
      jA [v,ov,iv] (setItem ov iv v)
      release [v,ov,iv] []):=by cases i<;>first |(intro _;rfl)|(cases h;done)
def OJ:i7:=λ_ R Y e ir=>qw e λts e _=>l1 ts λt=>zN t λo i _=>Rz ir λio ii ie=>decide (pl i/\R.e Y o io/\R.e Y i ii/\R.e Y e ie)
def yX5:jD OJ:=λo h g=>by
 let(_,_,_,e1,g1):=QN g;let(_,e2,g2):=lN g1;let(_,_,_,e3,g3):=GG g2;let(_,_,_,e4,g4):=xf5 g3;let(p,a,b,c):=dc g4;rw[e1,e2,e3,e4];exact yK7 h.u1 (o.e h a) (o.e h b) (o.e h c) (xy4 p) xz0 xr5 rfl
def sR(R:Rc)(Y:Gc)(zx:List bW)(ss:List S):Bool:=all2 (R.s Y) zx ss
def tm{M:Gm}{R:Rc}{PR:List FD}{W d:Nat}{Y:Gc}{X:Cx}(o:R.Ok M PR W d)(h:Hx M Y X PR W d):∀{zx:List bW}{ss:List S},sR R Y zx ss=true->mr X (a0 PR W d) W zx ss
 |[],[],_=>xz5
 |a::r,b::s,g=>xd6 (o.s h (cU g).1) (tm o h (cU g).2)
 |[],_::_,h=>by cases h
 |_::_,[],h=>by cases h
def Js:i7:=λ_ R Y e ir=>zD e λc a b _=>Q5 ir λic ia ib=>decide (R.t Y c ic/\sR R Y a ia/\sR R Y b ib)
def Yp:jD Js:=λo h g=>by
 let(_,_,_,_,e1,g1):=Z8 g;let(_,_,_,e2,g2):=η g1;let(a,b,c):=dc g2;rw[e1,e2];exact xS3 (o.t h a) (tm o h b) (tm o h c)
def OM:i7:=λ_ R Y e ir=>MC e λc a l _=>R0 ir λic ia=>decide (l.isEmpty/\R.t Y c ic/\sR R Y a ia)
def yX8:jD OM:=λo h g=>by
 let(_,_,_,_,rfl,g1):=xe5 g;let(_,_,rfl,g2):=xf6 g1;let(l,a,b):=dc g2;rw[l4.1 l];exact yK8 (h.xe▸U5) (o.t h a) (tm o h b)
def M0:i7:=λ_ R Y e ir=>zC e λtg iter a l _=>QV ir λt it ia=>decide (l.isEmpty/\R.i Y tg iter it/\gB Y tg t/\pl iter/\sR R Y a ia)
def xM0:jD M0:=λo h g=>by
 let(_,_,_,_,_,rfl,g1):=xe3 g;let(_,_,_,rfl,g2):=xf3 g1;let(l,i,t,p,s):=dc g2;rw[l4.1 l];exact xz4 (h.xe▸U5) h.cm (o.i h i) (JR h t) (tm o h s) (QA p)
def E1(op:me)(b:ke):i7:=λ_ R Y e ir=>zy e λx p e _=>m6 x λx _=>QO ir λi q ie=>decide (p=op/\q=b/\sM Y i x/\R.e Y e ie)
def NJ{op:me}{b:ke}(ho:∀X,yk X op b)(hb:∀x y z,iu b x y=aa z->(∃i j k,x=.int i/\y=.int j/\z=.int k)\/∀i,x≠.int i):jD (E1 op b):=λo h g=>by
 let(_,_,_,_,e1,g1):=xe1 g;let(_,_,e2,g2):=pq g1;let(_,_,_,e3,g3):=xf2 g2;let(e4,e5,m,g):=dc g3;let(a,b,c):=gK h m;rw[e1,e2,e3,e4,e5];exact xz3 (ho _) (h.N▸h.nd) a b (o.e h g) hb c
def PM{O β:Type}[BEq O][LawfulBEq O]:∀{ps:List O}{us:List β},ps.Nodup->us.length=ps.length->(∀n∈ps,((ps.zip us).lookup n).isSome=true)/\ps.filterMap (λn=>((ps.zip us).lookup n).map (n,·))=ps.zip us
 |[],us,_,_=>⟨(by intro n h;cases h),rfl⟩
 |p::ps,[],_,h=>by cases h
 | p::ps,u::us,nd,h=>by
  let(n1,n2):=l6.1 nd;let(a,b):=PM (us:=us) n2 (by simpa using h);let ne:∀n∈ps,(n==p)=false:=λn hn=>by
   rw[beq_eq_false_iff_ne];rintro rfl;exact n1 hn
  refine(λn hn=>?_,?_)
  .rw[xR,j6];cases e:n==p with
   |true=>rfl
   |false=>
    rcases bN.1 hn with rfl |hn
    .simp at e
    .exact a n hn
  .rw[xR,uj,j6,beq_self_eq_true];show(p,u)::_=_;congr 1;refine Hi ?_ b;let:∀(l:List O),(∀n∈l,(n==p)=false)->l.filterMap (λn=>(((p,u)::ps.zip us).lookup n).map (n,·))=l.filterMap (λn=>((ps.zip us).lookup n).map (n,·)):=λl=>by
    induction l with
    |nil=>intro _;rfl
    |cons x l ih=>
     intro z;rw[uj,uj,ih λn hn=>z n (b5 _ hn),j6,z x (gy ..)]
   exact this ps ne
def yB4{fd:j_}{as:List Arg}(hp:fd.params=⟨[],as,aj,[],[],aj,[]⟩)(hd:fd.defaults=.none){us:List ak}(nd:(as.map (·.arg)).Nodup)(hl:us.length=(as.map (·.arg)).length):ye fd ⟨us,[]⟩=pure ((as.map (·.arg)).zip us):=by
 let(a,b):=PM nd hl;let m:((as.map (·.arg)).filter λn=>(((as.map (·.arg)).zip us).lookup n).isNone)=[]:=by
  rw[Hs];intro n hn e;let:=a n hn;rw[BJ]at e;rw[e]at this;cases this
 unfold ye;rw[hp,hd];dsimp only[eD,d3];generalize as.map (·.arg)=ps at *
 let q:IK .none=pure aj:=rfl;rw[q];simp[hl,m,b]
set_option genInjectivity false in
structure Rl where
 e:List cX
 t:List cX
 i:List rX
 s:List i7
structure Rl.Ok(L:Rl):Prop where
 e:∀r∈L.e,dv r
 t:∀r∈L.t,rV r
 i:∀r∈L.i,uS r
 s:∀r∈L.s,jD r
abbrev ck(L:Rl)(M:Gm):Nat->Rc
 |0=>⟨λ_ _ _=>false,λ_ _ _=>false,λ_ _ _ _=>false,λ_ _ _=>false⟩
 |n+1=>⟨λY e ir=>L.e.any λr=>r M (ck L M n) Y e ir,λY e ir=>L.t.any λr=>r M (ck L M n) Y e ir,λY tg e ir=>L.i.any λr=>r M (ck L M n) Y tg e ir,λY e ir=>L.s.any λr=>r M (ck L M n) Y e ir⟩
def Nz{L:Rl}{M:Gm}{PR:List FD}{W d:Nat}(o:L.Ok):∀n,(ck L M n).Ok M PR W d
 |0=>by constructor<;>intros<;>rename_i g<;>cases g
 | n+1=>by
  let ih:=Nz (M:=M) (PR:=PR) (W:=W) (d:=d) o n;constructor<;>intros<;>rename_i h g<;>let(r,hr,g):=Ho.1 g
  .exact o.e r hr ih h g
  .exact o.t r hr ih h g
  .exact o.i r hr ih h g
  .exact o.s r hr ih h g
def dN(st:bW):List Str:=(gN st).names.filterMap λy=>if y.2 == .local ||y.2 == .cell then aa y.1 else aj
def dP(st:bW):List Str:=(nG st).args.map (·.arg)
def Cj(a:xX):Bool:=a.posonlyargs.isEmpty&&(a.vararg.isNone&&(a.kwonlyargs.isEmpty&&(a.kw_defaults.isEmpty&&(a.kwarg.isNone&&a.defaults.isEmpty))))
def ι{a:xX}(h:Cj a=true):a=⟨[],a.args,aj,[],[],aj,[]⟩:=by
 let(b,c,d,e,f,g,i):=a;simp only[Cj,bP,l4,BJ]at h;let(rfl,rfl,rfl,rfl,rfl,rfl):=h;rfl
def D4(N P:List Str)(sc:cB):Bool:=decide (sc.kind=.function)&&(!sc.isCoroutine&&(!sc.isGenerator&&(decide N.Nodup&&(decide (N.take P.length=P)&&(decide (∀x∈P,sc.names.lookup x=aa .local\/sc.names.lookup x=aa .cell)&&decide (∀y∈sc.names,y.2≠.free))))))
def NT{N P:List Str}{sc:cB}(h:D4 N P sc=true):wB N P sc:=by
 simp only[D4,bP,decide_eq_true_eq,Sw]at h;let(a,b,c,d,e,f,g):=h;exact(a,b,c,d,e,f,g)
def v8(L:Rl)(M:Gm)(n:Nat)(p:Str×bW)(f:FD):Bool :=
 Cj (nG p.2)&&(D4 (dN p.2) (dP p.2) (gN p.2)&&(decide (f.params=(dP p.2).length)&&(decide (f.slots=(dN p.2).length)&&sR (ck L M n) ⟨dN p.2,gN p.2,λ_=>true⟩ (lV p.2) f.body)))
def AR{O β:Type}{f:O->β->Bool}:∀{r:List O}{s:List β},all2 f r s=true->∀(k:Nat) a,r[k]?=aa a->∃b,s[k]?=aa b/\f a b=true
 |[],[],_,k,a,e=>by simp at e
 | x::r,y::s,h,k,a,e=>by
  cases k with
  |zero=>cases e;exact(y,rfl,(cU h).1)
  |succ k=>exact AR (cU h).2 k a e
 |[],_::_,h,_,_,_=>by cases h
 |_::_,[],h,_,_,_=>by cases h
def EV(K:aQ)(x:Str)(st:bW):Prop:=∃(f:aq)(oc:ak)(od:Option aq)(jc:Array (Option ak)) (kV doc pm:ak) (an:Option aq) (cdv ct:ak),pV K fv x=aa (aa (.ref f))/\K.lookup f=aa ⟨oc,od,.func (nR x x (nG st) (lV st) (gN st) .none kV doc pm an cdv ct),jc⟩/\codeIn K cdv x=true/\pU K (.ref f)=true
abbrev Ek(K:aQ):List (Str×bW)->Prop
 |[]=>True
 |(x,st)::r=>EV K x st/\Ek K r
def E4{K:aQ}:∀{l:List (Str×bW)},Ek K l->∀p∈l,EV K p.1 p.2
 | a::r,h,b,hb=>by
  rcases bN.1 hb with rfl |hb
  .exact h.1
  .exact E4 h.2 b hb
def wV(xs:List PV):List (List Nat):=xs.filterMap fun
 |.str cs=>aa cs
 |_=>aj
def EU(K:aQ)(p:Str×PV):Prop:=(p.1==("__debug__" : Str))=false/\match p.2 with
 |.int i=>∃t,pV K fv p.1=aa (aa (.int i t))
 |.str cs=>∃y t,pV K fv p.1=aa (aa (.str y t))/\y=⟨cs.toArray⟩/\cs.length<=1000
 |.af xs=>∃(a:aq)(aw:Array ak)(n:Nat)(sl:Array (Option ak)) (oc:ak) (ts:List dt),pV K fv p.1=aa (aa (.ref a))/\K.lookup a=aa ⟨oc,aj,.seq aw n,sl⟩/\oc=.type "tuple" /\ aw.toList=ug (wV xs) ts/\ts.length=(wV xs).length/\(wV xs).length<=1000/\(wV xs).all (λc=>decide (c.length<=1000))=true/\(wV xs).map .str=xs
 |_=>False
abbrev AllIn{O:Type}(P:O->Prop):List O->Prop
 |[]=>True
 |a::r=>P a/\AllIn P r
def oQ{O:Type}{P:O->Prop}:∀{l:List O},AllIn P l->∀a∈l,P a
 | a::r,h,b,hb=>by
  rcases bN.1 hb with rfl |hb
  .exact h.1
  .exact oQ h.2 b hb
def Pg{x:Str}{v:PV}:∀{l:List (Str×PV)},l.lookup x=aa v->(x,v)∈l
 | (y,u)::r,h=>by
  rw[j6]at h;split at h
  .rename_i e
   cases h;rw[eq_of_beq e];exact gy ..
  .exact b5 _ (Pg h)
section
variable{P:Program}{w:aY}{K:aQ}{mg:Str->Option ak}{base h:aT}{PR:List FD}{W:Nat}{L:Rl}{ds:List (Str×bW)}{zs:List Str}{cs:List (Str×PV)}{tk:List (List Nat)}{gd:List (Str×List (List Nat×List Nat))}{n:Nat}
@[reducible] def gm(ds:List (Str×bW))(zs:List Str)(cs:List (Str×PV))(tk:List (List Nat))(gd:List (Str×List (List Nat×List Nat))):Gm:=⟨ds.map λp=>(p.1,dP p.2),zs,cs,tk,gd⟩
def Ja(P:pR)(K:aQ)(p:Str×List (List Nat×List Nat)):Prop:=(p.1==("__debug__" : Str))=false/\∃a,pV K fv p.1=aa (aa (.ref a))/\Ng P K a p.2
def RR{x:Str}{v:List (List Nat×List Nat)}:∀{l:List (Str×List (List Nat×List Nat))},l.lookup x=aa v->(x,v)∈l
 | (y,u)::r,h=>by
  rw[j6]at h;split at h
  .rename_i e
   cases h;rw[eq_of_beq e];exact gy ..
  .exact b5 _ (RR h)
def xj7{p:Str×PV}(X0:K.In h)(G:h.Ns fv mg)(c:EU K p)(X:Cx)(C:a8)(pos:aU)(eK:X.K=K)(em:X.mg=mg)(hg:Gl X p.1):SE X C (.Name p.1 pos) (.ag p.2):=by
 subst eK em;let(x,v):=p;let(hd,c):=c;cases v with
 |int i=>let(t,e):=c;exact xR7 hg (uE X0 G e) hd
 |str cs=>let(y,t,e,f,l):=c;exact xR8 hg (uE X0 G e) f l hd
 |af xs=>
  let(a,aw,n,sl,oc,ts,e,k,o,f,l,m,q,z):=c;let:=xR9 (C:=C) (pos:=pos) hg (uE X0 G e) k o f l m q hd;rw[z]at this;exact this
 |_=>exact c.elim
def O7{f:FD}{p:Str×bW}{kV doc pm cdv ct:ak}{an:Option aq}{us:List ak}(g:v8 L (gm ds zs cs tk gd) n p f=true)(hl:us.length=(dP p.2).length):ye (nR p.1 p.1 (nG p.2) (lV p.2) (gN p.2) .none kV doc pm an cdv ct) ⟨us,[]⟩=pure ((dP p.2).zip us):=by
 let s:=(NT (cU (cU g).2).1);let nd:(dP p.2).Nodup:=by rw[<-s.pre];exact s.nd.sublist (xN ..)
 exact yB4 (ι (cU g).1) rfl nd hl
def xh3(o:L.Ok)(g:all2 (v8 L (gm ds zs cs tk gd) n) ds PR=true)(X0:K.In h)(G:h.Ns fv mg)(D:∀p∈ds,EV K p.1 p.2)(ZZZ:∀x∈zs,pV K fv x=aa aj)(Cs:∀p∈cs,EU K p)(TK:tk=[]\/EE K tk=true)(GD:AllIn (Ja w.params K) gd):∀d,Mo (gm ds zs cs tk gd) P w K mg base PR W d/\∀(k:Nat) p,ds[k]?=aa p->∀f fd,mo K p.1 p.1 p.2 f fd->gc P w K mg base gU d f fd (dP p.2) (je K PR W d k (dP p.2).length):=by
 let mk:∀d,(∀(k:Nat) p,ds[k]?=aa p->∀f fd,mo K p.1 p.1 p.2 f fd->gc P w K mg base gU d f fd (dP p.2) (je K PR W d k (dP p.2).length))->Mo (gm ds zs cs tk gd) P w K mg base PR W d:=λd F=>by
  refine(λk x ps e=>?_,λx hx=>mg_none_of X0 G (ZZZ x hx),λx v e X C pos eK em hg=>xj7 (p:=(x,v)) X0 G (Cs _ (Pg e)) X C pos eK em hg,TK,λx l e=>by
   let(h1,a,h2,h3):=oQ GD _ (RR e);exact⟨a,uE X0 G h2,h1,h3⟩)
  rw[eC,d9]at e;let(p,e,z):=e;cases z;let(f,oc,od,jc,kV,doc,pm,an,cdv,ct,h1,h2,h3,h4):=D p (eE e);let(b,_,gb):=AR g k p e;let F0:=Og (st:=p.2) h2 h3 h4;exact(f,_,uE X0 G h1,h4,F0.binds (ps:=dP p.2) λ_ _ _ _ _ _ us hl=>O7 gb hl,F k p e f _ F0)
 intro d;induction d with
 |zero=>exact(mk 0 λk p e f fd _=>Qc,λk p e f fd _=>Qc)
 |succ d ih=>
  let F:∀(k:Nat) p,ds[k]?=aa p->∀f fd,mo K p.1 p.1 p.2 f fd->gc P w K mg base gU (d+1) f fd (dP p.2) (je K PR W (d+1) k (dP p.2).length):=λk p e f fd F0=>by
   let(b,eb,gb):=AR g k p e;simp only[v8,bP,decide_eq_true_eq]at gb;let(_,s,l1,l2,g):=gb;let S:=NT s;refine yU5 F0 S (by rw[eb,<-l1,<-l2]) λcdv A outer s H E hr=>tm (Nz o n) ?_ g;exact(ih.1,rfl,hr,rfl,rfl,rfl,S.nd,rfl)
  exact(mk _ F,F)
def all_mk{fa:aq}{k D:Nat}{st:bW}(o:L.Ok)(g:all2 (v8 L (gm ds zs cs tk gd) n) ds PR=true)(hk:ds[k]?=aa (("law" : Str),st))(hx:dP st=[x])(X0:K.In h)(G:h.Ns fv mg)(Xh:mg "law" = aa (.ref fa))(DI:Ek K ds)(ZI:AllIn (λx=>pV K fv x=aa aj) zs)(CI:AllIn (EU K) cs)(TK:tk=[]\/EE K tk=true)(GD:AllIn (Ja w.params K) gd):
  ∃fd:j_,(∀(s:au)(v:ak),uz s fd ⟨[v],[]⟩ [(x,v)])/\∀base:aT,K.In base->base.Ns fv mg->gc P w K mg base gU D fa fd [x] (je K PR W D k 1):=by
 let(f,oc,od,jc,kV,doc,pm,an,cdv,ct,h1,h2,h3,h4):=E4 DI _ (eE hk);let e:=Xh.symm.trans (uE X0 G h1);cases e;let(b,_,gb):=AR g k _ hk;refine(nR "law" "law" (nG st) (lV st) (gN st) .none kV doc pm an cdv ct,λs v=>.of_eq ?_,λbase _ _=>?_)
 .let:=O7 (kV:=kV) (doc:=doc) (pm:=pm) (cdv:=cdv) (ct:=ct) (an:=an) (us:=[v]) gb (by rw[hx];rfl);rw[hx]at this;exact this
 .let:=(xh3 (P:=P) (w:=w) (base:=base) (W:=W) o g X0 G (E4 DI) (oQ ZI) (oQ CI) TK GD D).2 k _ hk _ _ (Og (st:=st) h2 h3 h4);rw[hx]at this;exact this
end
section
variable{M:Gm}{R:Rc}{PR:List FD}{W d:Nat}{Y:Gc}{X:Cx}{x:Str}{E:XK}
end
section
variable{P:Program}{w:aY}{K:aQ}{mg:Str->Option ak}{base h:aT}{PR PR0:List FD}{W:Nat}{L:Rl}{ds:List (Str×bW)}{zs:List Str}{cs:List (Str×PV)}{tk:List (List Nat)}{gd:List (Str×List (List Nat×List Nat))}{n kP:Nat}{nT:Str}{stT stP:bW}{fP:FD}{C R c1 c2 c3 c4 c5:aq}
end
open PySem.W (nsIn hasDictIn mroIn typeIn)
section
variable{K:aQ}{mg:Str->Option ak}{h:aT}{C R c c1 c2 c3 c4 c5 fI N:aq}{nm qn:Str}{bs:List ak}{sn:List Str}{sub:List ak}{ab:Bool}{col:Option Bool}{dd:Option aq}{k0 k1 k2 k3 k5:Option ak}
end
def Lr(e:It)(f):=if h:e.ctorIdx=5 then It.qe.elim (motive_2:=λ_=>Bool) e h f else false
def yW9{e f}(h:Lr e f=true):∃a,e=.qe a/\f a=true :=
 let⟨q,g⟩:=bV h;It.qe.elim (motive_2:=λt=>e=t->_) e q (λ_ z=>⟨_,z,by subst z;exact g⟩) rfl
def Nq:rX:=λM R Y tg e ir=>Lr ir λx=>Ee M R Y "enumerate" tg e [x]
def xo5:uS Nq:=λo h g=>by
 let(_,e1,g1):=yW9 g;let(_,_,_,_,_,_,_,e2,e3,z,a):=MT g1;rw[e1,e2,e3];exact yK4 (iS h z).2.1 (iS h z).1 (by decide +kernel) (jO o h a) (oN a) (qE a)
def Fn:i7:=λ_ _ _ e ir=>match e with
 |.Raise _ _ _=>EH ir λx=>v_ x λf es=>decide (f=.any)&&es.isEmpty
 |_=>false
def yX4:jD Fn:=λo h g=>by
 unfold Fn at g;split at g
 .let(_,e1,g1):=NY g;let(_,_,e2,g2):=AW g1;rw[bP]at g2;rw[e1,e2,of_decide_eq_true g2.1,l4.1 g2.2];exact yK6
 .cases g
def CG(R:Rc)(Y:Gc)(e:Expr)(i:E):Bool:=match e with
 |.FormattedValue v c sp _=>decide (c=-1)&&sp.isNone&&R.e Y v i
 |e=>R.e Y e i
abbrev CK(R:Rc)(Y:Gc):List Expr->E->Bool
 |[],ir=>zP ir λv=>decide (v=.str [])
 |e::r,ir=>Ex ir λop a b=>decide (op=.add)&&(CG R Y e a&&CK R Y r b)
def ER:cX:=λ_ R Y e ir=>match e with
 |.JoinedStr (a::b::r) _=>CK R Y (a::b::r) ir
 |_=>false
def xK5{i:E}(o:Rc.Ok M PR W d R)(h:Hx M Y X PR W d)(g:CG R Y e i=true):FP X (a0 PR W d) e i:=by
 unfold CG at g;split at g
 .let(g1,g2):=cU g;let(g3,g4):=cU g1;rw[of_decide_eq_true g3,BJ.1 g4];exact xl5 (o.e h g2)
 .exact xK4 (o.e h g)
def NF{M:Gm}{R:Rc}{PR:List FD}{W d:Nat}{Y:Gc}{X:Cx}(o:Rc.Ok M PR W d R)(h:Hx M Y X PR W d):∀{es:List Expr}{ir:E},CK R Y es ir=true->∃is,ir=jP is/\cn (λie e=>FP X (a0 PR W d) e ie) is es
 | [],ir,g=>by
  let(_,e1,g1):=Fc g;rw[e1,dc g1];exact([],rfl,.nil)
 | e::r,ir,g=>by
  let(_,_,_,e1,g1):=GL g;let(g2,g3):=cU g1;let(g4,g5):=cU g3;let(is,e2,pr):=NF o h g5;rw[e1,of_decide_eq_true g2,e2];exact(_::is,rfl,.cons (xK5 o h g4) pr)
def xM2:dv ER:=λo h g=>by
 unfold ER at g;split at g
 .let(is,e,pr):=NF o h g;rw[e];exact xc5 pr
 .cases g
end OR
namespace LA
open OR
def Q8:List S :=
 [.ret (.and (.blt (.mN .int) [(.var 0)]) (.and (.not (.blt (.mN .bool) [(.var 0)])) (.cmp .ge (.var 0) (.ag (.int 0)))))]
def FC:FD:=⟨1,1,Q8⟩
def A9:List S :=
 [.ret (.and (.blt (.mN .tuple) [(.var 0)]) (.chain .le .le (.var 1) (.blt .len [(.var 0)]) (.var 2)))]
def w8:FD:=⟨3,3,A9⟩
def FN:List S :=
 [.ite (.or (.not (.blt (.mN .str) [(.var 0)])) (.not (.chain .le .le (.ag (.int 1)) (.blt .len [(.var 0)]) (.ag (.int 8)))))
  [.ret (.ag (.bl false))]
  [],
 .ret (.blt .all [(.comp false (.cmp .isIn (.var 0) (.ag (.str [97,98,99,100,101,102,103,104,105,106,107,108,109,110,111,112,113,114,115,116,117,118,119,120,121,122]))) (.name 0) (.of (.var 0)) aj [] 1)])]
def xg:FD:=⟨1,1,FN⟩
def Sa:List S :=
 [.ite (.or (.not (.call 1 [(.var 0),(.var 1),(.var 2)])) (.not (.blt .all [(.comp false (.call 2 [(.var 0)]) (.name 0) (.of (.var 0)) aj [] 1)])))
  [.ret (.ag (.bl false))]
  [],
 .ret (.cmp .eq (.blt .sL [(.var 0)]) (.blt .len [(.var 0)]))]
def GN:FD:=⟨3,3,Sa⟩
def Q9:List S :=
 [.ret (.and (.call 5 [(.var 0),(.ag (.int 3))]) (.cmp .le (.call 6 [(.var 0)]) (.ag (.int 6))))]
def FE:FD:=⟨1,1,Q9⟩
def GO:List S :=
 [.ite (.or (.cmp .eq (.var 1) (.ag (.int 0))) (.not (.call 1 [(.var 0),(.ag (.int 1)),(.ag (.int 3))])))
  [.ret (.ag (.bl false))]
  [],
 .set 2 (.ix (.var 0) (.ag (.int 0))),
 .ite (.cmp .eq (.blt .len [(.var 0)]) (.ag (.int 1)))
  [.ret (.or (.cmp .eq (.var 2) (.ag (.str [110,117,109]))) (.cmp .eq (.var 2) (.ag (.str [108,111,119]))))]
  [],
 .ite (.cmp .eq (.blt .len [(.var 0)]) (.ag (.int 3)))
  [.ret (.and (.cmp .eq (.var 2) (.ag (.str [119,101,98]))) (.call 7 [(.ix (.var 0) (.ag (.int 1))),(.ix (.var 0) (.ag (.int 2)))]))]
  [],
 .ite (.cmp .eq (.var 2) (.ag (.str [99,104,97,105,110])))
  [.ret (.call 3 [(.ix (.var 0) (.ag (.int 1))),(.ag (.int 2)),(.ag (.int 6))])]
  [],
 .ite (.cmp .eq (.var 2) (.ag (.str [115,101,116])))
  [.ret (.call 3 [(.ix (.var 0) (.ag (.int 1))),(.ag (.int 1)),(.ag (.int 5))])]
  [],
 .ite (.cmp .eq (.var 2) (.ag (.str [114,111,119])))
  [.ret (.and (.call 1 [(.ix (.var 0) (.ag (.int 1))),(.ag (.int 1)),(.ag (.int 3))]) (.blt .all [(.comp false (.call 5 [(.var 1),(.bin .sub (.var 0) (.ag (.int 1)))]) (.name 1) (.of (.ix (.var 0) (.ag (.int 1)))) aj [1] 1)]))]
  [],
 .ret (.and (.cmp .eq (.var 2) (.ag (.str [110,101,119,101,114]))) (.call 5 [(.ix (.var 0) (.ag (.int 1))),(.bin .sub (.var 1) (.ag (.int 1)))]))]
def wY:FD:=⟨2,3,GO⟩
def A7:List S :=
 [.ite (.cmp .eq (.ix (.var 0) (.ag (.int 0))) (.ag (.str [114,111,119])))
  [.ret (.bin .add (.ag (.int 1)) (.blt .sum [(.comp false (.call 6 [(.var 0)]) (.name 0) (.of (.ix (.var 0) (.ag (.int 1)))) aj [] 1)]))]
  [],
 .ite (.cmp .eq (.ix (.var 0) (.ag (.int 0))) (.ag (.str [110,101,119,101,114])))
  [.ret (.bin .add (.ag (.int 1)) (.call 6 [(.ix (.var 0) (.ag (.int 1)))]))]
  [],
 .ret (.ag (.int 1))]
def qU:FD:=⟨1,1,A7⟩
def OO:List S :=
 [.ite (.or (.not (.call 3 [(.var 0),(.ag (.int 2)),(.ag (.int 7))])) (.not (.call 8 [(.var 0),(.var 1)])))
  [.ret (.ag (.bl false))]
  [],
 .ret (.and (.not (.call 10 [(.var 0),(.var 1)])) (.and (.cmp .gt (.blt .len [(.call 14 [(.var 1),(.var 0)])]) (.ag (.int 0))) (.call 11 [(.var 0),(.var 1)])))]
def Gd:FD:=⟨2,2,OO⟩
def QT:List S :=
 [.ite (.or (.not (.call 1 [(.var 1),(.ag (.int 1)),(.ag (.int 20))])) (.not (.blt .all [(.comp false (.call 9 [(.var 0),(.var 1)]) (.name 1) (.of (.var 1)) aj [0] 1)])))
  [.ret (.ag (.bl false))]
  [],
 .ret (.cmp .eq (.blt .sL [(.var 1)]) (.blt .len [(.var 1)]))]
def G3:FD:=⟨2,2,QT⟩
def Rw:List S :=
 [.ret (.and (.call 1 [(.var 1),(.ag (.int 2)),(.ag (.int 2))]) (.and (.cmp .isIn (.ix (.var 1) (.ag (.int 0))) (.var 0)) (.and (.cmp .isIn (.ix (.var 1) (.ag (.int 1))) (.var 0)) (.cmp .ne (.ix (.var 1) (.ag (.int 0))) (.ix (.var 1) (.ag (.int 1)))))))]
def FR:FD:=⟨2,2,Rw⟩
def Q7:List S :=
  [.for (.name 2) (.of (.var 0))
    [.for (.name 3) (.of (.call 12 [(.var 1),(.var 2)]))
       [.ite (.and (.cmp .ne (.var 3) (.var 2)) (.cmp .isIn (.var 2) (.call 12 [(.var 1),(.var 3)])))
          [.ret (.ag (.bl true))]
          []]],
  .ret (.ag (.bl false))]
def FA:FD:=⟨2,4,Q7⟩
def QU:List S :=
  [.for (.name 2) (.of (.var 0))
    [.for (.name 3) (.of (.var 0))
       [.ite (.cmp .eq (.blt .len [(.call 14 [(.var 1),(.call 13 [(.var 1),(.var 2),(.var 3)])])]) (.ag (.int 0)))
          [.ret (.ag (.bl false))]
          []]],
  .ret (.ag (.bl true))]
def G4:FD:=⟨2,4,QU⟩
def QP:List S :=
  [.set 2 (.fK (.list false [(.var 1)])),
  .set 3 (.ag (.int 0)),
  .while (.cmp .lt (.var 3) (.blt .len [(.var 2)]))
    [.for (.af [4,5]) (.of (.var 0))
       [.ite (.and (.cmp .eq (.var 4) (.ix (.var 2) (.var 3))) (.cmp .ze (.var 5) (.var 2)))
          [.expr (.cD .append (.var 2) [(.var 5)])]
          []],
     .mw 3 .add (.ag (.int 1))],
  .ret (.freeze (.var 2))]
def G0:FD:=⟨2,6,QP⟩
def Se:List S :=
 [.set 3 (.call 12 [(.var 0),(.var 2)]),
 .ret (.comp false (.var 1) (.name 1) (.of (.call 12 [(.var 0),(.var 1)])) (aa (.cmp .isIn (.var 1) (.var 0))) [3] 1)]
def GP:FD:=⟨3,4,Se⟩
def QY:List S :=
  [.set 2 (.fK (.list false [])),
  .for (.name 3) (.of (.var 1))
    [.set 4 (.call 12 [(.var 0),(.var 3)]),
     .ite (.blt .all [(.comp false (.cmp .isIn (.var 1) (.var 0)) (.name 1) (.of (.var 1)) aj [4] 1)])
       [.expr (.cD .append (.var 2) [(.var 3)])]
       []],
  .ret (.freeze (.var 2))]
def G8:FD:=⟨2,5,QY⟩
def pb:List S :=
 [.set 2 (.ix (.var 0) (.ag (.int 0))),
 .ite (.cmp .eq (.var 2) (.ag (.str [110,117,109])))
  [.ret (.call 0 [(.var 1)])]
  [],
 .ite (.cmp .eq (.var 2) (.ag (.str [108,111,119])))
  [.ret (.or (.cmp .isNone (.var 1) (.ag .aL)) (.call 0 [(.var 1)]))]
  [],
 .ite (.or (.cmp .eq (.var 2) (.ag (.str [99,104,97,105,110]))) (.cmp .eq (.var 2) (.ag (.str [119,101,98]))))
  [.ret (.cmp .isIn (.var 1) (.ix (.var 0) (.ag (.int 1))))]
  [],
 .ite (.cmp .eq (.var 2) (.ag (.str [115,101,116])))
  [.ret (.and (.blt (.mN .tuple) [(.var 1)]) (.cmp .eq (.var 1) (.blt .tuple [(.comp false (.var 1) (.name 1) (.of (.ix (.var 0) (.ag (.int 1)))) (aa (.cmp .isIn (.var 1) (.var 0))) [1] 1)])))]
  [],
 .ite (.cmp .eq (.var 2) (.ag (.str [114,111,119])))
  [.ret (.call 16 [(.ix (.var 0) (.ag (.int 1))),(.var 1)])]
  [],
 .ret (.and (.call 1 [(.var 1),(.ag (.int 2)),(.ag (.int 2))]) (.and (.call 0 [(.ix (.var 1) (.ag (.int 0)))]) (.call 15 [(.ix (.var 0) (.ag (.int 1))),(.ix (.var 1) (.ag (.int 1)))])))]
def hV:FD:=⟨2,3,pb⟩
def Sj:List S :=
 [.ite (.not (.call 1 [(.var 1),(.blt .len [(.var 0)]),(.blt .len [(.var 0)])]))
  [.ret (.ag (.bl false))]
  [],
 .ret (.blt .all [(.comp false (.call 15 [(.var 0),(.var 1)]) (.af [0,1]) (.zip [(.var 0),(.var 1)]) aj [] 2)])]
def GR:FD:=⟨2,2,Sj⟩
def nA:List S :=
  [.set 1 (.ix (.var 0) (.ag (.int 0))),
  .ite (.or (.cmp .eq (.var 1) (.ag (.str [110,117,109]))) (.cmp .eq (.var 1) (.ag (.str [108,111,119]))))
    [.ret (.var 1)]
    [],
  .ite (.cmp .eq (.var 1) (.ag (.str [114,111,119])))
    [.set 2 (.cD .join (.ag (.str [59])) [(.comp false (.call 17 [(.var 0)]) (.name 0) (.of (.ix (.var 0) (.ag (.int 1)))) aj [] 1)])]
    [.ite (.cmp .eq (.var 1) (.ag (.str [110,101,119,101,114])))
       [.set 2 (.call 17 [(.ix (.var 0) (.ag (.int 1)))])]
       [.set 2 (.cD .join (.ag (.str [44])) [(.ix (.var 0) (.ag (.int 1)))])]],
  .ite (.cmp .eq (.var 1) (.ag (.str [119,101,98])))
    [.set 2 (.bin .add (.bin .add (.var 2) (.ag (.str [59]))) (.cD .join (.ag (.str [44])) [(.comp false (.cD .join (.ag (.str [60])) [(.var 0)]) (.name 0) (.of (.ix (.var 0) (.ag (.int 2)))) aj [] 1)]))]
    [],
  .ret (.bin .add (.var 1) (.bin .add (.ag (.str [40])) (.bin .add (.var 2) (.bin .add (.ag (.str [41])) (.ag (.str []))))))]
def jh:FD:=⟨1,3,nA⟩
def nz:List S :=
 [.set 2 (.ix (.var 0) (.ag (.int 0))),
 .ite (.or (.cmp .eq (.var 2) (.ag (.str [110,117,109]))) (.cmp .eq (.var 2) (.ag (.str [108,111,119]))))
  [.ret (.ite (.cmp .isNone (.var 1) (.ag .aL)) (.ag (.str [45])) (.blt .toStr [(.var 1)]))]
  [],
 .ite (.or (.cmp .eq (.var 2) (.ag (.str [99,104,97,105,110]))) (.cmp .eq (.var 2) (.ag (.str [119,101,98]))))
  [.ret (.var 1)]
  [],
 .ite (.cmp .eq (.var 2) (.ag (.str [115,101,116])))
  [.ret (.ite (.cmp .gt (.blt .len [(.var 1)]) (.ag (.int 0))) (.cD .join (.ag (.str [43])) [(.var 1)]) (.ag (.str [45])))]
  [],
 .ite (.cmp .eq (.var 2) (.ag (.str [114,111,119])))
  [.ret (.bin .add (.bin .add (.ag (.str [40])) (.cD .join (.ag (.str [59])) [(.comp false (.call 18 [(.var 0),(.var 1)]) (.af [0,1]) (.zip [(.ix (.var 0) (.ag (.int 1))),(.var 1)]) aj [] 2)])) (.ag (.str [41])))]
  [],
 .ret (.bin .add (.bin .add (.blt .toStr [(.ix (.var 1) (.ag (.int 0)))]) (.ag (.str [58]))) (.call 18 [(.ix (.var 0) (.ag (.int 1))),(.ix (.var 1) (.ag (.int 1)))]))]
def gh:FD:=⟨2,3,nz⟩
def Sn:List S :=
 [.ite (.or (.not (.chain .le .le (.ag (.int 1)) (.blt .len [(.var 0)]) (.ag (.int 400)))) (.not (.blt .all [(.comp false (.cmp .isIn (.var 0) (.ag (.str [48,49,50,51,52,53,54,55,56,57]))) (.name 0) (.of (.var 0)) aj [] 1)])))
  [.expr (.blt .any [])]
  [],
 .ite (.and (.cmp .eq (.ix (.var 0) (.ag (.int 0))) (.ag (.str [48]))) (.cmp .ne (.var 0) (.ag (.str [48]))))
  [.expr (.blt .any [])]
  [],
 .ret (.blt .toInt [(.var 0)])]
def GX:FD:=⟨1,1,Sn⟩
def OQ:List S :=
 [.ite (.or (.not (.cD .startswith (.var 0) [(.var 1)])) (.not (.cD .endswith (.var 0) [(.ag (.str [41]))])))
  [.expr (.blt .any [])]
  [],
 .ret (.slice (.var 0) (aa (.blt .len [(.var 1)])) (aa (.neg (.ag (.int 1)))))]
def Gf:FD:=⟨2,2,OQ⟩
def OP:List S :=
  [.set 1 (.fK (.list false [])),
  .set 2 (.ag (.int 0)),
  .set 3 (.ag (.int 0)),
  .for (.af [4,5]) (.qe (.var 0))
    [.ite (.cmp .eq (.var 5) (.ag (.str [40])))
       [.mw 3 .add (.ag (.int 1))]
       [.ite (.cmp .eq (.var 5) (.ag (.str [41])))
          [.mw 3 .sub (.ag (.int 1))]
          [.ite (.and (.cmp .eq (.var 5) (.ag (.str [59]))) (.cmp .eq (.var 3) (.ag (.int 0))))
             [.expr (.cD .append (.var 1) [(.slice (.var 0) (aa (.var 2)) (aa (.var 4)))]),
              .set 2 (.bin .add (.var 4) (.ag (.int 1)))]
             []]]],
  .expr (.cD .append (.var 1) [(.slice (.var 0) (aa (.var 2)) aj)]),
  .ret (.freeze (.var 1))]
def Ge:FD:=⟨1,6,OP⟩
def QQ:List S :=
 [.set 1 (.call 23 [(.var 0),(.ag (.int 3))]),
 .ite (.not (.call 4 [(.var 1)]))
  [.expr (.blt .any [])]
  [],
 .ret (.var 1)]
def G1:FD:=⟨1,2,QQ⟩
def jY:List S :=
  [.ite (.cmp .eq (.var 1) (.ag (.int 0)))
    [.expr (.blt .any [])]
    [],
  .ite (.or (.cmp .eq (.var 0) (.ag (.str [110,117,109]))) (.cmp .eq (.var 0) (.ag (.str [108,111,119]))))
    [.ret (.af [(.var 0)])]
    [],
  .set 2 (.ix (.cD .partition (.var 0) [(.ag (.str [40]))]) (.ag (.int 0))),
  .set 3 (.call 20 [(.var 0),(.bin .add (.var 2) (.ag (.str [40])))]),
  .ite (.cmp .eq (.var 2) (.ag (.str [119,101,98])))
    [.set 4 (.cD .partition (.var 3) [(.ag (.str [59]))]),
     .ret (.af [(.var 2),(.call 24 [(.ix (.var 4) (.ag (.int 0)))]),(.blt .tuple [(.comp false (.blt .tuple [(.cD .split (.var 0) [(.ag (.str [60]))])]) (.name 0) (.of (.cD .split (.ix (.var 4) (.ag (.int 2))) [(.ag (.str [44]))])) aj [] 1)])])]
    [],
  .ite (.cmp .eq (.var 2) (.ag (.str [114,111,119])))
    [.ret (.af [(.var 2),(.blt .tuple [(.comp false (.call 23 [(.var 1),(.bin .sub (.var 0) (.ag (.int 1)))]) (.name 1) (.of (.call 21 [(.var 3)])) aj [1] 1)])])]
    [],
  .ite (.cmp .eq (.var 2) (.ag (.str [110,101,119,101,114])))
    [.ret (.af [(.var 2),(.call 23 [(.var 3),(.bin .sub (.var 1) (.ag (.int 1)))])])]
    [],
  .ret (.af [(.var 2),(.call 24 [(.var 3)])])]
def qS:FD:=⟨2,5,jY⟩
def Sk:List S :=
 [.ret (.blt .tuple [(.cD .split (.var 0) [(.ag (.str [44]))])])]
def GS:FD:=⟨1,1,Sk⟩
def Sm:List S :=
 [.set 2 (.call 26 [(.var 0),(.var 1)]),
 .ite (.not (.call 15 [(.var 0),(.var 2)]))
  [.expr (.blt .any [])]
  [],
 .ret (.var 2)]
def GW:FD:=⟨2,3,Sm⟩
def lP:List S :=
 [.set 2 (.ix (.var 0) (.ag (.int 0))),
 .ite (.cmp .eq (.var 2) (.ag (.str [110,117,109])))
  [.ret (.call 19 [(.var 1)])]
  [],
 .ite (.cmp .eq (.var 2) (.ag (.str [108,111,119])))
  [.ret (.ite (.cmp .eq (.var 1) (.ag (.str [45]))) (.ag .aL) (.call 19 [(.var 1)]))]
  [],
 .ite (.or (.cmp .eq (.var 2) (.ag (.str [99,104,97,105,110]))) (.cmp .eq (.var 2) (.ag (.str [119,101,98]))))
  [.ret (.var 1)]
  [],
 .ite (.cmp .eq (.var 2) (.ag (.str [115,101,116])))
  [.ret (.ite (.cmp .eq (.var 1) (.ag (.str [45]))) (.af []) (.blt .tuple [(.cD .split (.var 1) [(.ag (.str [43]))])]))]
  [],
 .ite (.cmp .eq (.var 2) (.ag (.str [114,111,119])))
  [.ret (.call 27 [(.ix (.var 0) (.ag (.int 1))),(.call 21 [(.call 20 [(.var 1),(.ag (.str [40]))])])])]
  [],
 .set 3 (.cD .partition (.var 1) [(.ag (.str [58]))]),
 .ret (.af [(.call 19 [(.ix (.var 3) (.ag (.int 0)))]),(.call 26 [(.ix (.var 0) (.ag (.int 1))),(.ix (.var 3) (.ag (.int 2)))])])]
def fA:FD:=⟨2,4,lP⟩
def So:List S :=
 [.ite (.cmp .ne (.blt .len [(.var 0)]) (.blt .len [(.var 1)]))
  [.expr (.blt .any [])]
  [],
 .ret (.blt .tuple [(.comp false (.call 26 [(.var 0),(.var 1)]) (.af [0,1]) (.zip [(.var 0),(.var 1)]) aj [] 2)])]
def GY:FD:=⟨2,2,So⟩
def Hc:List S :=
 [.set 2 (.bin .mul (.ag (.int 31)) (.var 1)),
 .ite (.cmp .gt (.blt .len [(.var 0)]) (.ag (.int 0)))
  [.set 2 (.bin .add (.ix (.var 0) (.bin .mod (.var 1) (.blt .len [(.var 0)]))) (.bin .mul (.ag (.int 7919)) (.bin .fdiv (.var 1) (.blt .len [(.var 0)]))))]
  [],
 .ret (.dict [(.str [99,101,108,108]),(.str [108,101,102,116]),(.str [116,117,114,110])] [(.var 2),(.bin .mul (.blt .max2 [(.ag (.int 0)),(.var 2)]) (.blt .toInt [(.cmp .ge (.var 2) (.bin .pow (.ag (.int 10)) (.ag (.int 18))))])),(.ag (.int 0))])]
def xa:FD:=⟨2,3,Hc⟩
def Hb:List S :=
  [.set 2 (.ix (.var 0) (.ag (.str [116,117,114,110]))),
  .mR (.var 0) (.ag (.str [116,117,114,110])) (.bin .add (.var 2) (.ag (.int 1))),
  .set 3 (.ix (.var 0) (.ag (.str [108,101,102,116]))),
  .ite (.cmp .gt (.var 3) (.ag (.int 0)))
    [.mR (.var 0) (.ag (.str [108,101,102,116])) (.bin .fdiv (.var 3) (.var 1)),
     .ret (.bin .mod (.var 3) (.var 1))]
    [],
  .set 4 (.bin .add (.bin .add (.bin .mod (.ix (.var 0) (.ag (.str [99,101,108,108]))) (.ag (.int 2147483647))) (.bin .mul (.bin .mul (.ag (.int 31)) (.var 2)) (.var 2))) (.ag (.int 1))),
  .set 5 (.bin .mod (.bin .mul (.var 4) (.bin .add (.ag (.int 48271)) (.bin .mul (.ag (.int 40)) (.var 2)))) (.ag (.int 2147483629))),
  .ret (.bin .mod (.bin .fdiv (.bin .mod (.bin .add (.bin .mul (.bin .fdiv (.var 5) (.ag (.int 11))) (.ag (.int 69621))) (.var 2)) (.ag (.int 998244353))) (.ag (.int 7))) (.var 1))]
def w_:FD:=⟨2,6,Hb⟩
def tQ:List S :=
  [.set 2 (.bin .mul (.ag (.str [97,98,99,100,101,102,103,104,105,106,107,108,109,110,111,112,113,114,115,116,117,118,119,120,121,122])) (.ag (.int 2))),
  .set 3 (.call 29 [(.var 0),(.ag (.int 3))]),
  .set 4 (.call 29 [(.var 0),(.ag (.int 26))]),
  .set 5 (.fK (.list false [(.ag (.str [110,117,109])),(.ag (.str [110,117,109,98])),(.ag (.str [108,111,119])),(.ag (.str [114,111,119,115])),(.ag (.str [115,101,116])),(.ag (.str [97,115,107,115])),(.ag (.str [112,117,116])),(.ag (.str [111,102]))])),
  .ite (.cmp .eq (.var 3) (.ag (.int 0)))
    [.set 5 (.fK (.comp false (.slice (.var 0) (aa (.var 1)) (aa (.bin .add (.bin .add (.var 1) (.ag (.int 1))) (.var 2)))) (.name 2) (.range (.ag (.int 8))) aj [2,4] 1))]
    [],
  .ite (.cmp .eq (.var 3) (.ag (.int 1)))
    [.set 6 (.bin .add (.ag (.int 1)) (.call 29 [(.var 0),(.ag (.int 8))])),
     .set 7 (.call 29 [(.var 0),(.var 6)]),
     .set 8 (.slice (.var 2) (aa (.var 4)) (aa (.bin .add (.var 4) (.var 7)))),
     .set 9 (.slice (.var 2) (aa (.bin .add (.bin .add (.var 4) (.var 7)) (.ag (.int 1)))) (aa (.bin .add (.var 4) (.var 6)))),
     .set 5 (.fK (.comp false (.bin .add (.bin .add (.var 2) (.ix (.var 0) (.bin .mod (.bin .add (.var 1) (.bin .mul (.ag (.int 3)) (.var 4))) (.ag (.int 26))))) (.var 3)) (.name 4) (.range (.ag (.int 8))) aj [2,4,8,9] 1))]
    [],
  .set 10 (.call 29 [(.var 0),(.ag (.int 8))]),
  .set 5 (.fK (.bin .add (.slice (.var 5) (aa (.var 10)) aj) (.slice (.var 5) aj (aa (.var 10))))),
  .ite (.cmp .eq (.call 29 [(.var 0),(.ag (.int 2))]) (.ag (.int 0)))
    [.expr (.cD .reverse (.var 5) [])]
    [],
  .ret (.slice (.var 5) aj (aa (.var 1)))]
def G5:FD:=⟨2,11,tQ⟩
def Rx:List S :=
 [.set 1 (.fK (.list false [(.af [(.af [(.ag (.int 0)),(.ag (.int 1))])]),(.af [(.af [(.ag (.int 0)),(.ag (.int 1))]),(.af [(.ag (.int 1)),(.ag (.int 2))]),(.af [(.ag (.int 0)),(.ag (.int 2))])]),(.af [(.af [(.ag (.int 0)),(.ag (.int 1))]),(.af [(.ag (.int 0)),(.ag (.int 2))]),(.af [(.ag (.int 1)),(.ag (.int 3))]),(.af [(.ag (.int 2)),(.ag (.int 3))])])])),
 .expr (.cD .append (.var 1) [(.af [(.af [(.ag (.int 0)),(.ag (.int 1))]),(.af [(.ag (.int 0)),(.ag (.int 2))]),(.af [(.ag (.int 0)),(.ag (.int 3))]),(.af [(.ag (.int 1)),(.ag (.int 4))]),(.af [(.ag (.int 2)),(.ag (.int 4))]),(.af [(.ag (.int 3)),(.ag (.int 4))])])]),
 .expr (.cD .append (.var 1) [(.af [(.af [(.ag (.int 0)),(.ag (.int 1))]),(.af [(.ag (.int 1)),(.ag (.int 2))]),(.af [(.ag (.int 2)),(.ag (.int 4))]),(.af [(.ag (.int 0)),(.ag (.int 3))]),(.af [(.ag (.int 3)),(.ag (.int 4))])])]),
 .expr (.cD .append (.var 1) [(.af [(.af [(.ag (.int 0)),(.ag (.int 1))]),(.af [(.ag (.int 1)),(.ag (.int 2))]),(.af [(.ag (.int 2)),(.ag (.int 5))]),(.af [(.ag (.int 0)),(.ag (.int 3))]),(.af [(.ag (.int 3)),(.ag (.int 4))]),(.af [(.ag (.int 4)),(.ag (.int 5))]),(.af [(.ag (.int 0)),(.ag (.int 5))])])]),
 .expr (.cD .append (.var 1) [(.af [(.af [(.ag (.int 0)),(.ag (.int 1))]),(.af [(.ag (.int 0)),(.ag (.int 2))]),(.af [(.ag (.int 0)),(.ag (.int 3))]),(.af [(.ag (.int 1)),(.ag (.int 4))]),(.af [(.ag (.int 2)),(.ag (.int 4))]),(.af [(.ag (.int 2)),(.ag (.int 5))]),(.af [(.ag (.int 3)),(.ag (.int 5))]),(.af [(.ag (.int 4)),(.ag (.int 6))]),(.af [(.ag (.int 5)),(.ag (.int 6))])])]),
 .set 2 (.ix (.var 1) (.call 29 [(.var 0),(.ag (.int 7))])),
 .set 3 (.bin .add (.ag (.int 1)) (.blt .DM [(.comp false (.ix (.var 0) (.ag (.int 1))) (.name 0) (.of (.var 2)) aj [] 1)])),
 .set 4 (.call 30 [(.var 0),(.var 3)]),
 .set 5 (.call 29 [(.var 0),(.var 3)]),
 .set 6 (.call 29 [(.var 0),(.blt .len [(.var 2)])]),
 .set 7 (.bin .add (.slice (.var 4) (aa (.var 5)) aj) (.slice (.var 4) aj (aa (.var 5)))),
 .set 8 (.comp false (.af [(.ix (.var 0) (.var 1)),(.ix (.var 0) (.var 2))]) (.af [1,2]) (.of (.bin .add (.slice (.var 2) (aa (.var 6)) aj) (.slice (.var 2) aj (aa (.var 6))))) aj [7] 2),
 .ret (.af [(.ag (.str [119,101,98])),(.blt .tuple [(.var 4)]),(.blt .tuple [(.var 8)])])]
def FT:FD:=⟨1,9,Rx⟩
def Q_:List S :=
 [.set 1 (.call 29 [(.var 0),(.ag (.int 6))]),
 .ite (.cmp .lt (.var 1) (.ag (.int 2)))
  [.ret (.af [(.ix (.list false [(.ag (.str [110,117,109])),(.ag (.str [108,111,119]))]) (.var 1))])]
  [],
 .ite (.cmp .eq (.var 1) (.ag (.int 2)))
  [.ret (.af [(.ag (.str [99,104,97,105,110])),(.blt .tuple [(.call 30 [(.var 0),(.bin .add (.ag (.int 2)) (.call 29 [(.var 0),(.ag (.int 5))]))])])])]
  [],
 .ite (.cmp .eq (.var 1) (.ag (.int 3)))
  [.ret (.af [(.ag (.str [115,101,116])),(.blt .tuple [(.call 30 [(.var 0),(.bin .add (.ag (.int 1)) (.call 29 [(.var 0),(.ag (.int 5))]))])])])]
  [],
 .ret (.ite (.cmp .eq (.var 1) (.ag (.int 4))) (.call 31 [(.var 0)]) (.af [(.ag (.str [110,117,109]))]))]
def FF:FD:=⟨1,2,Q_⟩
def Ra:List S :=
 [.ite (.cmp .eq (.call 29 [(.var 0),(.ag (.int 2))]) (.ag (.int 0)))
  [.ret (.af [(.ag (.str [110,101,119,101,114])),(.call 32 [(.var 0)])])]
  [],
 .ret (.af [(.ag (.str [114,111,119])),(.blt .tuple [(.comp false (.call 32 [(.var 0)]) (.name 1) (.range (.bin .add (.ag (.int 1)) (.call 29 [(.var 0),(.ag (.int 2))]))) aj [0] 1)])])]
def FG:FD:=⟨1,1,Ra⟩
def QW:List S :=
 [.set 1 (.call 29 [(.var 0),(.ag (.int 10))]),
 .ite (.cmp .lt (.var 1) (.ag (.int 5)))
  [.ret (.call 32 [(.var 0)])]
  [],
 .ite (.cmp .eq (.var 1) (.ag (.int 5)))
  [.ret (.af [(.ag (.str [110,101,119,101,114])),(.call 33 [(.var 0)])])]
  [],
 .ite (.cmp .eq (.var 1) (.ag (.int 6)))
  [.ret (.af [(.ag (.str [114,111,119])),(.blt .tuple [(.comp false (.call 32 [(.var 0)]) (.name 1) (.range (.bin .add (.ag (.int 1)) (.call 29 [(.var 0),(.ag (.int 3))]))) aj [0] 1)])])]
  [],
 .ite (.cmp .eq (.var 1) (.ag (.int 7)))
  [.ret (.call 33 [(.var 0)])]
  [],
 .set 2 (.fK (.comp false (.call 32 [(.var 0)]) (.name 1) (.range (.call 29 [(.var 0),(.ag (.int 3))])) aj [0] 1)),
 .ite (.cmp .eq (.var 1) (.ag (.int 8)))
  [.expr (.cD .insert (.var 2) [(.call 29 [(.var 0),(.bin .add (.blt .len [(.var 2)]) (.ag (.int 1)))]),(.call 33 [(.var 0)])])]
  [.set 2 (.fK (.bin .add (.list false [(.af [(.ag (.str [110,101,119,101,114])),(.call 32 [(.var 0)])]),(.af [(.ag (.str [110,101,119,101,114])),(.call 32 [(.var 0)])])]) (.slice (.var 2) aj (aa (.ag (.int 1))))))],
 .ret (.af [(.ag (.str [114,111,119])),(.blt .tuple [(.var 2)])])]
def G6:FD:=⟨1,3,QW⟩
def lQ:List S :=
  [.set 2 (.ix (.var 1) (.ag (.int 0))),
  .ite (.or (.cmp .eq (.var 2) (.ag (.str [110,117,109]))) (.cmp .eq (.var 2) (.ag (.str [108,111,119]))))
    [.set 3 (.list false [(.call 29 [(.var 0),(.ag (.int 4))]),(.call 29 [(.var 0),(.ag (.int 4))]),(.bin .add (.ag (.int 8)) (.call 29 [(.var 0),(.ag (.int 4))])),(.call 29 [(.var 0),(.bin .sub (.bin .pow (.ag (.int 10)) (.ag (.int 20))) (.ag (.int 5)))])]),
     .set 3 (.ix (.var 3) (.call 29 [(.var 0),(.ag (.int 4))])),
     .ret (.ite (.and (.cmp .eq (.var 2) (.ag (.str [108,111,119]))) (.cmp .eq (.call 29 [(.var 0),(.ag (.int 4))]) (.ag (.int 0)))) (.ag .aL) (.var 3))]
    [],
  .ite (.or (.cmp .eq (.var 2) (.ag (.str [99,104,97,105,110]))) (.cmp .eq (.var 2) (.ag (.str [119,101,98]))))
    [.ret (.ix (.ix (.var 1) (.ag (.int 1))) (.call 29 [(.var 0),(.blt .len [(.ix (.var 1) (.ag (.int 1)))])]))]
    [],
  .ite (.cmp .eq (.var 2) (.ag (.str [115,101,116])))
    [.ret (.blt .tuple [(.comp false (.var 1) (.name 1) (.of (.ix (.var 1) (.ag (.int 1)))) (aa (.cmp .eq (.call 29 [(.var 0),(.ag (.int 2))]) (.ag (.int 0)))) [0] 1)])]
    [],
  .ite (.cmp .eq (.var 2) (.ag (.str [110,101,119,101,114])))
    [.ret (.af [(.call 29 [(.var 0),(.ag (.int 3))]),(.call 35 [(.var 0),(.ix (.var 1) (.ag (.int 1)))])])]
    [],
  .ret (.blt .tuple [(.comp false (.call 35 [(.var 0),(.var 1)]) (.name 1) (.of (.ix (.var 1) (.ag (.int 1)))) aj [0] 1)])]
def hU:FD:=⟨2,4,lQ⟩
def QX:List S :=
  [.set 1 (.dict [] []),
  .for (.name 2) (.of (.ix (.var 0) (.ag (.int 1))))
    [.set 3 (.list false [(.var 2)]),
     .for (.name 4) (.range (.blt .len [(.ix (.var 0) (.ag (.int 1)))]))
       [.set 3 (.bin .add (.var 3) (.comp false (.ix (.var 1) (.ag (.int 1))) (.name 1) (.of (.ix (.var 0) (.ag (.int 2)))) (aa (.and (.cmp .isIn (.ix (.var 1) (.ag (.int 0))) (.var 0)) (.cmp .ze (.ix (.var 1) (.ag (.int 1))) (.var 0)))) [3] 1))],
     .mR (.var 1) (.var 2) (.comp false (.var 1) (.name 1) (.of (.ix (.var 0) (.ag (.int 1)))) (aa (.cmp .isIn (.var 1) (.var 0))) [3] 1)],
  .ret (.var 1)]
def G7:FD:=⟨1,5,QX⟩
def pd:List S :=
  [.set 1 (.ix (.var 0) (.ag (.int 0))),
  .ite (.cmp .eq (.var 1) (.ag (.str [119,101,98])))
    [.set 2 (.call 36 [(.var 0)]),
     .ret (.ix (.comp false (.var 2) (.name 2) (.of (.ix (.var 0) (.ag (.int 1)))) (aa (.cmp .eq (.blt .len [(.ix (.var 1) (.var 2))]) (.blt .len [(.ix (.var 0) (.ag (.int 1)))]))) [0,2] 1) (.ag (.int 0)))]
    [],
  .ite (.cmp .eq (.var 1) (.ag (.str [110,101,119,101,114])))
    [.ret (.af [(.ag (.int 0)),(.call 37 [(.ix (.var 0) (.ag (.int 1)))])])]
    [],
  .ite (.cmp .eq (.var 1) (.ag (.str [114,111,119])))
    [.ret (.blt .tuple [(.comp false (.call 37 [(.var 0)]) (.name 0) (.of (.ix (.var 0) (.ag (.int 1)))) aj [] 1)])]
    [],
  .ret (.ix (.dict [(.str [110,117,109]),(.str [108,111,119]),(.str [115,101,116]),(.str [99,104,97,105,110])] [(.ag (.int 0)),(.ag .aL),(.af []),(.ix (.ix (.var 0) (.neg (.ag (.int 1)))) (.ag (.int 0)))]) (.var 1))]
def hZ:FD:=⟨1,3,pd⟩
def pe:List S :=
  [.set 3 (.ix (.var 1) (.ag (.int 0))),
  .ite (.cmp .eq (.var 3) (.ag (.str [110,117,109])))
    [.ret (.blt .max2 [(.ag (.int 0)),(.bin .sub (.bin .add (.var 2) (.call 29 [(.var 0),(.ag (.int 3))])) (.ag (.int 1)))])]
    [],
  .ite (.cmp .eq (.var 3) (.ag (.str [108,111,119])))
    [.ret (.ite (.cmp .isNone (.var 2) (.ag .aL)) (.call 29 [(.var 0),(.ag (.int 3))]) (.blt .max2 [(.ag (.int 0)),(.bin .sub (.bin .add (.var 2) (.call 29 [(.var 0),(.ag (.int 3))])) (.ag (.int 1)))]))]
    [],
  .ite (.cmp .eq (.var 3) (.ag (.str [115,101,116])))
    [.set 4 (.call 29 [(.var 0),(.blt .len [(.ix (.var 1) (.ag (.int 1)))])]),
     .ret (.blt .tuple [(.comp false (.var 3) (.name 3) (.of (.ix (.var 1) (.ag (.int 1)))) (aa (.cmp .ne (.cmp .isIn (.var 3) (.var 1)) (.cmp .eq (.var 3) (.ix (.ix (.var 0) (.ag (.int 1))) (.var 2))))) [1,2,4] 1)])]
    [],
  .ite (.cmp .eq (.var 3) (.ag (.str [110,101,119,101,114])))
    [.ret (.af [(.blt .max2 [(.ag (.int 0)),(.bin .add (.ix (.var 2) (.ag (.int 0))) (.ix (.list false [(.ag (.int 0)),(.ag (.int 0)),(.ag (.int 1)),(.neg (.ag (.int 1)))]) (.call 29 [(.var 0),(.ag (.int 4))])))]),(.call 38 [(.var 0),(.ix (.var 1) (.ag (.int 1))),(.ix (.var 2) (.ag (.int 1)))])])]
    [],
  .ite (.cmp .eq (.var 3) (.ag (.str [114,111,119])))
    [.set 4 (.call 29 [(.var 0),(.blt .len [(.var 2)])]),
     .set 5 (.call 38 [(.var 0),(.ix (.ix (.var 1) (.ag (.int 1))) (.var 4)),(.ix (.var 2) (.var 4))]),
     .ret (.bin .add (.bin .add (.slice (.var 2) aj (aa (.var 4))) (.af [(.var 5)])) (.slice (.var 2) (aa (.bin .add (.var 4) (.ag (.int 1)))) aj))]
    [],
  .ret (.ix (.ix (.var 1) (.ag (.int 1))) (.call 29 [(.var 0),(.blt .len [(.ix (.var 1) (.ag (.int 1)))])]))]
def ij:FD:=⟨3,6,pe⟩
def qR:List S :=
 [.ite (.cmp .eq (.blt .len [(.var 0)]) (.ag (.int 1)))
  [.ret (.ix (.var 0) (.ag (.int 0)))]
  [],
 .ite (.cmp .eq (.ix (.var 0) (.ag (.int 0))) (.ag (.str [114,111,119])))
  [.ret (.bin .add (.bin .add (.ag (.str [114,111,119,40])) (.cD .join (.ag (.str [59])) [(.comp false (.call 39 [(.var 0)]) (.name 0) (.of (.ix (.var 0) (.ag (.int 1)))) aj [] 1)])) (.ag (.str [41])))]
  [],
 .ite (.cmp .eq (.ix (.var 0) (.ag (.int 0))) (.ag (.str [110,101,119,101,114])))
  [.ret (.bin .add (.bin .add (.ag (.str [110,101,119,101,114,40])) (.call 39 [(.ix (.var 0) (.ag (.int 1)))])) (.ag (.str [41])))]
  [],
 .set 1 (.bin .add (.bin .add (.ix (.var 0) (.ag (.int 0))) (.ag (.str [40]))) (.cD .join (.ag (.str [44])) [(.ix (.var 0) (.ag (.int 1)))])),
 .ite (.cmp .eq (.ix (.var 0) (.ag (.int 0))) (.ag (.str [119,101,98])))
  [.set 1 (.bin .add (.bin .add (.var 1) (.ag (.str [59]))) (.cD .join (.ag (.str [44])) [(.comp false (.bin .add (.bin .add (.ix (.var 0) (.ag (.int 0))) (.ag (.str [60]))) (.ix (.var 0) (.ag (.int 1)))) (.name 0) (.of (.ix (.var 0) (.ag (.int 2)))) aj [] 1)]))]
  [],
 .ret (.bin .add (.var 1) (.ag (.str [41])))]
def jg:FD:=⟨1,2,qR⟩
def lO:List S :=
 [.ite (.cmp .eq (.ix (.var 0) (.ag (.int 0))) (.ag (.str [110,101,119,101,114])))
  [.ret (.bin .add (.bin .add (.blt .toStr [(.ix (.var 1) (.ag (.int 0)))]) (.ag (.str [58]))) (.call 40 [(.ix (.var 0) (.ag (.int 1))),(.ix (.var 1) (.ag (.int 1)))]))]
  [],
 .ite (.cmp .eq (.ix (.var 0) (.ag (.int 0))) (.ag (.str [114,111,119])))
  [.ret (.bin .add (.bin .add (.ag (.str [40])) (.cD .join (.ag (.str [59])) [(.comp false (.call 40 [(.ix (.ix (.var 0) (.ag (.int 1))) (.var 2)),(.ix (.var 1) (.var 2))]) (.name 2) (.range (.blt .len [(.var 1)])) aj [0,1] 1)])) (.ag (.str [41])))]
  [],
 .ite (.or (.cmp .isNone (.var 1) (.ag .aL)) (.cmp .eq (.var 1) (.af [])))
  [.ret (.ag (.str [45]))]
  [],
 .ite (.cmp .eq (.ix (.var 0) (.ag (.int 0))) (.ag (.str [115,101,116])))
  [.ret (.cD .join (.ag (.str [43])) [(.var 1)])]
  [],
 .ret (.ite (.cmp .isIn (.ix (.var 0) (.ag (.int 0))) (.af [(.ag (.str [110,117,109])),(.ag (.str [108,111,119]))])) (.blt .toStr [(.var 1)]) (.var 1))]
def fz:FD:=⟨2,2,lO⟩
def zZ:List S :=
  [.for (.name 1) (.range (.ag (.int 12)))
    [.set 2 (.call 28 [(.var 0),(.var 1)]),
     .set 3 (.call 34 [(.var 2)]),
     .set 4 (.blt .repr [(.var 3)]),
     .set 5 (.call 39 [(.var 3)]),
     .ite (.or (.cmp .ne (.call 17 [(.var 3)]) (.var 5)) (.or (.cmp .ne (.blt .repr [(.call 22 [(.var 5)])]) (.var 4)) (.cmp .ne (.blt .repr [(.var 3)]) (.var 4))))
       [.ret (.ag (.bl false))]
       [],
     .set 6 (.fK (.bin .add (.comp false (.call 35 [(.var 0),(.var 1)]) (.name 2) (.range (.ag (.int 3))) aj [2,3] 1) (.list false [(.call 37 [(.var 3)])]))),
     .expr (.cD .append (.var 6) [(.call 38 [(.var 2),(.var 3),(.ix (.var 6) (.ag (.int 0)))])]),
     .for (.name 7) (.of (.var 6))
       [.set 8 (.call 40 [(.var 3),(.var 7)]),
        .set 9 (.call 18 [(.var 3),(.var 7)]),
        .ite (.or (.not (.blt (.mN .str) [(.var 9)])) (.or (.cmp .ne (.var 9) (.var 8)) (.cmp .ne (.blt .repr [(.call 25 [(.var 3),(.var 8)])]) (.blt .repr [(.var 7)]))))
          [.ret (.ag (.bl false))]
          []]],
  .ret (.ag (.bl true))]
def E7:FD:=⟨1,10,zZ⟩
def prog:List FD:=[FC,w8,xg,GN,FE,wY,qU,Gd,G3,FR,FA,G4,G0,GP,G8,hV,GR,jh,gh,GX,Gf,Ge,G1,qS,GS,GW,fA,GY,xa,w_,G5,FT,FF,FG,G6,hU,G7,hZ,ij,jg,fz,E7]
@[reducible] def yk5:Nat:=0
@[reducible] def yk7:Nat:=1
@[reducible] def ys3:Nat:=2
@[reducible] def zy2:Nat:=3
@[reducible] def yk6:Nat:=4
@[reducible] def Sf:Nat:=5
@[reducible] def Q4:Nat:=6
@[reducible] def yE8:Nat:=7
@[reducible] def ya2:Nat:=8
@[reducible] def ys4:Nat:=9
@[reducible] def yk4:Nat:=10
@[reducible] def ya3:Nat:=11
@[reducible] def A6:Nat:=12
@[reducible] def Sg:Nat:=13
@[reducible] def Q3:Nat:=14
@[reducible] def ya4:Nat:=15
@[reducible] def QS:Nat:=17
@[reducible] def zP1:Nat:=18
@[reducible] def zP3:Nat:=19
@[reducible] def yF0:Nat:=20
@[reducible] def yE9:Nat:=21
@[reducible] def zU5:Nat:=22
@[reducible] def GU:Nat:=23
@[reducible] def zH9:Nat:=24
@[reducible] def zP2:Nat:=25
@[reducible] def zD3:Nat:=26
@[reducible] def zP4:Nat:=27
@[reducible] def yl0:Nat:=28
@[reducible] def xb:Nat:=29
@[reducible] def ya6:Nat:=30
@[reducible] def ys5:Nat:=31
@[reducible] def Ri:Nat:=32
@[reducible] def yk9:Nat:=33
@[reducible] def ya7:Nat:=34
@[reducible] def zU4:Nat:=35
@[reducible] def ya8:Nat:=36
@[reducible] def ya5:Nat:=37
@[reducible] def yk8:Nat:=38
@[reducible] def Si:Nat:=39
@[reducible] def zA8:Nat:=40
@[reducible] def NH:Nat:=41
def Fk(n a:Nat):n-a+min a n=n:=by lia
def Qs(n a:Nat):min a n+(n-a)=n:=by lia
def kI(c l t:Int):b6:=.bB [(.str [99,101,108,108],.int c),(.str [108,101,102,116],.int l),(.str [116,117,114,110],.int t)]
def PB{i:Int}(h1:-1000000000000000000<=i)(h2:i<=1000000000000000000):fC i=true:=by
 unfold fC;exact decide_eq_true ⟨by lia,by lia⟩
def tY(a b:Int)(h:0<b):0<=a%b/\a%b<b:=⟨Hk _ (),Hj _ h⟩
def yT2(W d w:Nat)(c l t m:Int)(st:ay)(hw:aW st w=aa (kI c l t))(hl:0<=l)(ht:0<=t)(ht2:t<=1000000)(hm:0<m)(gZ:m<1000000000000000000000000000000):
  ∃r l',0<=r/\r<m/\0<=l'/\a0 prog W (d+1) xb [.ref w,.p (.int m)] st=.ok (.p (.int r)) (st.set w (kI c l' (t+1))):=by
 let g1:=λo=>t5 (o:=o) (pj hw);let zo:fC 31=true:=by decide
 let Zh:fC 40=true:=by decide
 let Zs:fC (31*t)=true:=PB () ();let sm:fC (48271+40*t)=true:=PB () ();let s6:fC 69621=true:=by decide
 by_cases h:0<l
 .refine(l%m,l/m,(tY l m hm).1,(tY l m hm).2,Int.ediv_nonneg hl (),?_);rw[aS (fd:=w_) rfl rfl];simp[w_,Hb,hw,kI,eJ,dC,h,g1,hm,gZ,PD]
 .refine(((((c%2147483647+31*t*t+1)*(48271+40*t)%2147483629)/11*69621+t)%998244353/7)%m,l,(tY _ m hm).1,(tY _ m hm).2,hl,?_);rw[aS (fd:=w_) rfl rfl];simp[w_,Hb,hw,kI,eJ,dC,h,g1,hm,gZ,PD,zo,Zh,Zs,sm,s6]
def xf0(W d:Nat)(ns:List Int)(k:Int)(st:ay)(sr:ns.length<=63)(hk:0<=k)(ky:k<=1000000):
  ∃c l,0<=l/\a0 prog W (d+1) yl0 [.p (.ai (ns.map .int)),.p (.int k)] st=.ok (.ref st.length) (st++[kI c l 0]):=by
 let zo:fC 31=true:=by decide
 let Zi:fC 7919=true:=by decide
 let sQ:fC 10=true:=by decide
 let sb:∀(p:Prop) [Decidable p],fC (if p then(1:Int)else 0)=true:=by intro p _;split<;>decide
 let mx:∀c:Int,0<=(if(0:Int)<c then c else 0):=λc=>by split<;>lia
 let LK:∀(c:Int)(b:Bool),0<=(if(0:Int)<c then c else 0)*(if b=true then 1 else 0):=λc b=>Int.mul_nonneg (mx c) (by cases b<;>decide)
 let i18:(10:Int) ^ 18=1000000000000000000:=by decide
 by_cases h:(0:Int)<ns.length
 .let yK:=tY k ns.length h;obtain⟨v,hv⟩:∃v,ns[(k%(ns.length:Int)).toNat]?=aa v:=⟨_,bY ()⟩;refine(v+7919*(k/(ns.length:Int)),(if(0:Int)<v+7919*(k/(ns.length:Int))then v+7919*(k/(ns.length:Int))else 0)*(if decide ((10:Int) ^ 18<=v+7919*(k/(ns.length:Int)))=true then 1 else 0),LK _ _,?_)
  let mJ:(ns.length:Int)<1000000000000000000000000000000:=by lia
  let C9:aO ns.length (k%(ns.length:Int))=aa (k%(ns.length:Int)).toNat:=by
   unfold aO;rw[if_pos yK.1,if_pos yK.2]
  rw[aS (fd:=xa) rfl rfl];let h':0<ns.length:=by lia
  simp[xa,Hc,zo,sQ,Zi,sb,kI,dC,h,h',mJ,C9,hv,ng,-Int.reducePow]
 .let h0:ns.length=0:=by lia
  refine(31*k,(if(0:Int)<31*k then 31*k else 0)*(if decide ((10:Int) ^ 18<=31*k)=true then 1 else 0),LK _ _,?_)
  rw[aS (fd:=xa) rfl rfl];let h':¬0<ns.length:=by lia
  simp[xa,Hc,zo,sQ,sb,kI,dC,h,h0,ng,-Int.reducePow]
def Well(st:ay)(w:Nat)(T:Int):Prop:=∃c l t,aW st w=aa (kI c l t)/\0<=l/\0<=t/\t<=T
def bX(w:Nat)(T:Int)(st ao:ay):Prop:=(∃o,ao=st.set w o)/\Well ao w T
def Well.lt{st w T}(h:Well st w T):w<st.length:=by let(_,_,_,h,_):=h;exact pj h
def Well.mono{st w T T'}(h:Well st w T)(g:T<=T'):Well st w T':=by
 let(c,l,t,a,b,d,e):=h;exact(c,l,t,a,b,d,by lia)
def Well.app{st w T r}(h:Well st w T):Well (st++r) w T:=by
 let(c,l,t,a,b):=h;exact(c,l,t,by rw[xh (pj a)];exact a,b)
variable{W D w:Nat}{T:Int}{st:ay}
def xl(hD:0<D){m:Int}(hw:Well st w T)(hT:T<1000000)(hm:0<m)(gZ:m<1000000000000000000000000000000):
  aK (a0 prog W D xb [.ref w,.p (.int m)] st) λv ao=>(∃r,v=.p (.int r)/\0<=r/\r<m)/\bX w (T+1) st ao:=by
 obtain⟨d,rfl⟩:∃d,D=d+1:=⟨D-1,by lia⟩;let(c,l,t,h1,h2,h3,h4):=hw;let(r,l',a1,a2,a3,a4):=yT2 W d w c l t m st h1 h2 h3 () hm gZ;exact xw1 a4 ⟨⟨r,rfl,a1,a2⟩,⟨_,rfl⟩,c,l',t+1,t5 (pj h1),a3,by lia,by lia⟩
variable{d:Nat}
def d7{m:Int}(hw:Well st w T)(hT:T<1000000)(hm:0<m:=by decide)(gZ:m<1000000000000000000000000000000:=by decide):
  aK (a0 prog W (d+1) xb [.ref w,.p (.int m)] st) λv ao=>(∃r,v=.p (.int r)/\0<=r/\r<m)/\bX w (T+1) st ao:=xl (TZ d) hw hT hm gZ
def bX.trans{w T T' st aA aI}(h:bX w T st aA)(g:bX w T' aA aI):bX w T' st aI:=by
 obtain⟨⟨o,rfl⟩,_⟩:=h;obtain⟨⟨o',rfl⟩,q⟩:=g;exact(⟨o',by simp⟩,q)
def bX.refl{w T st}(h:Well st w T):bX w T st st:=by
 refine(?_,h);let(c,l,t,a,_):=h;exact(kI c l t,by
  unfold aW at a;let(h1,h2):=dU.mp a;rw[<-h2];simp)
def bX.len{w T st ao}(h:bX w T st ao):ao.length=st.length:=by
 obtain⟨⟨o,rfl⟩,_⟩:=h;simp
def bX.mono{w T T' st ao}(h:bX w T st ao)(g:T<=T'):bX w T' st ao:=⟨h.1,h.2.mono g⟩
def bX.take{w T st ao}(h:bX w T st ao):ao.take st.length=ao:=by
 rw[<-h.len];simp
def t9(hD:0<D){m:Int}{rs:ay}(hw:Well st w T)(hT:T<1000000)(hm:0<m)(gZ:m<1000000000000000000000000000000):
  aK (a0 prog W D xb [.ref w,.p (.int m)] (st++rs)) λv ao=>(∃r,v=.p (.int r)/\0<=r/\r<m)/\∃o,ao=st.set w o++rs/\Well (st.set w o) w (T+1):=by
 refine(xl hD hw.app hT hm gZ).mono ?_;rintro v ao ⟨h,⟨o,rfl⟩,mM⟩;refine(h,o,xK _ _ hw.lt,?_);rw[xK _ _ hw.lt]at mM;let(c,l,t,a,b):=mM;exact(c,l,t,by rw[xh (by simpa using hw.lt)]at a;exact a,b)
def bX.cut{w T st ao}(h:bX w T st ao):bX w T st (ao.take st.length):=by rw[h.take];exact h
def bX.vW{w T st rs ao}(h:bX w T (st++rs) ao)(hw:w<st.length):∃o,ao=st.set w o++rs/\Well (st.set w o) w T:=by
 obtain⟨⟨o,rfl⟩,mM⟩:=h;refine(o,xK _ _ hw,?_);rw[xK _ _ hw]at mM;let(c,l,t,a,b):=mM;exact(c,l,t,by rw[xh (by simpa using hw)]at a;exact a,b)
def fL(cs:List Nat):Bool:=decide (1<=cs.length)&&decide (cs.length<=8)&&cs.all λc=>decide (97<=c/\c<=122)
def dq(ns:List (List Nat)):Prop:=ns.Nodup/\∀n∈ns,fL n=true
def dq.perm{a b}(h:dq a)(p:List.Perm b a):dq b:=⟨p.nodup_iff.mpr h.1,λn hn=>h.2 n (p.mem_iff.mp hn)⟩
def dq.take{a}(h:dq a)(k:Nat):dq (a.take k):=⟨h.1.sublist (xN _ _),λn hn=>h.2 n (pI hn)⟩
def Bi:List S:=tQ.drop 6
variable{m:Nat}
def ym2{n k:Nat}{st0:ay}{ns:List (List Nat)}{x2 x3 x4 x6 x7 x8 x9 zK:Option aJ}
  (hw:w<n) (hnk:n<=k) (hd:bX w T st0 (st.take n)) (hT:T+2<=1000000) (hk:aW st k=aa (.ai (ns.map .str))) (h8:ns.length=8) (hg:dq ns) (hm:m<=8) :
  aK (b_ (a0 prog W (d+1)) W Bi [aa (.ref w),aa (.p (.int m)),x2,x3,x4,aa (.ref k),x6,x7,x8,x9,zK] st)
   λf ao=>∃g_,f=.ret (.p (.ai (g_.map .str)))/\g_.length=m/\dq g_/\bX w (T+2) st0 (ao.take n):=by
 let ot:Well st w T:=by
  let:=hd.2.app (r:=st.drop n)
  rwa [HH]at this
 simp only[Bi,tQ,List.drop_succ_cons,pF];apply ar;simp![];refine(d7 ot ()).mono ?_;rintro _ aA ⟨⟨r,rfl,KO,XS⟩,⟨o1,rfl⟩,fj⟩;apply ar;let sD:aW (st.set w o1) k=aa (.ai (ns.map .str)):=by rw[G2 ()];exact hk
 simp![kD,eX sD,sliceOp,tq,xj _ _ KO,qL _ _ KO,bC,h8];let hl:(8-r.toNat+min r.toNat 8)=8:=Fk 8 _;simp![hl,bC];dsimp! only;let hp:=uf ns r.toNat;let qj:=hg.perm hp;let WQ:(ns.drop r.toNat++ns.take r.toNat).length=8:=by rw[hp.length_eq];exact h8
 rw[<-xF,<-xG,<-kQ];generalize ns.drop r.toNat++ns.take r.toNat=oF at qj WQ;apply ar;simp![];refine(d7 fj.app ()).mono ?_;rintro _ aI ⟨⟨q,rfl,hq0,KN⟩,⟨o2,rfl⟩,fJ⟩;let lE:w<st.length:=ot.lt;let vm:k<st.length:=pj hk;let hS:((st.set w o1++[b6.ai (iZ PV.str oF)]).set w o2)=st.set w o2++[b6.ai (iZ PV.str oF)]:=by
  rw[xK _ _ (by simpa using lE)];simp
 rw[hS]at fJ ⊢;let hD:∀r,bX w (T+2) st0 (xM n (st.set w o2++r)):=by
  intro r;rw[Tv (by simp;lia),List.take_set];obtain⟨⟨o0,h0⟩,-⟩:=hd;refine(⟨o2,?_⟩,?_)
  .rw[h0];simp
  .let(c,l,t,a,b):=fJ;refine(c,l,t,?_,by lia);rw[xh (by simpa using lE),t5 lE]at a;rw[t5 (by simp;lia)];exact a
 let ho:aW (st.set w o2++[b6.ai (iZ PV.str oF)]) st.length=aa (.ai (oF.map .str)):=qX (by simp);let KA:(0:Int)<=m:=by lia
 by_cases hq:q=0
 .subst hq;simp![aH];apply ar;simp![eX ho,qW ho,wA];apply ar;let dk:aW (st.set w o2++[b6.ai (iZ PV.str oF).reverse]) st.length=aa (.ai (oF.reverse.map .str)):=by
   rw[List.map_reverse];exact qX (by simp)
  simp![kD,eX dk,sliceOp,tq,qL _ _ KA];exact(oF.reverse.take m,by simp,by simp;lia,(qj.perm (Tq _)).take m,hD _)
 .simp![aH,hq];apply ar;simp![kD,eX ho,sliceOp,tq,qL _ _ KA];exact(oF.take m,by simp,by simp;lia,qj.take m,hD _)
def dA:List Nat:=[97,98,99,100,101,102,103,104,105,106,107,108,109,110,111,112,113,114,115,116,117,118,119,120,121,122,97,98,99,100,101,102,103,104,105,106,107,108,109,110,111,112,113,114,115,116,117,118,119,120,121,122]
noncomputable instance (ns):Decidable (dq ns):=by unfold dq;infer_instance
def zS(s:Nat):List (List Nat):=(cF 8).map λk=>(dA.drop s).take (1+k)
def zU(s z a:Nat):List (List Nat):=(cF 8).map λk=>(dA.drop s).take a++((dA.drop ((s+3*k)%26)).take 1)++(dA.drop (s+a+1)).take (z-a-1)
def xh0:dA.all (λc=>decide (97<=c/\c<=122))=true:=by decide
def Z3{l:List Nat}(h:∀c∈l,c∈dA):l.all (λc=>decide (97<=c/\c<=122))=true:=by
 rw[c_];exact λc hc=>c_.mp xh0 c (h c hc)
def xj8{s z:Nat}:∀c∈(dA.drop s).take z,c∈dA:=λc hc=>xI (pI hc)
variable{O:Type}
def zW0{β:Type}{f:O->β}{l:List O}(h:l.Nodup)(hf:∀a b,f a=f b->a=b):(l.map f).Nodup:=by
 unfold Bq at *
 rw[xJ];exact h.imp λkq Xi=>kq (hf _ _ Xi)
def yw8:∀s,s<26->dq (zS s):=by decide +kernel
def yH2:∀s,s<26->((cF 8).map λk=>(dA.drop ((s+3*k)%26)).take 1).Nodup:=by decide +kernel
variable{a b:Int}
def ZO(ha:0<=a)(hb:0<=b):(a+b).toNat-a.toNat=b.toNat:=by rw[Hl ha hb,Nat.add_sub_cancel_left]
def ZP(ha:0<=a)(hb:0<=b):(a+b+1).toNat=a.toNat+b.toNat+1:=by rw[Hl (Int.add_nonneg ha hb) (by decide),Hl ha hb];rfl
def ZQ{c:Int}{b:Nat}(ha:0<=a)(hc:0<=c):(a+(1+c)).toNat-(a.toNat+b+1)=(1+c).toNat-b-1:=by
 let(n,rfl):=Bp ha;let(m,rfl):=Bp hc;show((n+(1+m):Nat):Int).toNat-_=((1+m:Nat):Int).toNat-_-1;rw[rD,rD,rD];lia
def ZR{k:Nat}(ha:0<=a):((a+3*(k:Int))%26).toNat=(a.toNat+3*k)%26:=by
 let(n,rfl):=Bp ha;show(((n+3*k)%26:Nat):Int).toNat=_;rw[rD,rD]
def Yz{a b:Nat}:min a (52-b)+1<=16777216:=df (TY (df (xT _ _) (xU _ _))) (by decide)
variable{c:Nat}
def YA{a b:Nat}:min a (52-b)+1+min c (51-d)<=16777216:=df (Nat.add_le_add (TY (df (xT _ _) (xU _ _))) (df (xT _ _) (xU _ _))) (by decide:53+51<=16777216)
def yw9(s:Nat)(hs:s<26)(z:Nat)(hz:z<9)(a:Nat)(ha:a<z):dq (zU s z a):=by
 constructor
 .let h:=zW0 (f:=λx=>(dA.drop s).take a++x++(dA.drop (s+a+1)).take (z-a-1)) (yH2 s hs) λx y h=>by simpa using h
  rw[j7]at h;exact h
 .intro n hn;let(k,hk,rfl):=bK.mp hn;let hl:dA.length=52:=by decide
  let Ks:(s+3*k)%26<26:=kY _ ();let h1:((dA.drop s).take a++((dA.drop ((s+3*k)%26)).take 1)++(dA.drop (s+a+1)).take (z-a-1)).length=z:=by
   rw[cA,cA,HA (by rw[iY,hl];lia),HA (by rw[iY,hl];lia),HA (by rw[iY,hl];lia)];lia
  unfold fL;rw[h1,Z3]
  .simp;lia
  .intro c hc;simp only[d0]at hc;rcases hc with(hc |hc)|hc<;>exact xj8 c hc
open Lean in
local macro_rules (kind:=char)
 |s=>do`(.var $(quote (s.isCharLit?.get!.toNat-48)))
open Lean in
local macro_rules (kind:=scientific)
 |s=>do`(.ag (.int $(quote (s.isScientificLit?.get!.1/10))))
open Lean in
local macro_rules (kind:=termS!_)
 |s=>do
  let l:=s[1][0].isInterpolatedStrLit?.get!.toList.toArray.map λc=>(quote c.toNat:Term)
  `([$l,*])
def EY:List (List Nat):=[s!"num",s!"numb",s!"low",s!"rows",s!"set",s!"asks",s!"put",s!"of"]
def F1(hD:2<=D)(hw:Well st w T)(hT:T+6<=1000000)(hm:m<=8):
  aK (a0 prog W D ya6 [.ref w,.p (.int m)] st) λv ao=>(∃ns,v=.p (.ai (ns.map .str))/\ns.length=m/\dq ns)/\bX w (T+6) st ao:=by
 obtain⟨d,rfl⟩:∃d,D=d+2:=⟨D-2,by lia⟩;let lE:=hw.lt;rw[aS (fd:=G5) rfl rfl];rw[aR];let fin:∀f ao,(∃g_,f=Flow.ret (.p (.ai (g_.map .str)))/\g_.length=m/\dq g_/\bX w (T+6) st (ao.take st.length))->aK (Ac st.length f ao) λv ao=>(∃ns,v=.p (.ai (ns.map .str))/\ns.length=m/\dq ns)/\bX w (T+6) st ao:=by
  rintro f ao ⟨g_,rfl,h1,h2,h3⟩;simp only[FZ,OA,sat_ok];exact(⟨g_,rfl,h1,h2⟩,h3)
 refine aK.mono ?_ fin;clear fin;simp only[G5,bJ,eD,fD,d3,Nat.reduceSub,cG];rw[show tQ=tQ.take 6++Bi from rfl,yk0,aR];simp only[tQ,HI,xO];let hmul:vZ (.str s!"abcdefghijklmnopqrstuvwxyz") (.int 2)=aa (.str dA):=by simp[bC,dA,cG]
 let qk:dA.length=52:=by decide
 let s3:fC 3=true:=by decide
 apply ar;simp![hmul,-vZ];apply ar;simp![];refine(d7 hw ()).mono ?_;rintro _ _ ⟨⟨r3,rfl,yA,JY⟩,⟨o3,rfl⟩,lD⟩;apply ar;simp![];refine(d7 lD ()).mono ?_;rintro _ _ ⟨⟨r4,rfl,gG,CP⟩,⟨o4,rfl⟩,oq⟩;rw[l7]at oq ⊢;apply ar;simp![];dsimp! only;let Dz:Well (st.set w o4) w (T+2):=oq.mono ();clear oq lD
 let fin:∀(k:Nat)(ns:List (List Nat)) (T':Int) (o:b6) (rs:List b6) x3 x4 x6 x7 x8 x9 zK,T'<=T+4->Well (st.set w o) w T'->aW (st.set w o++rs) k=aa (.ai (ns.map .str))->st.length<=k->ns.length=8->dq ns ->
   aK (b_ (a0 prog W (d+1)) W Bi [aa (.ref w),aa (.p (.int m)),aa (.p (.str dA)),x3,x4,aa (.ref k),x6,x7,x8,x9,zK] (st.set w o++rs)) λa Zt=>∃g_,a=Flow.ret (aJ.p (PV.ai (iZ PV.str g_)))/\g_.length=m/\dq g_/\bX w (T+6) st (xM (b7 st) Zt):=by
  intro k ns T' o rs x3 x4 x6 x7 x8 x9 zK W1 mM hk yH h8 hg;refine(ym2 (n:=st.length) (st0:=st) (T:=T+4) lE yH ?_ () hk h8 hg hm).mono λf ao h=>?_
  .rw[Tv (by simp),kU (by simp)];exact(⟨o,rfl⟩,mM.mono W1)
  .let(g_,h1,h2,h3,h4):=h;exact(g_,h1,h2,h3,h4.mono ())
 by_cases c0:r3=0
 .subst c0;refine bH rfl ?_;apply ar;simp![nK];rw[fm (λk:Nat=>PV.int k) (λk=>PV.str ((dA.drop r4.toNat).take (1+k))) (λenv=>∃v,env=[aa (.p (.str dA)),aa (.p (.int r4)),v]) _ _ _ ⟨_,rfl⟩ ?_]
  .simp![];dsimp! only
   skip
   apply ar;simp![aH];dsimp! only;exact fin _ (zS r4.toNat) (T+2) _ _ _ _ _ _ _ _ _ () Dz (by simp[aW,zS]) (by simp) (by simp[zS]) (yw8 _ ())
  .rintro k hk env ⟨v,rfl⟩;refine(_,rfl,⟨_,rfl⟩,?_);let Ks:k<8:=eF.mp hk;simp![sliceOp];rw[uX _ _ _ gG () (by rw[qk];lia)];rw[show(r4+1+(k:Int)).toNat-r4.toNat=1+k by lia]
 .apply ar;simp![aH,c0];dsimp! only;by_cases c1:r3=1
  .subst c1;refine bH rfl ?_;apply ar;simp![];refine(t9 () Dz () () ()).mono ?_;rintro _ _ ⟨⟨r6,rfl,J2,WO⟩,o6,rfl,vA⟩;rw[l7]at vA ⊢;simp![];apply ar;simp![];refine(t9 () vA () () ()).mono ?_;rintro _ _ ⟨⟨r7,rfl,J3,h71⟩,o7,rfl,KR⟩;rw[l7]at KR ⊢;apply ar;simp![sliceOp];rw[uX _ _ _ gG () (by rw[qk];lia),ZO gG J3];apply ar;simp![sliceOp];rw[uX _ _ _ () () (by rw[qk];lia),ZP gG J3,ZQ gG J2];apply ar;simp![nK]
   rw [fm (λk:Nat=>PV.int k) (λk=>PV.str ((dA.drop r4.toNat).take r7.toNat++((dA.drop ((r4.toNat+3*k)%26)).take 1)++(dA.drop (r4.toNat+r7.toNat+1)).take ((1+r6).toNat-r7.toNat-1)))
    (λenv=>∃v,env=[aa (.p (.str dA)),aa (.p (.int r4)),aa (.p (.str ((dA.drop r4.toNat).take r7.toNat))),aa (.p (.str ((dA.drop (r4.toNat+r7.toNat+1)).take ((1+r6).toNat-r7.toNat-1)))),v]) _ _ _ ⟨_,rfl⟩ ?_]
   .simp![];dsimp! only;exact fin _ (zU r4.toNat (1+r6).toNat r7.toNat) (T+4) _ _ _ _ _ _ _ _ _ () (KR.mono ()) (by simp[aW,zU]) (by simp) (by simp[zU]) (yw9 _ () _ () _ ())
   .rintro k hk env ⟨v,rfl⟩;refine(_,rfl,⟨_,rfl⟩,?_);let Ks:k<8:=eF.mp hk;let yK:=tY (r4+3*k) 26 ();let(x,x1,x2,x3):=oZ dA ((r4+3*k)%26) yK.1 (by rw[qk];lia);let hn:((r4+3*(k:Int))%26).toNat=(r4.toNat+3*k)%26:=ZR gG;let hx:(dA.drop ((r4.toNat+3*k)%26)).take 1=[x]:=by
     rw[<-hn,List.take_one,Hv,x1];rfl
    rw[hx];rw[qk]at x3;simp![s3,x1,x3,qk];rw[if_pos (bC Yz)];simp![qk];rw[if_pos (bC YA)];rfl
  .apply ar;simp![aH,c1];dsimp! only;exact fin _ EY (T+2) _ _ _ _ _ _ _ _ _ () Dz (by simp[aW,EY]) (by simp) (by simp[EY]) (by decide +kernel)
inductive Ord where
 |num
 |low
 |chain (ns:List (List Nat))
 |set (ns:List (List Nat))
 |eS (ns:List (List Nat)) (ps:List (List Nat×List Nat))
 |row (os:List Ord)
 |cP (o:Ord)
mutual
noncomputable def enc:Ord->PV
 |.num=>.af [.str s!"num"]
 |.low=>.af [.str s!"low"]
 |.chain ns=>.af [.str s!"chain",.af (ns.map .str)]
 |.set ns=>.af [.str s!"set",.af (ns.map .str)]
 |.eS ns ps=>.af [.str s!"web",.af (ns.map .str),.af (ps.map λp=>.af [.str p.1,.str p.2])]
 |.row os=>.af [.str s!"row",.af (uZ os)]
 |.cP o=>.af [.str s!"newer",enc o]
noncomputable def uZ:List Ord->List PV
 |[]=>[]
 |o::r=>enc o::uZ r
end
def P7:∀os,uZ os=os.map enc
 |[]=>by rw[uZ];rfl
 |o::r=>by rw[uZ,P7 r];rfl
def fR:enc .num=.af [.str s!"num"]:=by rw[enc]
def eY:enc .low=.af [.str s!"low"]:=by rw[enc]
def gj{ns}:enc (.chain ns)=.af [.str s!"chain",.af (ns.map .str)]:=by rw[enc]
def fS{ns}:enc (.set ns)=.af [.str s!"set",.af (ns.map .str)]:=by rw[enc]
def kJ{ns ps}:enc (.eS ns ps)=.af [.str s!"web",.af (ns.map .str),.af (ps.map λp=>.af [.str p.1,.str p.2])]:=by rw[enc]
def eZ{os}:enc (.row os)=.af [.str s!"row",.af (os.map enc)]:=by rw[enc,P7]
def fo{o}:enc (.cP o)=.af [.str s!"newer",enc o]:=by rw[enc]
mutual
noncomputable def bw:Ord->Nat
 |.row os=>fZ os+1
 |.cP o=>bw o+1
 |_=>1
noncomputable def fZ:List Ord->Nat
 |[]=>0
 |o::r=>max (bw o) (fZ r)
end
def fO{o:Ord}:∀{os:List Ord},o∈os->bw o<=fZ os
 |[],h=>by cases h
 | x::r,h=>by
  rw[fZ];rcases bN.mp h with rfl |h
  .lia
  .let:=fO h;lia
def AV{d:Nat}:∀{os:List Ord},(∀o∈os,bw o<=d)->fZ os<=d
 |[],_=>by rw[fZ];lia
 | x::r,h=>by
  rw[fZ];let h1:=h x (by simp);let h2:=AV (d:=d) (os:=r) λo ho=>h o (b5 _ ho);lia
def gn:∀o:Ord,1<=bw o
 |.row os=>by rw[bw];lia
 |.cP o=>by rw[bw];lia
 |.num=>by rw[bw]<;>simp
 |.low=>by rw[bw]<;>simp
 |.chain _=>by rw[bw]<;>simp
 |.set _=>by rw[bw]<;>simp
 |.eS _ _=>by rw[bw]<;>simp
def qv:List (List (Nat×Nat)):=[[(0,1)],[(0,1),(1,2),(0,2)],[(0,1),(0,2),(1,3),(2,3)],[(0,1),(0,2),(0,3),(1,4),(2,4),(3,4)],
 [(0,1),(1,2),(2,4),(0,3),(3,4)],[(0,1),(1,2),(2,5),(0,3),(3,4),(4,5),(0,5)],[(0,1),(0,2),(0,3),(1,4),(2,4),(2,5),(3,5),(4,6),(5,6)]]
def e_(bh:List (Nat×Nat)):Nat:=1+bh.foldl (λm p=>max m p.2) 0
def cZ{O:Type}(k:Nat)(xs:List O):List O:=xs.drop k++xs.take k
def gv(bh:List (Nat×Nat))(sh aD:Nat)(ns:List (List Nat)):List (List Nat×List Nat) :=
 (cZ aD bh).map λp=>((cZ sh ns).getD p.1 [],(cZ sh ns).getD p.2 [])
def o8(ns:List (List Nat))(ps:List (List Nat×List Nat)):Prop :=
 dq ns/\∃bh∈qv,∃sh aD,sh<e_ bh/\aD<bh.length/\ns.length=e_ bh/\ps=gv bh sh aD ns
mutual
noncomputable def ok:Ord->Prop
 |.num=>True
 |.low=>True
 |.chain ns=>dq ns/\2<=ns.length/\ns.length<=6
 |.set ns=>dq ns/\1<=ns.length/\ns.length<=5
 |.eS ns ps=>o8 ns ps
 |.row os=>1<=os.length/\os.length<=3/\vQ os
 |.cP o=>ok o
noncomputable def vQ:List Ord->Prop
 |[]=>True
 |o::r=>ok o/\vQ r
end
def Qv:∀{os},vQ os↔∀o∈os,ok o
 |[]=>by rw[vQ];simp
 |o::r=>by rw[vQ,Qv];simp
def eB{os}:ok (.row os)↔1<=os.length/\os.length<=3/\∀o∈os,ok o:=by rw[ok,Qv]
def eW{o}:ok (.cP o)↔ok o:=by rw[ok]
def AJ:∀bh∈qv,2<=e_ bh/\e_ bh<=7/\1<=bh.length/\bh.length<=9/\∀p∈bh,p.1<e_ bh/\p.2<e_ bh:=by decide
def Ae(p:Nat×Nat):PV:=.af [.int p.1,.int p.2]
def xc9:∀bh∈qv,v9 (bh.map λp=>PV.int p.2)=aa (.int ((e_ bh:Int)-1)):=by
 intro bh h;simp only[qv,bN,iB,or_false]at h;rcases h with rfl |rfl |rfl |rfl |rfl |rfl |rfl<;>rfl
def j3{n}(h:fL n=true):1<=n.length/\n.length<=8:=by
 unfold fL at h;simp at h;lia
def gK{n}(h:fL n=true):n.all lG=true:=by
 unfold fL at h;simp only[bP]at h;rw[c_]at *
 intro c hc;let:=h.2 c hc;simp at this;unfold lG;simp;lia
def F8{ns:List (List Nat)}(h:∀n∈ns,fL n=true):de (ns.map .str)<=12*ns.length:=by
 induction ns with
 |nil=>simp
 |cons n r ih=>
  let h1:=j3 (h n (by simp));let h2:=ih λx hx=>h x (b5 _ hx);simp;lia
def jm{k:Nat}{xs:List O}{x:O}:x∈cZ k xs↔x∈xs:=(uf xs k).mem_iff
def rA{k:Nat}{xs:List O}:(cZ k xs).length=xs.length:=(uf xs k).length_eq
def xe9(hD:3<=D)(hw:Well st w T)(hT:T+9<=1000000):
  aK (a0 prog W D ys5 [.ref w] st) λv ao=>(∃ns ps,v=.p (enc (.eS ns ps))/\o8 ns ps)/\bX w (T+9) st ao:=by
 obtain⟨d,rfl⟩:∃d,D=d+3:=⟨D-3,by lia⟩;let lE:=hw.lt;rw[aS (fd:=FT) rfl rfl,aR];simp! only[FT,Rx];apply ar;simp![];apply ar;simp![view,nv,jn,iW];apply ar;simp![view,nv,jn,iW];apply ar;simp![view,nv,jn,iW];apply ar;simp![view,nv,jn,iW];dsimp! only;obtain⟨L,hL⟩:∃L,L=qv.map λbh=>PV.af (bh.map Ae):=⟨_,rfl⟩;let J7:[PV.af [PV.af [PV.int 0,PV.int 1]],PV.af [PV.af [PV.int 0,PV.int 1],PV.af [PV.int 1,PV.int 2],PV.af [PV.int 0,PV.int 2]],PV.af [PV.af [PV.int 0,PV.int 1],PV.af [PV.int 0,PV.int 2],PV.af [PV.int 1,PV.int 3],PV.af [PV.int 2,PV.int 3]],PV.af [PV.af [PV.int 0,PV.int 1],PV.af [PV.int 0,PV.int 2],PV.af [PV.int 0,PV.int 3],PV.af [PV.int 1,PV.int 4],PV.af [PV.int 2,PV.int 4],PV.af [PV.int 3,PV.int 4]],PV.af [PV.af [PV.int 0,PV.int 1],PV.af [PV.int 1,PV.int 2],PV.af [PV.int 2,PV.int 4],PV.af [PV.int 0,PV.int 3],PV.af [PV.int 3,PV.int 4]],PV.af [PV.af [PV.int 0,PV.int 1],PV.af [PV.int 1,PV.int 2],PV.af [PV.int 2,PV.int 5],PV.af [PV.int 0,PV.int 3],PV.af [PV.int 3,PV.int 4],PV.af [PV.int 4,PV.int 5],PV.af [PV.int 0,PV.int 5]],PV.af [PV.af [PV.int 0,PV.int 1],PV.af [PV.int 0,PV.int 2],PV.af [PV.int 0,PV.int 3],PV.af [PV.int 1,PV.int 4],PV.af [PV.int 2,PV.int 4],PV.af [PV.int 2,PV.int 5],PV.af [PV.int 3,PV.int 5],PV.af [PV.int 4,PV.int 6],PV.af [PV.int 5,PV.int 6]]]=L:=by rw[hL];rfl
 rw[J7];clear J7;apply ar;simp![];refine(t9 () hw () () ()).mono ?_;rintro _ _ ⟨⟨r1,rfl,JX,WJ⟩,o1,rfl,fj⟩;let WX:L.length=7:=by rw[hL];rfl
 let(x,X_,ou,Ya):=oZ L r1 JX (by rw[WX];lia);rw[hL]at ou;let(bh,Dr,rfl):=bK.mp ou;let(gZ,hm7,XS,hr9,kB):=AJ bh Dr;clear hL;simp![view,qX,Ya,X_];apply ar;simp![];rw[fm Ae (λp=>PV.int p.2) (λenv=>∃v,env=[v]) _ _ _ ⟨_,rfl⟩ ?g1]
 case g1 =>
  rintro p hp env ⟨v,rfl⟩;refine(_,rfl,⟨_,rfl⟩,?_);simp![Ae,aO]
 simp![bfOp,xc9 bh Dr];rw[show(1:Int)+((e_ bh:Int)-1)=e_ bh by lia];apply ar;simp![];refine aK.k1 (F1 () fj.app () ()) λns _ yL lB hd=>?_;let(o2,rfl,fJ):=hd.vW (by simpa using lE);rw[l7]at fJ ⊢;clear hd;apply ar;simp![];refine(t9 () fJ () () ()).mono ?_;rintro _ _ ⟨⟨r3,rfl,yA,JY⟩,o3,rfl,lD⟩;rw[l7]at lD ⊢;apply ar;simp![bfOp];refine(t9 () lD () () ()).mono ?_;rintro _ _ ⟨⟨r4,rfl,gG,CP⟩,o4,rfl,oq⟩;rw[l7]at oq ⊢;apply ar;let z1:ns.length-r3.toNat+min r3.toNat ns.length<=SZ:=bC (by rw[Fk];lia);simp![sliceOp,tq,xj _ _ yA,qL _ _ yA,z1];apply ar;let z2:bh.length-r4.toNat+min r4.toNat bh.length<=SZ:=bC (by rw[Fk];lia);simp![sliceOp,tq,xj _ _ gG,qL _ _ gG,z2];rw[<-xF,<-xG,<-kQ,<-xF,<-xG,<-kQ];rw[show bh.drop r4.toNat++bh.take r4.toNat=cZ r4.toNat bh from rfl,show ns.drop r3.toNat++ns.take r3.toNat=cZ r3.toNat ns from rfl];rw[fm Ae (λp=>PV.af [.str ((cZ r3.toNat ns).getD p.1 []),.str ((cZ r3.toNat ns).getD p.2 [])]) (λenv=>∃v v',env=[aa (.p (.ai ((cZ r3.toNat ns).map .str))),v,v']) _ _ _ ⟨_,_,rfl⟩ ?g2]
 case g2 =>
  rintro p hp env ⟨v,v',rfl⟩;let KL:=kB p (jm.mp hp);let kA:(cZ r3.toNat ns).length=e_ bh:=by rw[rA,yL]
  let q:∀k:Nat,k<e_ bh->∃a,(cZ r3.toNat ns).getD k []=a/\aO (cZ r3.toNat ns).length (k:Int)=aa k/\(cZ r3.toNat ns)[k]?=aa a:=by
   intro k hk;refine(_,rfl,?_,?_)
   .unfold aO;rw[if_pos (),if_pos ()];simp
   .rw[gQ,bY ()];rfl
  let(a,a1,a2,a3):=q _ KL.1;let(b,b1,b2,b3):=q _ KL.2;rw[a1,b1];refine(_,rfl,⟨_,_,rfl⟩,?_);simp![a2,b2,a3,b3]
 simp![];apply ar;simp![bfOp];refine(⟨ns,gv bh r3.toNat r4.toNat ns,?_,lB,bh,Dr,r3.toNat,r4.toNat,by lia,by lia,yL,rfl⟩,?_)
 .rw[kJ];simp[gv]
 .exact(⟨o4,rfl⟩,oq.mono ())
def fT{P:Ord->Prop}(XE:P .num)(Dc:P .low)(jH:∀ns,P (.chain ns))(XY:∀ns,P (.set ns))(X8:∀ns ps,P (.eS ns ps))
  (g8:∀os,(∀o∈os,P o)->P (.row os)) (Dg:∀o,P o->P (.cP o)):∀o,P o:=by
 let key:∀n o,bw o<=n->P o:=by
  intro n;induction n with
  |zero=>intro o h;let:=gn o;lia
  |succ n ih=>
   intro o h;cases o with
   |num=>exact XE
   |low=>exact Dc
   |chain ns=>exact jH ns
   |set ns=>exact XY ns
   |eS ns ps=>exact X8 ns ps
   |row os=>rw[bw]at h;exact g8 os λo ho=>ih o (by let:=fO ho;lia)
   |cP o=>rw[bw]at h;exact Dg o (ih o ())
 exact λo=>key _ o (bF _)
def fQ{os}:bw (.row os)=fZ os+1:=by rw[bw]
def fN{o}:bw (.cP o)=bw o+1:=by rw[bw]
@[simp] def xI9:bw .num=1:=by rw[bw]<;>simp
@[simp] def xI8:bw .low=1:=by rw[bw]<;>simp
@[simp] def xk6{ns}:bw (.chain ns)=1:=by rw[bw]<;>simp
@[simp] def xJ0{ns}:bw (.set ns)=1:=by rw[bw]<;>simp
@[simp] def xJ1{ns ps}:bw (.eS ns ps)=1:=by rw[bw]<;>simp
def gk{ns ps}(h:o8 ns ps):ps.length<=9/\ns.length<=7/\2<=ns.length/\∀p∈ps,p.1∈ns/\p.2∈ns:=by
 let(hg,bh,hr,sh,aD,h1,h2,h3,rfl):=h;let(m2,m7,r1,r9,hm):=AJ bh hr;refine(by simp[gv,rA];lia,by lia,by lia,?_);intro p hp;let(q,hq,rfl):=bK.mp hp;let vw:=hm q (jm.mp hq);let g:∀k,k<e_ bh->(cZ sh ns).getD k []∈ns:=by
  intro k hk;rw[<-jm (k:=sh),gQ,bY (by rw[rA];lia)];exact rH _
 exact(g _ vw.1,g _ vw.2)
def eV{ns:List (List Nat)}:cC (ns.map .str)=0:=by
 induction ns with
 |nil=>simp
 |cons n r ih=>simp[ih]
variable{xs:List PV}
def OG{b:Nat}(h:∀x∈xs,wt x<=b):de xs<=xs.length*(b+2):=by
 induction xs with
 |nil=>simp
 |cons x r ih=>
  let h1:=h x (by simp);let h2:=ih λy hy=>h y (b5 _ hy);simp[HS];lia
variable{os:List Ord}
def yC8(h:os≠[]):∃o∈os,fZ os=bw o:=by
 induction os with
 |nil=>exact absurd rfl h
 |cons o r ih=>
  rw[fZ];by_cases hr:r=[]
  .subst hr;exact(o,by simp,by rw[fZ];lia)
  .let(q,hq,e):=ih hr;by_cases hle:bw o<=fZ r
   .exact(q,b5 _ hq,by lia)
   .exact(o,by simp,by lia)
def yD0:∀o,ok o->bT 0 (enc o)=true/\bM (enc o)<=2*bw o+1/\wt (enc o)+100<=500*4 ^ bw o:=by
 let DR:∀ns:List (List Nat),dq ns->(ns.map PV.str).all (bT 0)=true:=by
  intro ns h;rw[c_];intro x hx;let(n,hn,rfl):=bK.mp hx;rw[AZ];exact gK (h.2 n hn)
 refine fT ?_ ?_ ?_ ?_ ?_ ?_ ?_
 .intro _;rw[fR];refine(by decide,by simp,by simp)
 .intro _;rw[eY];refine(by decide,by simp,by simp)
 .intro ns h;rw[ok]at h;let:=F8 h.1.2;rw[gj];refine(?_,by simp[eV],by simp;lia);let:=DR ns h.1;simp only[kN,ff,this];decide
 .intro ns h;rw[ok]at h;let:=F8 h.1.2;rw[fS];refine(?_,by simp[eV],by simp;lia);let:=DR ns h.1;simp only[kN,ff,this];decide
 .intro ns ps h;rw[ok]at h;let(h1,h2,h3,h4):=gk h;let:=F8 h.1.2;let fJ:de (ps.map λp=>PV.af [.str p.1,.str p.2])<=(ps.map λp=>PV.af [.str p.1,.str p.2]).length*(27+2):=OG λx hx=>by
   let(p,hp,rfl):=bK.mp hx;let a:=j3 (h.1.2 _ (h4 p hp).1);let b:=j3 (h.1.2 _ (h4 p hp).2);simp;lia
  rw[cy]at fJ;rw[kJ];let u_:cC (ps.map λp=>PV.af [.str p.1,.str p.2])<=1:=AU.mpr λx hx=>by
   let(p,hp,rfl):=bK.mp hx;simp
  refine(?_,by simp[eV];lia,by simp;lia);let q:=DR ns h.1;let q2:(ps.map λp=>PV.af [.str p.1,.str p.2]).all (bT 0)=true:=by
   rw[c_];intro x hx;let(p,hp,rfl):=bK.mp hx;let a:=gK (h.1.2 _ (h4 p hp).1);let b:=gK (h.1.2 _ (h4 p hp).2);simp only[kN,ff,AZ,a,b];rfl
  simp only[kN,ff,q,q2];decide
 .intro os ih h;rw[eB]at h;let DC:=λo ho=>ih o ho (h.2.2 o ho);rw[eZ,fQ];let b:∀o∈os,4 ^ bw o<=4 ^ fZ os:=λo ho=>HP () (fO ho);let KS:de (os.map enc)<=(os.map enc).length*(500*4 ^ fZ os-100+2):=OG λx hx=>by
   let(o,ho,rfl):=bK.mp hx;let:=(DC o ho).2.2;let:=b o ho;lia
  let u_:cC (os.map enc)<=2*fZ os+1:=AU.mpr λx hx=>by
   let(o,ho,rfl):=bK.mp hx;let:=(DC o ho).2.1;let:=fO ho;lia
  let aF:(os.map enc).all (bT 0)=true:=by
   rw[c_];intro x hx;let(o,ho,rfl):=bK.mp hx;exact(DC o ho).1
  refine(?_,by simp;lia,?_)
  .simp only[kN,ff,aF];decide
  .let hp:1<=4 ^ fZ os:=TV _ _ ();rw[BE];generalize 4 ^ fZ os=P at *
   let:(os.map enc).length<=3:=by simpa using h.2.1
   let h3:(os.map enc).length*(500*P-100+2)<=3*(500*P-100+2):=Nat.mul_le_mul_right _ this;simp;lia
 .intro o ih h;rw[eW]at h;let(a,b,c):=ih h;rw[fo,fN];refine(?_,by simp;lia,?_)
  .simp only[kN,ff,a];decide
  .let hp:1<=4 ^ bw o:=TV _ _ ();rw[BE];simp;lia
mutual
noncomputable def num:Ord->Nat
 |.row os=>1+dQ os
 |.cP o=>1+num o
 |.num=>1
 |.low=>1
 |.chain _=>1
 |.set _=>1
 |.eS _ _=>1
noncomputable def dQ:List Ord->Nat
 |[]=>0
 |o::r=>num o+dQ r
end
def gq{os}:num (.row os)=1+dQ os:=by rw[num]
def ji{o}:num (.cP o)=1+num o:=by rw[num]
def Pk:∀{a b:List Ord},dQ (a++b)=dQ a+dQ b
 |[],b=>by simp[dQ]
 |o::r,b=>by rw[fD,dQ,dQ,Pk (a:=r)];lia
variable{o:Ord}
def xt(h:ok o)(hd:bw o=1):num o=1:=by
 cases o with
 |row os=>
  rw[fQ]at hd;let h:=eB.mp h;cases os with
  |nil=>simp at h
  |cons q r=>
   let:=fO (o:=q) (os:=q::r) (by simp);let:=gn q;lia
 |cP q=>
  rw[fN]at hd;let:=gn q;lia
 |_=>rw[num]
def tZ:∀{os:List Ord},(∀o∈os,ok o/\bw o=1)->dQ os=os.length
 |[],_=>by rw[dQ];rfl
 | o::r,h=>by
  rw[dQ,xt (h o (by simp)).1 (h o (by simp)).2,tZ λq hq=>h q (b5 _ hq),c6];lia
def xp(hD:4<=D)(hw:Well st w T)(hT:T+10<=1000000):
  aK (a0 prog W D Ri [.ref w] st) λv ao=>(∃o,v=.p (enc o)/\ok o/\bw o=1)/\bX w (T+10) st ao:=by
 obtain⟨d,rfl⟩:∃d,D=d+4:=⟨D-4,by lia⟩;let lE:=hw.lt;rw[aS (fd:=FF) rfl rfl,aR];simp! only[FF,Q_];apply ar;simp![];refine(d7 hw ()).mono ?_;rintro _ _ ⟨⟨r,rfl,h0,h1⟩,⟨o1,rfl⟩,fj⟩;dsimp! only;let cH:bX w (T+10) st (st.set w o1):=⟨⟨o1,rfl⟩,fj.mono ()⟩;obtain rfl |rfl |rfl |rfl |rfl |rfl:r=0\/r=1\/r=2\/r=3\/r=4\/r=5:=by lia
 .apply ar;simp![];apply ar;simp![aO];exact(⟨.num,by rw[fR],by rw[ok];trivial,by simp⟩,cH.cut)
 .apply ar;simp![];apply ar;simp![aO];exact(⟨.low,by rw[eY],by rw[ok];trivial,by simp⟩,cH.cut)
 .apply ar;simp![];dsimp! only;refine bH rfl ?_;apply ar;simp![];refine(d7 fj ()).mono ?_;rintro _ _ ⟨⟨q,rfl,q0,q1⟩,⟨o2,rfl⟩,fJ⟩;rw[l7]at fJ ⊢;simp![];rw[show 2+q=((2+q).toNat:Int)by lia];refine aK.k1 (F1 () fJ () ()) λns _ yL lB hd=>?_;simp![bfOp];exact(⟨.chain ns,by rw[gj],by rw[ok];exact⟨lB,by lia,by lia⟩,by simp⟩,bX.cut (bX.trans ⟨⟨o2,rfl⟩,fJ⟩ (hd.mono ())))
 .apply ar;simp![];apply ar;simp![aH];dsimp! only;refine bH rfl ?_;apply ar;simp![];refine(d7 fj ()).mono ?_;rintro _ _ ⟨⟨q,rfl,q0,q1⟩,⟨o2,rfl⟩,fJ⟩;rw[l7]at fJ ⊢;simp![];rw[show 1+q=((1+q).toNat:Int)by lia];refine aK.k1 (F1 () fJ () ()) λns _ yL lB hd=>?_;simp![bfOp];exact(⟨.set ns,by rw[fS],by rw[ok];exact⟨lB,by lia,by lia⟩,by simp⟩,bX.cut (bX.trans ⟨⟨o2,rfl⟩,fJ⟩ (hd.mono ())))
 .apply ar;simp![];apply ar;simp![aH];apply ar;simp![aH];apply ar;simp![aH];refine(xe9 () fj ()).mono ?_;rintro _ _ ⟨⟨ns,ps,rfl,KS⟩,hd⟩;simp![];exact(⟨.eS ns ps,rfl,by rw[ok];exact KS,by simp⟩,bX.cut (bX.trans ⟨⟨o1,rfl⟩,fj⟩ (hd.mono ())))
 .apply ar;simp![];apply ar;simp![aH];apply ar;simp![aH];apply ar;simp![aH];exact(⟨.num,by rw[fR],by rw[ok];trivial,by simp⟩,cH.cut)
def FU(hD:4<=D)(hw:Well st w T)(n:Nat)(hT:T+10*n<=1000000)(v0:Option aJ):
  aK (fV (a0 prog W D) (.call Ri ['0']) aj (.name 1) aj ((cF n).map λk:Nat=>PV.int (k:Int)) [aa (.ref w),v0] st [])
   λxs ao=>(∃os:List Ord,xs=os.map enc/\os.length=n/\∀o∈os,ok o/\bw o=1)/\bX w (T+10*n) st ao:=by
 refine(t8 (λxs env ao acc=>(∃v,env=[aa (.ref w),v])/\∃os:List Ord,acc=os.map enc/\os.length+xs.length=n/\(∀o∈os,ok o/\bw o=1)/\bX w (T+10*os.length) st ao) _ _ _ _ ⟨⟨_,rfl⟩,[],rfl,by simp,by simp,by simpa using bX.refl hw⟩ ?_).mono ?_
 .rintro x r env ao acc ⟨⟨v,rfl⟩,os,rfl,hl,ho,hd⟩;refine(_,rfl,?_);simp only[c6]at hl;simp![];refine aK.k1 (xp hD hd.2 ()) λo aI h1 h2 cf=>?_;refine(_,rfl,os++[o],by simp,by simp;lia,?_,?_)
  .intro o' h';rcases d0.mp h' with h |h
   .exact ho o' h
   .let:o'=o:=by simpa using h
    subst this;exact(h1,h2)
  .exact(hd.trans cf).mono (by simp;lia)
 .rintro ys ao ⟨be,_,os,h1,h2,h3,h4⟩;simp at h2;exact(⟨os,h1,h2,h3⟩,by rw[<-h2];exact h4)
def Gi(hD:5<=D)(hw:Well st w T)(hT:T+30<=1000000):
  aK (a0 prog W D yk9 [.ref w] st) λv ao=>(∃o,v=.p (enc o)/\ok o/\bw o=2/\num o<=3)/\bX w (T+30) st ao:=by
 obtain⟨d,rfl⟩:∃d,D=d+5:=⟨D-5,by lia⟩;let lE:=hw.lt;rw[aS (fd:=FG) rfl rfl,aR];simp! only[FG,Ra];apply ar;simp![];refine(d7 hw ()).mono ?_;rintro _ _ ⟨⟨r,rfl,h0,h1⟩,⟨o1,rfl⟩,fj⟩;let cH:bX w (T+1) st (st.set w o1):=⟨⟨o1,rfl⟩,fj.mono ()⟩;by_cases c0:r=0
 .subst c0;simp![aH];apply ar;simp![];refine aK.k1 (xp () fj ()) λo _ q1 q2 cf=>?_;simp![];exact(⟨.cP o,by rw[fo],eW.mpr q1,by rw[fN,q2],by rw[ji,xt q1 q2];lia⟩,((cH.trans cf).mono ()).cut)
 .simp![aH,c0];apply ar;simp![];refine aK.k1 (d7 fj ()) λr2 _ CN CO cf=>?_;let z1:-1000000<=1+r2:=by lia
  let z2:1+r2<=(SZ:Int):=nK ();simp![z1,z2];refine aK.k1 (FU () cf.2 (1+r2).toNat () aj) λos _ q1 q2 mE=>?_;simp![bfOp];refine(⟨.row os,by rw[eZ],eB.mpr ⟨by lia,by lia,λo ho=>(q2 o ho).1⟩,?_,by rw[gq,tZ q2];lia⟩,(((cH.trans cf).trans mE).mono ()).cut);rw[fQ];let(o,ho,e):=yC8 (os:=os) (by intro h;subst h;simp at q1;lia);rw[e,(q2 o ho).2]
def yw1(hD:6<=D)(hw:Well st w T)(hT:T+90<=1000000):
  aK (a0 prog W D ya7 [.ref w] st) λv ao=>(∃o,v=.p (enc o)/\ok o/\bw o<=3/\num o<=6)/\bX w (T+90) st ao:=by
 obtain⟨d,rfl⟩:∃d,D=d+6:=⟨D-6,by lia⟩;let lE:=hw.lt;rw[aS (fd:=G6) rfl rfl,aR];simp! only[G6,QW];apply ar;simp![];refine aK.k1 (d7 hw ()) λr _ h0 h1 cH=>?_;dsimp! only;by_cases c0:r<5
 .apply ar;simp![c0];apply ar;simp![];refine aK.k1 (xp () cH.2 ()) λo _ q1 q2 cf=>?_;simp![];exact(⟨o,rfl,q1,by lia,by rw[xt q1 q2];lia⟩,((cH.trans cf).mono ()).cut)
 apply ar;simp![c0];dsimp! only;by_cases c1:r=5
 .subst c1;refine bH rfl ?_;apply ar;simp![];refine aK.k1 (Gi () cH.2 ()) λo _ q1 q2 cf=>?_;simp![];exact(⟨.cP o,by rw[fo],eW.mpr q1,by let:=q2.1;rw[fN];lia,by let:=q2.2;rw[ji];lia⟩,((cH.trans cf).mono ()).cut)
 apply ar;simp![aH,c1];dsimp! only;by_cases c2:r=6
 .subst c2;refine bH rfl ?_;apply ar;simp![];refine aK.k1 (d7 cH.2 ()) λr2 _ CN CO cf=>?_;let z1:-1000000<=1+r2:=by lia
  let z2:1+r2<=(SZ:Int):=nK ();simp![z1,z2];refine aK.k1 (FU () cf.2 (1+r2).toNat () aj) λos _ q1 q2 mE=>?_;simp![bfOp];refine(⟨.row os,by rw[eZ],eB.mpr ⟨by lia,by lia,λo ho=>(q2 o ho).1⟩,?_,by rw[gq,tZ q2];lia⟩,(((cH.trans cf).trans mE).mono ()).cut);rw[fQ];let:=AV (d:=1) λo ho=>TL (q2 o ho).2;lia
 apply ar;simp![aH,c2];dsimp! only;by_cases c3:r=7
 .subst c3;refine bH rfl ?_;apply ar;simp![];refine aK.k1 (Gi () cH.2 ()) λo _ q1 q2 cf=>?_;simp![];exact(⟨o,rfl,q1,by let:=q2.1;lia,by let:=q2.2;lia⟩,((cH.trans cf).mono ()).cut)
 apply ar;simp![aH,c3];apply ar;simp![];refine aK.k1 (d7 cH.2 ()) λr2 aI CN CO cf=>?_;let z1:-1000000<=r2:=by lia
 let z2:r2<=(SZ:Int):=nK ();simp![z1,z2];refine aK.k1 (FU () cf.2 r2.toNat () aj) λos cK q1 q2 mE=>?_;dsimp! only;let hd:=(cH.trans cf).trans mE;let bj:=hd.len;clear cH cf mE;let vt:aW (cK++[b6.ai (os.map enc)]) cK.length=aa (.ai (os.map enc)):=jj;apply ar;by_cases c4:r=8
 .subst c4;simp![aH];apply ar;simp![eX vt,cM,bQ,bfOp];let lD:w<cK.length:=by lia
  refine(t9 () hd.2 () () ()).mono ?_;rintro _ _ ⟨⟨r4,rfl,gG,CP⟩,o4,rfl,oq⟩;refine aK.k1 (Gi () oq.app ()) λo _ p1 p2 su=>?_;let(o5,rfl,yV):=su.vW (by simpa using lD);rw[l7]at yV ⊢;let Di:aW (cK.set w o5++[b6.ai (os.map enc)]) cK.length=aa (.ai (os.map enc)):=qX (by simp);let z4:r4<=(os.length:Int):=by lia
  let z5:os.length<SZ:=iW ();simp![qW Di,wK,gG,z4,z5];dsimp! only;rw[<-xG,<-xF,<-bJ,<-kQ];let dM:∀q∈os.take r4.toNat++o::os.drop r4.toNat,ok q/\bw q<=2:=by
   intro q hq;rcases d0.mp hq with h |h
   .let:=q2 q (pI h);exact(this.1,by lia)
   .rcases bN.mp h with rfl |h
    .exact(p1,by let:=p2.1;lia)
    .let:=q2 q (xI h);exact(this.1,by lia)
  let Dd:(os.take r4.toNat++o::os.drop r4.toNat).length=os.length+1:=by rw[cA,c6,l5,iY,<-HJ,Qs]
  let Dh:dQ (os.take r4.toNat++o::os.drop r4.toNat)<=5:=by
   let e1:=tZ λq hq=>q2 q (pI (i:=r4.toNat) hq);let e2:=tZ λq hq=>q2 q (xI (i:=r4.toNat) hq);let:=p2.2;rw[Pk,dQ,e1,e2];let hm:=Qs os.length r4.toNat;simp;generalize min r4.toNat os.length=m at hm ⊢;generalize os.length-r4.toNat=k at hm ⊢;lia
  generalize os.take r4.toNat++o::os.drop r4.toNat=qs at dM Dd Dh;let Dj:aW (cK.set w o5++[b6.ai (qs.map enc)]) cK.length=aa (.ai (qs.map enc)):=qX (by simp);apply ar;simp![eX Dj,cM,bQ,bfOp];refine(⟨.row qs,by rw[eZ],eB.mpr ⟨by lia,by lia,λo ho=>(dM o ho).1⟩,?_,by rw[gq];lia⟩,?_)
  .rw[fQ];let:=AV (d:=2) λo ho=>(dM o ho).2;lia
  .rw[<-bj];let u6:bX w (T+90) st (cK.set w o5):=hd.trans ⟨⟨o5,rfl⟩,yV.mono ()⟩;simpa using u6
 .let lD:w<cK.length:=by lia
  simp![aH,c4];apply ar;simp![];refine aK.k1 (xp () hd.2.app ()) λo _ p1 p2 su=>?_;let(o5,rfl,yV):=su.vW (by simpa using lD);simp![];refine(xp () yV.app ()).mono ?_;rintro _ _ ⟨⟨o',rfl,L5,YW⟩,u6⟩;let(o6,rfl,vA):=u6.vW (by simpa using lD);rw[l7]at vA ⊢;let Di:aW (cK.set w o6++[b6.ai (os.map enc)]) cK.length=aa (.ai (os.map enc)):=qX (by simp);let z6:2+min 1 os.length<=SZ:=bC ();simp![kD,eX Di,sliceOp,tq,qL _ (1:Int) (),z6];dsimp! only;let XR:(PV.af [PV.str s!"newer",enc o]::PV.af [PV.str s!"newer",enc o']::xM 1 (iZ enc os))=(Ord.cP o :: .cP o'::os.take 1).map enc:=by
   simp[fo]
  rw[XR];let dM:∀q∈(Ord.cP o :: .cP o'::os.take 1),ok q/\bw q<=2:=by
   intro q hq;rcases bN.mp hq with rfl |hq
   .exact(eW.mpr p1,by rw[fN];lia)
   rcases bN.mp hq with rfl |hq
   .exact(eW.mpr L5,by rw[fN];lia)
   .let:=q2 q (pI hq);exact(this.1,by lia)
  let Dd:(Ord.cP o :: .cP o'::os.take 1).length<=3/\1<=(Ord.cP o :: .cP o'::os.take 1).length:=by simp;lia
  let Dh:dQ (Ord.cP o :: .cP o'::os.take 1)<=5:=by
   let e1:=tZ λq hq=>q2 q (pI (i:=1) hq);rw[dQ,dQ,ji,ji,xt p1 p2,xt L5 YW,e1];simp;lia
  generalize(Ord.cP o :: .cP o'::os.take 1)=qs at dM Dd Dh;let Dj:aW (cK.set w o6++[b6.ai (os.map enc),b6.ai (qs.map enc)]) (cK.length+1)=aa (.ai (qs.map enc)):=by
   rw[show(cK.set w o6++[b6.ai (os.map enc),b6.ai (qs.map enc)])=(cK.set w o6++[b6.ai (os.map enc)])++[b6.ai (qs.map enc)]by simp];exact qX (by simp)
  apply ar;simp![eX Dj,cM,bQ,bfOp];refine(⟨.row qs,by rw[eZ],eB.mpr ⟨by lia,by lia,λo ho=>(dM o ho).1⟩,?_,by rw[gq];lia⟩,?_)
  .rw[fQ];let:=AV (d:=2) λo ho=>(dM o ho).2;lia
  .rw[<-bj];let Xe:bX w (T+90) st (cK.set w o6):=hd.trans ⟨⟨o6,rfl⟩,vA.mono ()⟩;simpa using Xe
@[simp] abbrev NI:PV->Bool
 |.int i=>decide (0<=i)
 |_=>false
@[simp] abbrev xL5:PV->Bool
 |.aL=>true
 |.int i=>decide (0<=i)
 |_=>false
@[simp] abbrev Lq(ns:List (List Nat)):PV->Bool
 |.str s=>decide (s∈ns)
 |_=>false
@[simp] abbrev Ad(f:List PV->Bool):PV->Bool
 |.af ts=>f ts
 |_=>false
@[simp] abbrev xL6(f:PV->Bool):List PV->Bool
 |[a,h]=>NI a&&f h
 |_=>false
mutual
noncomputable def bg:Ord->PV->Bool
 |.num,a=>NI a
 |.low,a=>xL5 a
 |.chain ns,a=>Lq ns a
 |.eS ns _,a=>Lq ns a
 |.set ns,a=>Ad (λts=>decide (ts=(ns.filter λn=>decide (PV.str n∈ts)).map .str)) a
 |.row os,a=>Ad (cJ os) a
 |.cP o,a=>Ad (xL6 (bg o)) a
noncomputable def cJ:List Ord->List PV->Bool
 |[],[]=>true
 |o::os,t::ts=>bg o t&&cJ os ts
 |_,_=>false
end
def uc:∀{os ts},cJ os ts=true->os.length=ts.length
 |[],[],_=>rfl
 |[],_::_,h=>by simp[cJ]at h
 |_::_,[],h=>by simp[cJ]at h
 | o::os,t::ts,h=>by
  rw[cJ,bP]at h;simp[uc h.2]
def Gg:∀{os ts},os.length=ts.length->cJ os ts=(os.zip ts).all λp=>bg p.1 p.2
 |[],[],_=>by rw[cJ];rfl
 |[],_::_,h=>by simp at h
 |_::_,[],h=>by simp at h
 | o::os,t::ts,h=>by
  rw[cJ,Gg (by simpa using h)];rfl
def yW6{os ts}(h:os.length≠ts.length):cJ os ts=false:=by
 cases e:cJ os ts with
 |false=>rfl
 |true=>exact absurd (uc e) h
abbrev pv:PV->Bool
 |.int i=>decide (0<=i)
 |_=>false
variable{y:PV}{n:List Nat}
def Pw:aH y (.str n)=decide (y=.str n):=by
 cases y<;>simp[aH]
def nC:aH (.str n) y=decide (y=.str n):=by
 cases y<;>simp[aH,eq_comm]
variable{ts:List PV}
def yl5:gO (.str n) ts=decide (PV.str n∈ts):=by
 unfold gO;rw[pC];simp[Pw]
def jZ{t:PV}{ns:List (List Nat)}:gO t (ns.map .str)=(match t with |.str s=>decide (s∈ns)|_=>false):=by
 unfold gO;rw[pC];cases t<;>simp[nC]
def Rp:∀{ts:List PV}{L:List (List Nat)},f_ ts (L.map .str)=decide (ts=L.map .str)
 |[],[]=>by rw[eD,f_];rfl
 |[],_::_=>by rw[bJ,f_]<;>simp
 |_::_,[]=>by rw[eD,f_]<;>simp
 | t::ts,n::L=>by
  rw[bJ,f_,Rp,Pw,pC];simp
def RK:∀{os ts o t},cJ os ts=true->bg o t=true->cJ (os++[o]) (ts++[t])=true
 |[],[],o,t,_,h=>by simp[cJ,h]
 |[],_::_,_,_,h,_=>by simp[cJ]at h
 |_::_,[],_,_,h,_=>by simp[cJ]at h
 | a::os,b::ts,o,t,h,g=>by
  rw[cJ,bP]at h;rw[fD,fD,cJ,h.1,RK h.2 g];rfl
def yk1[DecidableEq O]{L ns:List O}(h:L.Sublist ns)(hn:ns.Nodup):ns.filter (λn=>decide (n∈L))=L:=by
 induction h with
 |slnil=>rfl
 |@cons l₁ l₂ a hs ih=>
  rw[l6]at hn;let:a∉l₁:=λh=>hn.1 (hs.subset h);rw[pG,if_neg (by simpa using this)];exact ih hn.2
 |@cons_cons l₁ l₂ a hs ih=>
  rw[l6]at hn;rw[pG,if_pos (by simp)];congr 1;rw[<-ih hn.2];refine S0 λx hx=>?_;let cj:x≠a:=λh=>hn.1 (h▸hx);simp[cj,ih hn.2]
def Qk{ns L:List (List Nat)}(h:L.Sublist ns)(hn:ns.Nodup):bg (.set ns) (.af (L.map .str))=true:=by
 rw[bg];refine decide_eq_true ?_;congr 1
 conv=>lhs;rw[<-yk1 h hn]
 refine S0 λx hx=>?_;simp
def iE:Nat:=100000000000000000000
def cI(o:Ord)(h:PV):Prop:=bg o h=true/\bT iE h=true/\bM h<=bM (enc o)/\wt h<=5*wt (enc o)
def AH{wd:List Nat}{ns:List (List Nat)}{r:List PV}{e:Env}(hw:Well st w T)(hT:T<1000000)(h1:0<ns.length)(h2:ns.length<=100):
  aK (az (a0 prog W (d+1)) (.ix (.ix '1' 1.0) (.call xb [.var 0,.blt .len [.ix '1' 1.0]])) (aa (.ref w)::aa (.p (.af (.str wd :: .af (ns.map .str)::r)))::e) st)
   λv ao=>(∃n,v=.p (.str n)/\n∈ns)/\bX w (T+1) st ao:=by
 let h0:(1:Int)<(r.length:Int)+1+1:=by lia
 simp![bfOp,aO,h0];refine aK.k1 (d7 hw hT () ()) λr _ h0 h1 hd=>?_;let(n,hn,kz,KD):=oZ ns r h0 h1;unfold aO at KD;simp![KD,hn];exact(kz,hd)
def yk3:∀o,ok o->∀D T st,bw o+1<=D->Well st w T->T+wt (enc o)<=1000000 ->
  aK (a0 prog W D zU4 [.ref w,.p (enc o)] st) λv ao=>(∃h,v=.p h/\cI o h)/\bX w (T+wt (enc o)) st ao:=by
 let number:∀(D:Nat)(T:Int)(st:ay)(word:List Nat),Well st w T->T+10<=1000000->(word=s!"num"\/word=s!"low") ->
   aK (b_ (a0 prog W (D+1)) W (match lQ with |_ :: .ite _ b _::_=>b |_=>[]) [aa (.ref w),aa (.p (.af [.str word])),aa (.p (.str word)),aj] st)
    λf ao=>(∃v,f=.ret (.p v)/\(v=.aL/\word=s!"low"\/∃i:Int,v=.int i/\0<=i/\i<100000000000000000000))/\bX w (T+6) st ao:=by
  intro D T st word hw hT X9;simp only[lQ];apply ar;simp![];refine aK.k1 (d7 hw ()) λr1 _ JX WJ cH=>?_;simp![];refine aK.k1 (d7 cH.2 ()) λr2 _ CN CO cf=>?_;simp![];refine aK.k1 (d7 cf.2 ()) λr3 _ yA JY mE=>?_;let sQ:fC 10=true:=by decide
  let Wp:(10:Int) ^ 20-5=99999999999999999995:=by decide
  simp![sQ,Wp];refine aK.k1 (d7 mE.2 ()) λr4 _ gG CP Kj=>?_;simp![];apply ar;simp![];refine aK.k1 (d7 Kj.2 ()) λr5 _ WL WM su=>?_;let hd:=(((cH.trans cf).trans mE).trans Kj).trans su;let(x,hx,K0,KY):=oZ [PV.int r1,PV.int r2,PV.int (8+r3),PV.int r4] r5 WL (by simpa using WM);let K4:∃i:Int,x=.int i/\0<=i/\i<100000000000000000000:=by
   simp at K0;rcases K0 with rfl |rfl |rfl |rfl
   .exact(_,rfl,by lia,by lia)
   .exact(_,rfl,by lia,by lia)
   .exact(_,rfl,by lia,by lia)
   .exact(_,rfl,by lia,by lia)
  simp only[c6,gx,Nat.reduceAdd]at KY;simp![KY,hx];apply ar;rcases X9 with rfl |rfl
  .simp![aH];exact(K4,hd.mono ())
  .simp![aH];refine aK.k1 (d7 su.2 ()) λr6 _ J2 WO u6=>?_;let u7:=(hd.trans u6).mono (by lia:T+1+1+1+1+1+1<=T+6);by_cases c:r6=0
   .simp![aH,c];exact u7
   .simp![aH,c];exact(Or.inr K4,u7)
 refine fT ?_ ?_ ?_ ?_ ?_ ?_ ?_
 .intro _ D T st hD hw hT;obtain⟨d,rfl⟩:∃d,D=d+2:=⟨D-2,by simp at hD;lia⟩;let q:=number d T st s!"num" hw (by rw[fR]at hT;simp at hT;lia) (Or.inl rfl);rw[fR]at hT ⊢;rw[aS (fd:=hU) rfl rfl,aR];simp! only[hU,lQ];refine cu rfl ?_;apply ar;simp![aH];refine q.mono ?_;rintro _ ao ⟨⟨v,rfl,hv⟩,hd⟩;simp![];refine(?_,(hd.mono (by simp)).cut);rcases hv with⟨rfl,h⟩|⟨i,rfl,h0,h1⟩
  .exact absurd h (by decide)
  .exact(by rw[bg];simpa using h0,by simp[iE];lia,by simp,by simp[fR])
 .intro _ D T st hD hw hT;obtain⟨d,rfl⟩:∃d,D=d+2:=⟨D-2,by simp at hD;lia⟩;let q:=number d T st s!"low" hw (by rw[eY]at hT;simp at hT;lia) (Or.inr rfl);rw[eY]at hT ⊢;rw[aS (fd:=hU) rfl rfl,aR];simp! only[hU,lQ];refine cu rfl ?_;apply ar;simp![aH];refine q.mono ?_;rintro _ ao ⟨⟨v,rfl,hv⟩,hd⟩;simp![];refine(?_,(hd.mono (by simp)).cut);rcases hv with⟨rfl,h⟩|⟨i,rfl,h0,h1⟩
  .exact(by simp[bg],by simp,by simp,by simp[eY])
  .exact(by rw[bg];simpa using h0,by simp[iE];lia,by simp,by simp[eY])
 .intro ns aF D T st hD hw hT;rw[ok]at aF;obtain⟨d,rfl⟩:∃d,D=d+2:=⟨D-2,by simp at hD;lia⟩;let ko:T+10<=1000000/\T+1<=T+(wt (enc (.chain ns)):Int):=by rw[gj]at hT ⊢;simp at hT ⊢;lia
  let hk:∀n∈ns,cI (.chain ns) (.str n):=λn hn=>by
   let a:=j3 (aF.1.2 n hn);let b:=wX (pH (f:=PV.str) hn);refine(by rw[bg];simpa using hn,by simpa using gK (aF.1.2 n hn),by simp,?_);rw[gj];simp at b ⊢;lia
  generalize hW:T+(wt (enc (.chain ns)):Int)=TT at ko hT ⊢;rw[gj];rw[aS (fd:=hU) rfl rfl,aR];simp! only[hU,lQ];refine cu rfl ?_;dsimp! only;refine aM rfl ?_;refine bH rfl (AI (aK.k0 (AH hw () () ()) λn _ kz hd=>?_));simp![];exact(hk n kz,(hd.mono ko.2).cut)
 .intro ns aF D T st hD hw hT;rw[ok]at aF;obtain⟨d,rfl⟩:∃d,D=d+2:=⟨D-2,by simp at hD;lia⟩;let ko:T+10<=1000000/\T+ns.length+1<=T+(wt (enc (.set ns)):Int):=by
   let:ns.length<=de (ns.map .str):=by
    clear aF hT hD;induction ns with
    |nil=>simp
    |cons n r ih=>simp at ih ⊢;lia
   rw[fS]at hT ⊢;simp at hT ⊢;lia
  let hk:∀L:List (List Nat),L.Sublist ns->cI (.set ns) (.af (L.map .str)):=λL hL=>by
   let b:=NX (hL.map PV.str);refine(Qk hL aF.1.1,?_,?_,?_)
   .rw[kN,c_];intro x hx;let(n,hn,rfl):=bK.mp hx;rw[AZ];exact gK (aF.1.2 n (hL.subset hn))
   .rw[fS];simp[eV]
   .rw[fS];simp at b ⊢;lia
  generalize hW:T+(wt (enc (.set ns)):Int)=TT at ko hT ⊢;rw[fS];rw[aS (fd:=hU) rfl rfl,aR];simp! only[hU,lQ];refine cu rfl ?_;dsimp! only;refine aM rfl ?_;refine aM rfl ?_;refine bH rfl ?_;apply ar;simp![bfOp,aO];refine(t8 (λxs env ao acc=>(∃v,env=[aa (.ref w),v])/\∃(a b L:List (List Nat)),ns=a++b/\xs=b.map .str/\acc=L.map .str/\L.Sublist a/\bX w (T+a.length) st ao) _ _ _ _ ⟨⟨_,rfl⟩,[],ns,[],rfl,rfl,rfl,List.nil_sublist _,by simpa using bX.refl hw⟩ ?_).mono ?_
  .rintro x r env ao acc ⟨⟨v,rfl⟩,a,b,L,e1,e2,rfl,hs,hd⟩;obtain ⟨n,b',rfl,rfl,rfl⟩:∃n b',b=n::b'/\x=.str n/\r=b'.map .str:=by
    cases b with
    |nil=>cases e2
    |cons n b'=>cases e2;exact(n,b',rfl,rfl,rfl)
   let Kw:a.length+1<=ns.length:=by rw[e1];simp
   refine(_,rfl,?_);simp![];refine aK.k1 (d7 hd.2 ()) λq _ q0 q1 cf=>?_;let u7:=(hd.trans cf).mono (by simp;lia:T+a.length+1<=T+((a++[n]).length:Int));by_cases c:q=0
   .simp![aH,c];exact(a++[n],b',by simp[e1],rfl,L++[n],by simp,hs.append (List.Sublist.refl _),by simpa using u7)
   .simp![aH,c];exact(a++[n],b',by simp[e1],rfl,L,rfl,hs.trans (List.sublist_append_left _ _),by simpa using u7)
  .rintro ys ao ⟨be,_,a,b,L,e1,e2,rfl,hs,hd⟩;let hb:b=[]:=by
    cases b with
    |nil=>rfl
    |cons _ _=>cases e2
   subst hb;simp at e1;subst e1;exact(hk L hs,(hd.mono ()).cut)
 .intro ns ps aF D T st hD hw hT;rw[ok]at aF;obtain⟨d,rfl⟩:∃d,D=d+2:=⟨D-2,by simp at hD;lia⟩;let hl:=gk aF;let ko:T+10<=1000000/\T+1<=T+(wt (enc (.eS ns ps)):Int):=by rw[kJ]at hT ⊢;simp at hT ⊢;lia
  let hk:∀n∈ns,cI (.eS ns ps) (.str n):=λn hn=>by
   let a:=j3 (aF.1.2 n hn);let b:=wX (pH (f:=PV.str) hn);refine(by rw[bg];simpa using hn,by simpa using gK (aF.1.2 n hn),by simp,?_);rw[kJ];simp at b ⊢;lia
  generalize hW:T+(wt (enc (.eS ns ps)):Int)=TT at ko hT ⊢;rw[kJ];rw[aS (fd:=hU) rfl rfl,aR];simp! only[hU,lQ];refine cu rfl ?_;dsimp! only;refine aM rfl ?_;refine bH rfl (AI (aK.k0 (AH hw () () ()) λn _ kz hd=>?_));simp![];exact(hk n kz,(hd.mono ko.2).cut)
 .intro os ih aF D T st hD hw hT;rw[eB]at aF;rw[fQ]at hD;obtain⟨d,rfl⟩:∃d,D=d+1:=⟨D-1,by lia⟩;let ko:T+(de (os.map enc):Int)<=T+(wt (enc (.row os)):Int):=by rw[eZ];simp;lia
  let hk:∀hs:List PV,cJ os hs=true->(∀h∈hs,bT iE h=true/\bM h<=cC (os.map enc))->de hs<=5*de (os.map enc)->cI (.row os) (.af hs):=λhs h1 h2 h3=>by
   refine(by rw[bg];exact h1,?_,?_,?_)
   .rw[kN,c_];exact λh hh=>(h2 h hh).1
   .rw[eZ];let:=AU.mpr λh hh=>(h2 h hh).2;simp;lia
   .rw[eZ];simp;lia
  generalize hW:T+(wt (enc (.row os)):Int)=TT at ko hT ⊢;rw[eZ];rw[aS (fd:=hU) rfl rfl,aR];simp! only[hU,lQ];refine cu rfl ?_;dsimp! only;refine aM rfl ?_;refine aM rfl ?_;refine aM rfl ?_;refine aM rfl ?_;apply ar;simp![aO];refine(t8 (λxs env ao acc=>(∃v,env=[aa (.ref w),v])/\∃(a b:List Ord),os=a++b/\xs=b.map enc/\cJ a acc=true/\(∀h∈acc,bT iE h=true/\bM h<=cC (os.map enc))/\de acc<=5*de (a.map enc)/\bX w (T+de (a.map enc)) st ao) _ _ _ _ ⟨⟨_,rfl⟩,[],os,rfl,rfl,by simp[cJ],by simp,by simp,by simpa using bX.refl hw⟩ ?_).mono ?_
  .rintro x r env ao acc ⟨⟨v,rfl⟩,a,b,e1,e2,h1,h2,h3,hd⟩;obtain ⟨o,b',rfl,rfl,rfl⟩:∃o b',b=o::b'/\x=enc o/\r=b'.map enc:=by
    cases b with
    |nil=>cases e2
    |cons n b'=>cases e2;exact(n,b',rfl,rfl,rfl)
   let dM:o∈os:=by rw[e1];simp
   let ad0:de (a.map enc)+(wt (enc o)+2)<=de (os.map enc):=by rw[e1];simp
   refine(_,rfl,?_);simp![];let mF:=fO dM;refine(ih o dM (aF.2.2 o dM) d _ _ () hd.2 ()).mono ?_;rintro _ aI ⟨⟨h,rfl,g1,g2,g3,g4⟩,cf⟩;refine(_,rfl,a++[o],b',by simp[e1],rfl,RK h1 g1,?_,?_,?_)
   .intro y hy;rcases hy with hy |rfl
    .exact h2 y hy
    .exact(g2,df g3 (AU.mp (bF _) _ (pH dM)))
   .simp;lia
   .exact(hd.trans cf).mono (by simp;lia)
  .rintro ys ao ⟨be,_,a,b,e1,e2,h1,h2,h3,hd⟩;let hb:b=[]:=by
    cases b with
    |nil=>rfl
    |cons _ _=>cases e2
   subst hb;simp at e1;subst e1;simp![bfOp];exact(hk _ h1 h2 h3,(hd.mono ()).cut)
 .intro o ih aF D T st hD hw hT;rw[eW]at aF;rw[fN]at hD;obtain⟨d,rfl⟩:∃d,D=d+1:=⟨D-1,by lia⟩;let u_:=gn o;let ko:T+1+(wt (enc o):Int)<=T+(wt (enc (.cP o)):Int):=by rw[fo];simp;lia
  let hk:∀(i:Int)(h:PV),0<=i->i<3->cI o h->cI (.cP o) (.af [.int i,h]):=by
   rintro i h h0 h1 ⟨g1,g2,g3,g4⟩;refine(by rw[bg];simp[h0,g1],?_,?_,?_)
   .simp[g2];unfold iE;lia
   .rw[fo];simp;lia
   .rw[fo];simp;lia
  generalize hW:T+(wt (enc (.cP o)):Int)=TT at ko hT ⊢;rw[fo];rw[aS (fd:=hU) rfl rfl,aR];simp! only[hU,lQ];refine cu rfl ?_;dsimp! only;refine aM rfl ?_;refine aM rfl ?_;refine aM rfl ?_;refine bH rfl ?_;apply ar;simp![];refine aK.k1 (xl () hw () () ()) λr _ h0 h1 hd=>?_;simp![aO];refine aK.k0 (ih aF d _ _ () hd.2 ()) λh aI hh cf=>?_;simp![];exact(hk r h h0 h1 hh,((hd.trans cf).mono ()).cut)
@[simp] abbrev Fb(f:Int->Int->Bool):PV->PV->Bool
 |.int a,.int b=>f a b
 |_,_=>false
@[simp] abbrev xK7(a:PV):PV->Bool
 |.aL=>true
 |b=>Fb (λa b=>decide (a<=b)) a b
@[simp] abbrev onStr(f:Nm->Nm->Bool):PV->PV->Bool
 |.str a,.str b=>f a b
 |_,_=>false
@[simp] abbrev Fv(f:List PV->List PV->Bool):PV->PV->Bool
 |.af a,.af b=>f a b
 |_,_=>false
@[simp] abbrev xK8(f:PV->PV->Bool):List PV->List PV->Bool
 |[i,h],[j,k]=>Fb (λi j=>decide (j<i) ||(decide (i=j)&&f h k)) i j
 |_,_=>false
mutual
noncomputable def JT:Ord->PV->PV->Bool
 |.num,a,b=>Fb (λa b=>decide (b<=a)) a b
 |.low,a,b=>xK7 a b
 |.chain ns,a,b=>onStr (λa b=>decide (zi ns b<=zi ns a)) a b
 |.set _,a,b=>Fv (λa b=>b.all λn=>decide (n∈a)) a b
 |.eS _ ps,a,b=>onStr (λa b=>decide (a∈cY ps b)) a b
 |.row os,a,b=>Fv (JU os) a b
 |.cP o,a,b=>Fv (xK8 (JT o)) a b
noncomputable def JU:List Ord->List PV->List PV->Bool
 |o::os,a::as,b::bs=>JT o a b&&JU os as bs
 |_,_,_=>true
end
def wl(ns:List Nm)(ps:List (Nm×Nm)):Nm:=((ns.filter λn=>decide (n∉ps.map ma)).head?).getD []
mutual
noncomputable def ai:Ord->PV
 |.num=>.int 0
 |.low=>.aL
 |.chain ns=>.str (ns.headD [])
 |.set _=>.af []
 |.eS ns ps=>.str (wl ns ps)
 |.row os=>.af (vI os)
 |.cP o=>.af [.int 0,ai o]
noncomputable def vI:List Ord->List PV
 |[]=>[]
 |o::r=>ai o::vI r
end
def AX:∀os,vI os=os.map ai
 |[]=>by rw[vI];rfl
 |o::r=>by rw[vI,AX r];rfl
def Rh[DecidableEq O]{ns:List O}{p:O->Bool}{c:O}(hn:ns.Nodup)(hc:c∈ns)(h:∀n∈ns,p n=true↔n=c):ns.filter p=[c]:=by
 induction ns with
 |nil=>cases hc
 |cons n r ih=>
  rw[l6]at hn;rw[pG];by_cases e:n=c
  .subst e;rw[if_pos ((h n (by simp)).mpr rfl)];congr 1;rw[Hs];intro x hx hp;exact hn.1 ((h x (b5 _ hx)).mp hp▸hx)
  .rw[if_neg (λhp=>e ((h n (by simp)).mp hp))];refine ih hn.2 ?_ λx hx=>h x (b5 _ hx);rcases bN.mp hc with h |h
   .exact absurd h.symm e
   .exact h
def xy1:∀bh∈qv,(∀p∈bh,p.1<p.2)/\∀j,j<e_ bh->j≠0->∃p∈bh,p.2=j:=by decide
structure qC(ns:List Nm)(ps:List (Nm×Nm))(c0:Nm):Prop where
 mem:c0∈ns
 not:c0∉ps.map ma
 all:∀n∈ns,Reach ps c0 n
 up:∀n∈ns,n≠c0->n∈ps.map ma
 sub:∀p∈ps,p.1∈ns/\p.2∈ns
 len:ps.length<=9
def R8{ns ps}(h:o8 ns ps):∃c0,qC ns ps c0:=by
 let hm:=gk h;let(hg,bh,hr,sh,aD,h1,h2,h3,rfl):=h;let(m2,m7,r1,r9,kB):=AJ bh hr;let(u1,u2):=xy1 bh hr;let mL:(cZ sh ns).Nodup:=(uf ns sh).nodup_iff.mpr hg.1;let hl:(cZ sh ns).length=e_ bh:=by rw[rA,h3]
 let t_:∀i j,i<e_ bh->j<e_ bh->(cZ sh ns).getD i []=(cZ sh ns).getD j []->i=j:=by
  intro i j hi hj e;rw[gQ,gQ,bY (),bY ()]at e;let e:(cZ sh ns)[i]'()=(cZ sh ns)[j]'():=e;let p:=Bz.mp mL;by_cases sC:i=j
  .exact sC
  .rcases TM sC with cq |cq
   .exact absurd e (p i j () () cq)
   .exact absurd e.symm (p j i () () cq)
 let memD:∀i,i<e_ bh->(cZ sh ns).getD i []∈ns:=λi hi=>by
  rw[<-jm (k:=sh),gQ,bY ()];exact rH _
 let ofD:∀n∈ns,∃i,i<e_ bh/\n=(cZ sh ns).getD i []:=λn hn=>by
  let(i,hi,e):=gR ((jm (k:=sh)).mpr hn);exact(i,by lia,by rw[gQ,bY hi,e];rfl)
 let Lm:∀p∈bh,((cZ sh ns).getD p.1 [],(cZ sh ns).getD p.2 [])∈gv bh sh aD ns:=λp hp =>
  bK.mpr ⟨p,jm.mpr hp,rfl⟩
 let reach:∀j,j<e_ bh->Reach (gv bh sh aD ns) ((cZ sh ns).getD 0 []) ((cZ sh ns).getD j []):=by
  intro j;induction j using HQ with
  |ind j ih=>
   intro hj;by_cases h0:j=0
   .subst h0;exact .refl _
   .let(p,hp,e):=u2 j hj h0;let cq:=u1 p hp;let:=ih p.1 () (kB p hp).1;let ku:=Lm p hp;rw[e]at ku;exact this.step ku
 let YF:(cZ sh ns).getD 0 []∉(gv bh sh aD ns).map ma:=by
  intro ku;let(q,hq,e):=bK.mp ku;let(p,hp,rfl):=bK.mp hq;let yO:=jm.mp hp;let cq:=u1 p yO;let:=t_ _ _ (kB p yO).2 () e;lia
 refine((cZ sh ns).getD 0 [],memD 0 (),YF,?_,?_,hm.2.2.2,hm.1)
 .intro n hn;let(i,hi,rfl):=ofD n hn;exact reach i hi
 .intro n hn cj;let(i,hi,rfl):=ofD n hn;let Xo:i≠0:=λh=>cj (by rw[h]);let(p,hp,e):=u2 i hi Xo;refine bK.mpr ⟨_,Lm p hp,?_⟩;simp[e]
def qC.wl{ns ps c0}(h:qC ns ps c0)(hn:ns.Nodup):LA.wl ns ps=c0/\(ns.filter λn=>decide (n∉ps.map ma))=[c0]:=by
 let:(ns.filter λn=>decide (n∉ps.map ma))=[c0]:=Rh hn h.mem λn De=>by
  simp only[decide_eq_true_eq];constructor
  .intro hx;by_cases e:n=c0
   .exact e
   .exact absurd (h.up n De e) hx
  .rintro rfl;exact h.not
 refine(?_,this);unfold LA.wl;rw[this];rfl
def qC.only{ns ps c0 n}(h:qC ns ps c0)(r:Reach ps n c0):n=c0:=by
 cases r with
 |refl=>rfl
 |step _ m=>exact absurd (bK.mpr ⟨_,m,rfl⟩) h.not
def qC.Yu{ns ps c0 n}(h:qC ns ps c0)(hn:n∈ns):(∀x∈ns,Reach ps n x)↔n=c0 :=
 ⟨λg=>h.only (g c0 h.mem),λe=>e▸h.all⟩
variable{v:PV}
def wZ:a0 prog W (d+1) yk5 [.p v] st=.ok (.p (.bl (pv v))) st:=by
 rw[aS (fd:=FC) rfl rfl];cases v<;>simp[FC,Q8,pv]
def ig:a0 prog W (d+1) yk7 [.p v,.p (.int a),.p (.int b)] st=.ok (.p (.bl (match v with |.af xs=>decide (a<=xs.length/\(xs.length:Int)<=b)|_=>false))) st:=by
 rw[aS (fd:=w8) rfl rfl];cases v with
 |af xs=>
  by_cases h:a<=xs.length
  .simp[w8,A9,h]
  .simp[w8,A9,h]
 |_=>simp[w8,A9]
def zU7:∀o D,2*bw o+1<=D->∀t st,a0 prog W D ya4 [.p (enc o),.p t] st=.ok (.p (.bl (bg o t))) st:=by
 let hd:∀o:Ord,∀D,2*bw o+1<=D->∃d,D=d+3:=λo D h=>⟨D-3,by let:=gn o;lia⟩;refine fT ?_ ?_ ?_ ?_ ?_ ?_ ?_
 .intro D hD t st;let(d,rfl):=hd _ D hD;rw[aS (fd:=hV) rfl rfl,fR];let h:bg .num t=pv t:=by cases t<;>(rw[bg]<;>simp[pv])
  apply br;rw[aR];simp! only[hV,pb];apply ar;simp![aO];dsimp! only;refine bH rfl ?_;apply ar;simp![wZ,h]
 .intro D hD t st;let(d,rfl):=hd _ D hD;rw[aS (fd:=hV) rfl rfl,eY];apply br;rw[aR];simp! only[hV,pb];apply ar;simp![aO];apply ar;simp![aH];dsimp! only;refine bH rfl ?_;apply ar;cases t<;>simp![wZ,bg,pv]
 .intro ns D hD t st;let(d,rfl):=hd _ D hD;rw[aS (fd:=hV) rfl rfl,gj];apply br;rw[aR];simp! only[hV,pb];apply ar;simp![aO];apply ar;simp![aH];apply ar;simp![aH];dsimp! only;refine bH rfl ?_;apply ar;cases t<;>simp![aO,jZ,bg,eV]
 .intro ns D hD t st;let(d,rfl):=hd _ D hD;rw[aS (fd:=hV) rfl rfl,fS];apply br;rw[aR];simp! only[hV,pb];apply ar;simp![aO];apply ar;simp![aH];apply ar;simp![aH];apply ar;simp![aH];dsimp! only;refine bH rfl ?_;apply ar;cases t with
  |af ts=>
   simp![aO,bfOp];rw[qT PV.str (λn=>decide (PV.str n∈ts)) PV.str (λenv=>∃v,env=[aa (.p (.af ts)),v]) _ _ _ ⟨_,rfl⟩ ?g1]
   case g1 =>
    rintro n hn env ⟨v,rfl⟩;exact(_,rfl,⟨_,rfl⟩,by simp![yl5],by simp![])
   let u_:eM (cC ts+1) 1=true:=by simp[eM]
   simp![bfOp,bg,eV,u_,aH,Rp]
  |_=>simp![bfOp,bg]
 .intro ns ps D hD t st;let(d,rfl):=hd _ D hD;rw[aS (fd:=hV) rfl rfl,kJ];apply br;rw[aR];simp! only[hV,pb];apply ar;simp![aO];apply ar;simp![aH];apply ar;simp![aH];dsimp! only;refine bH rfl ?_;apply ar;cases t<;>simp![aO,jZ,bg,eV]
 .intro os ih D hD t st;rw[fQ]at hD;obtain⟨d,rfl⟩:∃d,D=d+3:=⟨D-3,by lia⟩;rw[aS (fd:=hV) rfl rfl,eZ];apply br;rw[aR];simp! only[hV,pb];apply ar;simp![aO];apply ar;simp![aH];apply ar;simp![aH];apply ar;simp![aH];apply ar;simp![aH];dsimp! only;refine bH rfl ?_;apply ar;simp![aO];rw[aS (fd:=GR) rfl rfl,aR];simp! only[GR,Sj];apply ar;cases t with
  |af ts=>
   by_cases hl:os.length=ts.length
   .let h2:(os.length:Int)<=ts.length/\(ts.length:Int)<=os.length:=by lia
    simp![bfOp,ig,h2.1,h2.2];apply ar;simp![By,iU];let hz:List.zip (iZ enc os) ts=(os.zip ts).map λp=>(enc p.1,p.2):=by
     rw[TC];rfl
    rw[hz,j7];rw[fm ((λp=>PV.af [p.1,p.2])∘λp:Ord×PV=>(enc p.1,p.2)) (λp=>.bl (bg p.1 p.2)) (λenv=>∃v v',env=[v,v']) _ _ _ ⟨_,_,rfl⟩ ?g1]
    case g1 =>
     rintro p hp env ⟨v,v',rfl⟩;refine(_,rfl,⟨_,_,rfl⟩,?_);let:=fO (fE hp).1;simp![ih p.1 (fE hp).1 (d+1) ()]
    let Ke:=o_ (λp:Ord×PV=>bg p.1 p.2) (os.zip ts);rw[bg,Ad,Gg hl];generalize(os.zip ts).all (λp=>bg p.1 p.2)=b at Ke ⊢;simp![bfOp,Ke]
   .let h2:¬((os.length:Int)<=ts.length/\(ts.length:Int)<=os.length):=by lia
    simp![bfOp,ig,-Int.ofNat_le,-Bool.decide_and,h2];apply ar;simp![bg,yW6 hl]
  |_=>
   simp![bfOp,ig];apply ar;simp![bg]
 .intro o ih D hD t st;rw[fN]at hD;obtain⟨d,rfl⟩:∃d,D=d+3:=⟨D-3,by lia⟩;rw[aS (fd:=hV) rfl rfl,fo];apply br;rw[aR];simp! only[hV,pb];apply ar;simp![aO];apply ar;simp![aH];apply ar;simp![aH];apply ar;simp![aH];apply ar;simp![aH];apply ar;simp![aH];apply ar;cases t with
  |af ts=>
   match ts with
   |[]=>simp![ig,bg]
   |[a]=>simp![ig,bg]
   |[a,b]=>
    cases a with
    |int i=>
     by_cases h0:0<=i
     .simp![ig,aO,wZ,pv,h0,ih (d+2) ()];rw[bg];simp[h0]
     .simp![ig,aO,wZ,pv,h0];rw[bg];simp[h0]
    |_=>simp![ig,aO,wZ,pv,bg]
   |a::b::c::r=>
    let h2:¬((r.length:Int)+1+1+1<=2):=by lia
    simp![ig,bg,h2]
  |_=>simp![ig,bg]
def Qd{C:a8}{W:Nat}{body:List S}{tgt:Tg}{st:ay}{O:Type}(v:aJ)(g:O->PV)(p:O->Bool)(I:Env->Prop):∀(xs:List O)(env:Env),I env ->
  (∀x∈xs,∀env,I env->∃be,iq tgt (.p (g x)) st env=aa be/\aK (b_ C W body be st) λf ao=>ao=st/\if p x=true then ∃bz,f=.next bz/\I bz else f=.ret v) ->
  aK (lK C W body tgt aj (xs.map g) env st) λf ao=>ao=st/\if xs.all p=true then ∃bz,f=.next bz/\I bz else f=.ret v
 |[],env,h,_=>by rw[eD,O4];exact(rfl,env,rfl,h)
 | x::r,env,h,step=>by
  let(be,h1,hs):=step x (by simp) env h;let(f,aI,h2,rfl,hf):=nI.mp hs;let ih:=λbz h3=>Qd (C:=C) (W:=W) (body:=body) (tgt:=tgt) v g p I r bz h3 λy hy=>step y (b5 _ hy);unfold lK at ih ⊢;rw[bJ,kL];rw[ff];cases hp:p x with
  |true=>
   rw[hp,if_pos rfl]at hf;let(bz,rfl,h3):=hf;simpa only[nB,if_true,h1,h2,ax.lb,pE]using ih bz h3
  |false=>
   rw[hp,if_neg (by simp)]at hf;subst hf;simp only[nB,if_true,h1,h2,ax.lb,pD,eN,if_false,sat_ok,and_self]
def AB{C:a8}{body:List S}{tgt:Tg}(v:aJ)(g:O->PV)(p:O->Bool)(I:Env->Prop)(xs:List O){ys:List PV}(e:ys=xs.map g){env:Env}(hI:I env)
  (step:∀x∈xs,∀env,I env->∃be,iq tgt (.p (g x)) st env=aa be/\aK (b_ C W body be st) λf ao=>ao=st/\if p x=true then ∃bz,f=.next bz/\I bz else f=.ret v) {Q:Flow->ay->Prop}
  (h1:xs.all p=true->∀bz,I bz->Q (.next bz) st) (h2:xs.all p=false->Q (.ret v) st):aK (lK C W body tgt aj ys env st) Q:=by
 subst e;refine(Qd v g p I xs env hI step).mono ?_;rintro f _ ⟨rfl,hf⟩;cases h:xs.all p with
 |true=>
  rw[h,if_pos rfl]at hf;let(bz,rfl,h3):=hf;exact h1 h bz h3
 |false=>
  rw[h,if_neg (by simp)]at hf;subst hf;exact h2 h
abbrev gu:PV->Bool
 |.str cs=>fL cs
 |_=>false
variable{x:PV}
def Qt(h:gu x=true):∃cs,x=.str cs/\fL cs=true:=by
 cases x<;>first |(cases h;done)|exact(_,rfl,h)
abbrev jf(lo hi:Int):PV->Bool
 |.af xs=>decide (lo<=xs.length/\(xs.length:Int)<=hi)&&xs.all gu&&decide xs.Nodup
 |_=>false
def xh5(c:Nat):decide (c∈s!"abcdefghijklmnopqrstuvwxyz")=decide (97<=c/\c<=122):=by
 by_cases h:c<123
 .let:∀c,c<123->decide (c∈s!"abcdefghijklmnopqrstuvwxyz")=decide (97<=c/\c<=122):=by decide
  exact this c h
 .let q1:c∉s!"abcdefghijklmnopqrstuvwxyz":=λq=>h ((by decide:∀x∈s!"abcdefghijklmnopqrstuvwxyz",x<123) c q);let q2:¬(97<=c/\c<=122):=λq=>h ();rw[decide_eq_false q1,decide_eq_false q2]
def yF1(c:Nat):kM [c] s!"abcdefghijklmnopqrstuvwxyz"=decide (97<=c/\c<=122):=by rw[FW];exact xh5 c
def yZ1{cs:List Nat}(h1:¬(1<=cs.length/\cs.length<=8)):gu (.str cs)=false:=by
 show(decide (1<=cs.length)&&decide (cs.length<=8)&&cs.all λc=>decide (97<=c/\c<=122))=false;by_cases h2:1<=cs.length
 .rw[decide_eq_false (p:=cs.length<=8) (λq=>h1 ⟨h2,q⟩)];simp
 .rw[decide_eq_false h2];simp
def yZ0{cs:List Nat}(h1:1<=cs.length/\cs.length<=8):gu (.str cs)=cs.all λc=>decide (97<=c/\c<=122):=by
 simp only[gu,fL,h1.1,h1.2,decide_true,pE]
def yl3{t:PV}:a0 prog W (d+1) ys3 [.p t] st=.ok (.p (.bl (gu t))) st:=by
 apply br;cases t with
 |str cs=>
  rw[aS (fd:=xg) rfl rfl,aR];simp! only[xg,FN];by_cases h1:1<=cs.length/\cs.length<=8
  .let z1:(1:Int)<=cs.length:=by lia
   let z2:(cs.length:Int)<=8:=by lia
   apply ar;simp![bfOp,z1,z2];apply ar;simp![bfOp];rw[show walkOf (aJ.p (PV.str cs)) st=.ok (cs.map λc=>PV.str [c],aj) st from rfl];simp only[sat_ok];rw[fm (λc=>PV.str [c]) (λc=>PV.bl (decide (97<=c/\c<=122))) (λenv=>∃v,env=[v]) _ _ _ ⟨_,rfl⟩ ?g1]
   case g1 =>
    rintro c hc env ⟨v,rfl⟩;refine(_,rfl,⟨_,rfl⟩,?_);simp![yF1]
   simp only[sat_ok,d3,o_];rw[yZ0 h1];cases(cs.all λc=>decide (97<=c/\c<=122))<;>simp
  .let e:=yZ1 h1;apply ar;by_cases h2:1<=cs.length
   .let z1:(1:Int)<=cs.length:=by lia
    let z2:¬(cs.length:Int)<=8:=λq=>h1 ⟨h2,by lia⟩;simp![bfOp,z1,z2];apply ar;simp![e]
   .let z1:¬(1:Int)<=cs.length:=by lia
    simp![bfOp,z1];apply ar;simp![e]
 |_=>
  rw[aS (fd:=xg) rfl rfl,aR];simp! only[xg,FN];apply ar;simp![bfOp];apply ar;simp![gu]
def Po:∀r:List PV,(fb r.reverse).length<=r.length/\((fb r.reverse).length=r.length↔r.Nodup)/\∀x,x∈fb r.reverse↔x∈r
 |[]=>by simp[fb]
 | k::r=>by
  let(h1,h2,h3):=Po r;let e:fb (k::r).reverse=if k∈fb r.reverse then fb r.reverse else fb r.reverse++[k]:=by
   rw[nN];unfold fb;rw[List.foldl_append];rfl
  rw[e,l6];by_cases c:k∈fb r.reverse
  .rw[if_pos c];let c':=(h3 k).mp c;refine(by simp;lia,⟨λq=>by simp at q;lia,λq=>absurd c' q.1⟩,λx=>?_);rw[h3,bN];constructor
   .exact .inr
   .rintro (rfl |q)
    .exact c'
    .exact q
  .rw[if_neg c];let c':k∉r:=λq=>c ((h3 k).mpr q);refine(by simp;lia,?_,λx=>?_)
   .rw[cA];simp only[c6,gx];constructor
    .intro q;exact(c',h2.mp ())
    .intro q;let:=h2.mpr q.2;lia
   .rw[d0,h3,jw,bN];exact Or.comm
def xi(xs:List PV):((fb xs).length=xs.length)↔xs.Nodup:=by
 let:=(Po xs.reverse).2.1;rw[HG,Tb,(Tq xs).nodup_iff]at this;exact this
def RN(h1:xs.length<=75)(h2:xs.all iT=true\/xs.all nc=true):rj (.af xs)=aa (.int ((fb xs).length:Nat)):=by
 show(if xs.length<=75/\(xs.all iT=true\/xs.all nc=true)then aa (PV.int ((fb xs).length:Nat))else aj)=_
 rw[if_pos ⟨h1,h2⟩]
def Pe:aH (.int ((fb xs).length:Nat)) (.int (xs.length:Nat))=decide xs.Nodup:=by
 let h:=xi xs;rw[aH];by_cases c:xs.Nodup
 .rw[decide_eq_true c];let:=h.mpr c;simp[this]
 .rw[decide_eq_false c];let:¬(fb xs).length=xs.length:=λq=>c (h.mp q);simp;lia
def F5{t:PV}(hb:b<=75):a0 prog W (d+2) zy2 [.p t,.p (.int a),.p (.int b)] st=.ok (.p (.bl (jf a b t))) st:=by
 apply br;rw[aS (fd:=GN) rfl rfl,aR];simp! only[GN,Sa];apply ar;let e1:=ig (W:=W) (d:=d) (v:=t) (a:=a) (b:=b) (st:=st);cases t with
 |af xs=>
  by_cases c:a<=xs.length/\(xs.length:Int)<=b
  .simp only[c,and_self,decide_true]at e1;simp![e1];rw[Bb (f:=λx=>PV.bl (gu x)) xs _ _ (λenv=>∃v,env=[v]) ⟨_,rfl⟩ ?g1]
   case g1 =>
    rintro x hx env ⟨v,rfl⟩;refine(_,rfl,⟨_,rfl⟩,?_);simp![yl3]
   simp only[sat_ok,d3];refine(.bl (xs.all gu),?_,?_)
   .show(j0 (xs.map λx=>PV.bl (gu x))).map PV.bl=_;rw[o_];rfl
   let e2:jf a b (.af xs)=(xs.all gu&&decide xs.Nodup):=by
    show(decide (a<=xs.length/\(xs.length:Int)<=b)&&xs.all gu&&decide xs.Nodup)=_;rw[decide_eq_true c,pE]
   rw[e2];cases ha:xs.all gu with
   |false=>
    simp![];apply ar;simp![]
   |true=>
    let Dv:xs.all iT=true:=by
     rw[c_]at ha ⊢;intro x hx;let(cs,rfl,_):=Qt (ha x hx);rfl
    let e3:bfOp .sL [.af xs]=aa (.int ((fb xs).length:Nat)):=RN () (.inl Dv);let e4:bfOp .len [.af xs]=aa (.int (xs.length:Nat)):=rfl;simp![];apply ar;simp![e3,e4,Pe];exact(λh=>(xi xs).mp (),λh=>by let:=(xi xs).mpr h;lia)
  .let e2:jf a b (.af xs)=false:=by
    show(decide (a<=xs.length/\(xs.length:Int)<=b)&&xs.all gu&&decide xs.Nodup)=_;rw[decide_eq_false c,pD,pD]
   simp only[c,decide_false]at e1;simp![e1];apply ar;simp![e2]
 |_=>
  simp![e1];apply ar;simp![jf]
def kK{cs:List Nat}:aH y (.str cs)=decide (y=.str cs):=by
 cases y with
 |str a=>rw[aH];simp
 |_=>simp[aH]
def bZ(p:Nm×Nm):PV:=.af [.str p.1,.str p.2]
abbrev f9(ns:List Nm):PV->Bool
 |.str s=>decide (s∈ns)
 |_=>false
def FH{t:PV}{ns:List (List Nat)}:gO t (ns.map .str)=f9 ns t:=by
 unfold gO;rw[pC];cases t<;>simp[nC,f9]
abbrev sV(ns:List Nm):PV->PV->Bool
 |.str a,.str b=>decide (a∈ns)&&decide (b∈ns)&&decide (a≠b)
 |_,_=>false
abbrev fM(ns:List Nm):PV->Bool
 |.af [x,y]=>sV ns x y
 |_=>false
variable{ns:List Nm}
def Pa(h:fM ns x=true):∃a b,x=bZ (a,b)/\a∈ns/\b∈ns/\a≠b:=by
 unfold fM at h;split at h
 .unfold sV at h;split at h
  .simp only[bP,decide_eq_true_eq]at h;exact(_,_,rfl,h.1.1,h.1.2,h.2)
  .cases h
 .cases h
def xQ6:f9 ns x=true->f9 ns y=true->∃a b,x=.str a/\y=.str b/\a∈ns/\b∈ns:=by
 intro h1 h2;cases x<;>first |(cases h1;done)|skip
 cases y<;>first |(cases h2;done)|skip
 exact(_,_,rfl,rfl,of_decide_eq_true h1,of_decide_eq_true h2)
def xu3(h:¬f9 ns x=true):sV ns x y=false:=by
 cases x<;>first |rfl |skip
 cases y<;>first |rfl |skip
 let h:=λq=>h (show f9 ns (.str _)=true from decide_eq_true q);show(decide _&&_&&_)=false;rw[decide_eq_false h];rfl
def xu4(h:¬f9 ns y=true):sV ns x y=false:=by
 cases x<;>first |rfl |skip
 cases y<;>first |rfl |skip
 let h:=λq=>h (show f9 ns (.str _)=true from decide_eq_true q);show(_&&decide _&&_)=false;rw[decide_eq_false h,SD];rfl
abbrev lJ(ns:List Nm):PV->Bool
 |.af xs=>decide (1<=xs.length/\xs.length<=20)&&xs.all (fM ns)&&decide xs.Nodup
 |_=>false
def yl4{t:PV}:a0 prog W (d+2) ys4 [.p (.af (ns.map .str)),.p t] st=.ok (.p (.bl (fM ns t))) st:=by
 apply br;rw[aS (fd:=FR) rfl rfl,aR];simp! only[FR,Rw];apply ar;let e1:=ig (W:=W) (d:=d) (v:=t) (a:=2) (b:=2) (st:=st);cases t with
 |af xs=>
  by_cases c:xs.length=2
  .obtain ⟨x,y,rfl⟩:∃x y,xs=[x,y]:=by
    cases xs with
    |nil=>cases c
    |cons x r=>
     cases r with
     |nil=>cases c
     |cons y q=>
      cases q with
      |nil=>exact(x,y,rfl)
      |cons _ _=>simp at c
   simp at e1;let e2:fM ns (.af [x,y])=sV ns x y:=rfl;rw[e2];by_cases h1:f9 ns x=true
   .by_cases h2:f9 ns y=true
    .let(a,b,rfl,rfl,h3,h4):=xQ6 h1 h2;simp![e1,aO,FH,f9,eV,h3,h4,sV,nC]
    .rw[xu4 h2];simp![e1,aO,FH,eV,h1,h2]
   .rw[xu3 h1];simp![e1,aO,FH,eV,h1]
  .let e2:fM ns (.af xs)=false:=by
    unfold fM;split
    .rename_i h
     cases h;simp at c
    .rfl
   let c1:¬((2:Int)<=xs.length/\(xs.length:Int)<=2):=λq=>c ();simp only[c1,decide_false]at e1;simp![e1,e2]
 |_=>
  simp![e1,fM]
def yH5{t:PV}:a0 prog W (d+3) ya2 [.p (.af (ns.map .str)),.p t] st=.ok (.p (.bl (lJ ns t))) st:=by
 apply br;rw[aS (fd:=G3) rfl rfl,aR];simp! only[G3,QT];apply ar;let e1:=ig (W:=W) (d:=d+1) (v:=t) (a:=1) (b:=20) (st:=st);cases t with
 |af xs=>
  by_cases c:1<=xs.length/\xs.length<=20
  .let c':(1:Int)<=xs.length/\(xs.length:Int)<=20:=by lia
   simp only[c',and_self,decide_true]at e1;simp![e1];rw[Bb (f:=λx=>PV.bl (fM ns x)) xs _ _ (λenv=>∃v,env=[aa (.p (.af (ns.map .str))),v]) ⟨_,rfl⟩ ?g1]
   case g1 =>
    rintro x hx env ⟨v,rfl⟩;refine(_,rfl,⟨_,rfl⟩,?_);simp![yl4]
   simp only[sat_ok,d3];refine(.bl (xs.all (fM ns)),?_,?_)
   .show(j0 (xs.map λx=>PV.bl (fM ns x))).map PV.bl=_;rw[o_];rfl
   let e2:lJ ns (.af xs)=(xs.all (fM ns)&&decide xs.Nodup):=by
    show(decide (1<=xs.length/\xs.length<=20)&&xs.all (fM ns)&&decide xs.Nodup)=_;rw[decide_eq_true c,pE]
   rw[e2];cases ha:xs.all (fM ns)with
   |false=>
    simp![];apply ar;simp![]
   |true=>
    let Dv:xs.all nc=true:=by
     rw[c_]at ha ⊢;intro x hx;let(a,b,rfl,_):=Pa (ha x hx);rfl
    let e3:bfOp .sL [.af xs]=aa (.int ((fb xs).length:Nat)):=RN () (.inr Dv);let e4:bfOp .len [.af xs]=aa (.int (xs.length:Nat)):=rfl;simp![];apply ar;simp![e3,e4,Pe];exact(λh=>(xi xs).mp (),λh=>by let:=(xi xs).mpr h;lia)
  .let e2:lJ ns (.af xs)=false:=by
    show(decide (1<=xs.length/\xs.length<=20)&&xs.all (fM ns)&&decide xs.Nodup)=_;rw[decide_eq_false c,pD,pD]
   let c':¬((1:Int)<=xs.length/\(xs.length:Int)<=20):=λq=>c ();simp only[c',decide_false]at e1;simp![e1];apply ar;simp![e2]
 |_=>
  simp![e1];apply ar;simp![lJ]
def zN6{s:Nm}{p:Nm×Nm}{r f}:fU s (p::r) f=fU s r (if p.1=s/\p.2∉f then f++[p.2]else f):=rfl
def V1(ps:List (Nm×Nm))(n:Nm)(st:ay)(k:Nat)(env:Env)(ao:ay):Prop:=∃f i x4 x5,env=[aa (.p (.af (ps.map bZ))),aa (.p (.str n)),aa (.ref st.length),aa (.p (.int (i:Nat))),x4,x5]/\ao=st++[.ai (f.map .str)]/\m4 ps n f i/\kh ps (60-i) f i=cY ps n/\ps.length+2<=k+i
def V2(ps:List (Nm×Nm))(n:Nm)(st:ay)(env:Env)(ao:ay):Prop:=∃v x4 x5,env=[aa (.p (.af (ps.map bZ))),aa (.p (.str n)),aa (.ref st.length),v,x4,x5]/\ao=st++[.ai ((cY ps n).map .str)]
def V3(ps:List (Nm×Nm))(n:Nm)(st:ay)(s:Nm)(f:List Nm)(i:Nat)(xs:List PV)(env:Env)(ao:ay):Prop:=∃g r x4 x5,env=[aa (.p (.af (ps.map bZ))),aa (.p (.str n)),aa (.ref st.length),aa (.p (.int (i:Nat))),x4,x5]/\xs=r.map bZ/\ao=st++[.ai ((f++g).map .str)]/\fU s r (f++g)=fU s ps f/\(f++g).length+r.length<=f.length+ps.length
variable{ps:List (Nm×Nm)}
def GZ{n:Nm}(hW:60<=W)(hD:1<=D)(hl:ps.length<=50):
  a0 prog W D A6 [.p (.af (ps.map bZ)),.p (.str n)] st=.ok (.p (.ai ((cY ps n).map .str))) st:=by
 obtain⟨d,rfl⟩:∃d,D=d+1:=⟨D-1,by lia⟩;apply br;rw[aS (fd:=G0) rfl rfl,aR];simp! only[G0,QP];apply ar;simp![];apply ar;simp![];apply ar;simp![];refine(R9 (V1 ps n st) (V2 ps n st) ?_ ?_ W _ _ ⟨[n],0,aj,aj,rfl,rfl,EZ,rfl,by lia⟩).mono ?_
 .rintro env ao ⟨f,i,x4,x5,rfl,rfl,hb,_,hk⟩;let h1:=hb.le;let h2:=hb.len;lia
 .rintro k env ao ⟨f,i,x4,x5,rfl,rfl,hb,he,hk⟩;let ho:aW (st++[.ai (f.map .str)]) st.length=aa (.ai (f.map .str)):=jj;by_cases hi:i<f.length
  .simp![cM,bQ,eX ho,bfOp,hi];obtain⟨s,hs⟩:∃s,f[i]?=aa s:=⟨_,bY hi⟩;apply ar;simp![];refine(rn (V3 ps n st s f i) _ _ _ ⟨[],ps,_,_,rfl,rfl,by simp,by simp,by simp⟩ ?_).mono ?_
   .rintro x r env ao ⟨g,r',x4,x5,rfl,e2,rfl,ly,bj⟩;obtain ⟨p,r2,rfl,rfl,rfl⟩:∃p r2,r'=p::r2/\x=bZ p/\r=r2.map bZ:=by
     cases r' with
     |nil=>cases e2
     |cons p r2=>cases e2;exact(p,r2,rfl,rfl,rfl)
    let dk:aW (st++[.ai ((f++g).map .str)]) st.length=aa (.ai ((f++g).map .str)):=jj;let C7:(f++g)[i]?=aa s:=by rw[jv hi];exact hs
    let C9:aO ((f++g).map PV.str).length (i:Int)=aa i:=by
     unfold aO;rw[if_pos (),if_pos (by simp;lia)];simp
    rw[zN6]at ly;refine(_,rfl,?_);apply ar;generalize mH:f++g=fg at *
    let C_:aO fg.length (i:Int)=aa i:=by simpa using C9
    let Kx:=hb.len;let z1:fg.length<SZ:=iW (by simp at bj;lia);by_cases c1:p.1=s
    .by_cases c2:p.2∈fg
     .rw[if_neg (by simp[c2])]at ly;simp![dk,C_,C7,nC,c1,dR,eX dk,jZ,f9,c2,eV];dsimp! only;exact(_,rfl,g,r2,_,_,rfl,rfl,by rw[mH],by rw[mH];exact ly,by rw[mH];simp at bj ⊢;lia)
     .rw[if_pos ⟨c1,c2⟩]at ly;simp![dk,C_,C7,nC,c1,dR,eX dk,jZ,f9,c2,eV];apply ar;simp![eX dk,qW dk,jn,z1];dsimp! only;refine(_,rfl,g++[p.2],r2,_,_,rfl,rfl,by rw[<-j5,mH];simp,by rw[<-j5,mH];exact ly,by rw[<-j5,mH];simp at bj ⊢;lia)
    .rw[if_neg (λh=>c1 h.1)]at ly;let We:¬s=p.1:=λh=>c1 h.symm;simp![dk,C_,C7,nC,c1,We];dsimp! only;exact(_,rfl,g,r2,_,_,rfl,rfl,by rw[mH],by rw[mH];exact ly,by rw[mH];simp at bj ⊢;lia)
   .rintro _ ao ⟨be,rfl,g,r',x4,x5,rfl,e2,rfl,ly,bj⟩;let hr:r'=[]:=by
     cases r' with
     |nil=>rfl
     |cons _ _=>cases e2
    subst hr;apply ar;simp![];dsimp! only;refine(_,rfl,f++g,i+1,_,_,rfl,by simp,?_,?_,by lia)
    .rw[show f++g=fU s ps f from ly];exact hb.next hs
    .rw[show f++g=fU s ps f from ly];let Kx:=hb.len;let Ky:=hb.le;rw[<-he,show 60-i=(60-(i+1))+1 by lia,kh,hs]
  .simp![cM,bQ,eX ho,bfOp,hi];let hn:f[i]?=aj:=l0 ();let Kx:=hb.len;let Ky:=hb.le;let:f=cY ps n:=by
    rw[<-he,show 60-i=(60-i-1)+1 by lia,kh,hn]
   exact(_,_,_,rfl,by rw[this])
 .rintro _ ao ⟨be,rfl,v,x4,x5,rfl,rfl⟩;apply ar;simp![]
def tz{a}(h:bg .num a=true):∃i:Int,a=.int i/\0<=i:=by
 cases a<;>simp[bg]at h;exact(_,rfl,h)
def tw{a}(h:bg .low a=true):a=.aL\/∃i:Int,a=.int i/\0<=i:=by
 cases a<;>simp[bg]at h
 .exact .inl rfl
 .exact .inr ⟨_,rfl,h⟩
def tV{ns a}(h:bg (.chain ns) a=true):∃s∈ns,a=.str s:=by
 cases a<;>simp[bg]at h;exact(_,h,rfl)
def tD{ns ps a}(h:bg (.eS ns ps) a=true):∃s∈ns,a=.str s:=by
 cases a<;>simp[bg]at h;exact(_,h,rfl)
def ub{ns a}(h:bg (.set ns) a=true):∃L:List Nm,L.Sublist ns/\a=.af (L.map .str):=by
 cases a with
 |af ts=>
  rw[bg]at h;let:=of_decide_eq_true h;exact(_,Bt,by rw[<-this])
 |_=>simp[bg]at h
def rq{os a}(h:bg (.row os) a=true):∃ts,a=.af ts/\cJ os ts=true:=by
 cases a with
 |af ts=>rw[bg]at h;exact(ts,rfl,h)
 |_=>simp[bg]at h
def tW{o a}(h:bg (.cP o) a=true):∃(i:Int)(k:PV),a=.af [.int i,k]/\0<=i/\bg o k=true:=by
 cases a with
 |af ts=>
  match ts with
  |[]=>simp[bg]at h
  |[x]=>simp[bg]at h
  |[x,y]=>
   cases x with
   |int i=>rw[bg]at h;simp at h;exact(i,y,rfl,h.1,h.2)
   |_=>simp[bg]at h
  |x::y::z::r=>simp[bg]at h
 |_=>simp[bg]at h
def O9:∀{os ts},cJ os ts=true->∀p∈os.zip ts,bg p.1 p.2=true
 | os,ts,h=>by
  rw[Gg (uc h),c_]at h;exact h
def ph{ns ps}:enc (.eS ns ps)=.af [.str s!"web",.af (ns.map .str),.af (ps.map bZ)]:=kJ
def lH(ns:List Nm)(ps:List (Nm×Nm))(n:Nm):List Nm:=ns.filter λx=>decide (x∈ups ps ns.length [n])
def qu(ns:List Nm)(ps:List (Nm×Nm))(ms:List Nm):b6:=.bB (ms.map λn=>(.str n,.ai ((lH ns ps n).map .str)))
def OX{F:Nm->PV}{t:Nm}:∀{ns:List Nm},t∈ns->eJ (.str t) (ns.map λn=>(PV.str n,F n))=aa (F t)
 |[],h=>by cases h
 | n::r,h=>by
  rw[bJ,eJ];by_cases e:n=t
  .subst e;simp
  .rw[if_neg (by simpa using e)];refine OX ?_;rcases bN.mp h with h |h
   .exact absurd h.symm e
   .exact h
def yC4{F:Nm->PV}{t:Nm}(h:t∉ns):dC (.str t) v (ns.map λn=>(PV.str n,F n))=(ns.map λn=>(PV.str n,F n))++[(.str t,v)]:=by
 unfold dC;rw[if_neg];simp;exact h
def V5(ns:List Nm)(ps:List (Nm×Nm))(st:ay)(xs:List PV)(env:Env)(ao:ay):Prop :=
 ∃a b x2 x3 x4,ns=a++b/\xs=b.map .str/\env=[aa (.p (.af [.str s!"web",.af (ns.map .str),.af (ps.map bZ)])),aa (.ref st.length),x2,x3,x4]/\ao=st++[qu ns ps a]
def V6(ns:List Nm)(ps:List (Nm×Nm))(st:ay)(a:List Nm)(n:Nm)(xs:List PV)(env:Env)(ao:ay):Prop :=
 ∃f x4,xs.length<=ns.length/\f.length+9*xs.length<=1+9*ns.length/\ups ps xs.length f=ups ps ns.length [n]/\env=[aa (.p (.af [.str s!"web",.af (ns.map .str),.af (ps.map bZ)])),aa (.ref st.length),aa (.p (.str n)),aa (.p (.ai (f.map .str))),x4]/\ao=st++[qu ns ps a]
def yH4(hD:1<=D)(h:o8 ns ps):
  a0 prog W D ya8 [.p (enc (.eS ns ps))] st=.ok (.ref st.length) (st++[qu ns ps ns]):=by
 obtain⟨d,rfl⟩:∃d,D=d+1:=⟨D-1,by lia⟩;let(l9,n7,n2,g9):=gk h;apply br;rw[ph];rw[aS (fd:=G7) rfl rfl,aR];simp! only[G7,QX];apply ar;simp![];apply ar;simp![aO];refine(rn (V5 ns ps st) _ _ _ ⟨[],ns,_,_,_,rfl,rfl,rfl,by simp[qu]⟩ ?_).mono ?_
 .rintro x r env ao ⟨a,b,x2,x3,x4,e1,e2,rfl,rfl⟩;obtain ⟨n,b',rfl,rfl,rfl⟩:∃n b',b=n::b'/\x=.str n/\r=b'.map .str:=by
   cases b with
   |nil=>cases e2
   |cons n b'=>cases e2;exact(n,b',rfl,rfl,rfl)
  let XC:n∉a:=by
   intro hm;let mL:=h.1.1;rw[e1,HD]at mL;exact mL.2.2 n hm n (by simp) rfl
  let hnn:n∈ns:=by rw[e1];simp
  refine(_,rfl,?_);apply ar;simp![];apply ar;let z1:(ns.length:Int)<=(SZ:Int):=nK ();let z2:(-1000000:Int)<=ns.length:=by lia
  simp![aO,bfOp,z1,z2];refine(rn (V6 ns ps st a n) _ _ _ ⟨[n],_,by simp,by simp,by simp,rfl,rfl⟩ ?_).mono ?_
  .rintro y q env ao ⟨f,x4,hq,hf,hu,rfl,rfl⟩;simp only[c6]at hq hf hu;refine(_,rfl,?_);apply ar;simp![aO];rw[qT bZ (λp=>decide (p.1∈f)&&decide (p.2∉f)) (λp=>.str p.2) (λenv=>∃v,env=[aa (.p (.ai (f.map .str))),v]) _ _ _ ⟨_,rfl⟩ ?g1]
   case g1 =>
    rintro p hp env ⟨v,rfl⟩;refine(_,rfl,⟨_,rfl⟩,?_,?_)
    .by_cases c1:p.1∈f
     .simp![bZ,aO,jZ,eV,c1]
     .simp![bZ,aO,jZ,eV,c1]
    .intro _;simp![bZ,aO]
   let Xl:(ps.filter λp=>decide (p.1∈f)&&decide (p.2∉f)).length<=ps.length:=Bw _ _;let z3:f.length+(ps.filter λp=>decide (p.1∈f)&&decide (p.2∉f)).length<=SZ:=bC ();generalize hg:(ps.filter λp=>decide (p.1∈f)&&decide (p.2∉f))=g at Xl z3;simp![z3];dsimp! only;refine(_,rfl,f++g.map ma,aa (.p y),by lia,by simp;lia,?_,by simp,rfl);rw[ups]at hu;rw[<-hu];unfold o9;rw[hg]
  .rintro _ ao ⟨be,rfl,f,x4,hq,hf,hu,rfl,rfl⟩;let Xj:f=ups ps ns.length [n]:=hu;apply ar;simp![aO];rw[qT PV.str (λx=>decide (x∈ups ps ns.length [n])) PV.str (λenv=>∃v,env=[aa (.p (.ai (f.map .str))),v]) _ _ _ ⟨_,rfl⟩ ?g2]
   case g2 =>
    rintro x hx env ⟨v,rfl⟩;refine(_,rfl,⟨_,rfl⟩,?_,by simp![]);simp![jZ,eV,Xj]
   let Kw:a.length<1000000:=by
    let:a.length<=ns.length:=by rw[e1];simp
    lia
   simp![qu,Kw,yC4 XC];dsimp! only;refine(_,rfl,a++[n],b',_,_,_,by simp[e1],rfl,rfl,?_);simp[qu,lH]
 .rintro _ ao ⟨be,rfl,a,b,x2,x3,x4,e1,e2,rfl,rfl⟩;let hb:b=[]:=by
   cases b with
   |nil=>rfl
   |cons _ _=>cases e2
  subst hb;simp at e1;subst e1;apply ar;simp![ng]
def Qr{ns ps n x}(h:o8 ns ps)(hn:n∈ns):x∈lH ns ps n↔x∈ns/\Reach ps n x:=by
 unfold lH;rw[kS];let:=yY5 (x:=x) (λp hp=>((gk h).2.2.2 p hp).2) hn;simp[this]
def zV1:∀o,ok o->∀D,bw o+1<=D->∀st,a0 prog W D ya5 [.p (enc o)] st=.ok (.p (ai o)) st:=by
 let hd:∀o:Ord,∀D,bw o+1<=D->∃d,D=d+2:=λo D h=>⟨D-2,by let:=gn o;lia⟩;refine fT ?_ ?_ ?_ ?_ ?_ ?_ ?_
 .intro _ D hD st;let(d,rfl):=hd _ D hD;apply br;rw[fR];rw[aS (fd:=hZ) rfl rfl,aR];simp! only[hZ,pd];refine cu rfl ?_;dsimp! only;refine aM rfl ?_;refine aM rfl ?_;refine aM rfl ?_;apply ar;simp![aO,dC,eJ,ai]
 .intro _ D hD st;let(d,rfl):=hd _ D hD;apply br;rw[eY];rw[aS (fd:=hZ) rfl rfl,aR];simp! only[hZ,pd];refine cu rfl ?_;dsimp! only;refine aM rfl ?_;refine aM rfl ?_;refine aM rfl ?_;apply ar;simp![aO,dC,eJ,ai]
 .intro ns aF D hD st;rw[ok]at aF;let(d,rfl):=hd _ D hD;apply br;rw[gj];rw[aS (fd:=hZ) rfl rfl,aR];simp! only[hZ,pd];refine cu rfl ?_;dsimp! only;refine aM rfl ?_;refine aM rfl ?_;refine aM rfl ?_;apply ar;cases ns with
  |nil=>simp at aF
  |cons n r=>
   let h0:(0:Int)<(r.length:Int)+1:=by lia
   simp![aO,dC,eJ,ai,h0]
 .intro ns aF D hD st;rw[ok]at aF;let(d,rfl):=hd _ D hD;apply br;rw[fS];rw[aS (fd:=hZ) rfl rfl,aR];simp! only[hZ,pd];refine cu rfl ?_;dsimp! only;refine aM rfl ?_;refine aM rfl ?_;refine aM rfl ?_;apply ar;cases ns with
  |nil=>simp at aF
  |cons n r=>
   let h0:(0:Int)<(r.length:Int)+1:=by lia
   simp![aO,dC,eJ,ai,h0]
 .intro ns ps aF D hD st;rw[ok]at aF;let(d,rfl):=hd _ D hD;let(c0,hc):=R8 aF;let(fj,fJ):=hc.wl aF.1.1;let oh:=yH4 (W:=W) (D:=d+1) (st:=st) () aF;let Xk:(ns.filter λn=>decide ((lH ns ps n).length=ns.length))=[c0]:=Rh aF.1.1 hc.mem λn hn=>by
   rw[decide_eq_true_eq,<-hc.Yu hn];constructor
   .intro hl x hx;let hs:lH ns ps n=ns:=Bt.eq_of_length hl;exact((Qr aF hn).mp (by rw[hs];exact hx)).2
   .intro fx;let:lH ns ps n=ns:=by
     unfold lH;rw[List.filter_eq_self];intro x hx;let:=(Qr aF hn).mpr ⟨hx,fx x hx⟩;unfold lH at this;exact(kS.mp this).2
    rw[this]
  apply br;rw[ph]at oh ⊢;rw[aS (fd:=hZ) rfl rfl,aR];simp! only[hZ,pd];refine cu rfl ?_;dsimp! only;refine bH rfl ?_;apply ar;simp![oh];apply ar;simp![aO];rw[qT PV.str (λn=>decide ((lH ns ps n).length=ns.length)) PV.str (λenv=>∃v,env=[aa (.p (.af [.str s!"web",.af (ns.map .str),.af (ps.map bZ)])),aa (.ref st.length),v]) _ _ _ ⟨_,rfl⟩ ?g1]
  case g1 =>
   rintro n hn env ⟨v,rfl⟩;refine(_,rfl,⟨_,rfl⟩,?_,by simp![]);simp![aO,qu,OX hn,bfOp,aH];lia
  rw[Xk];simp![aO];rw[ai,fj]
 .intro os ih aF D hD st;rw[eB]at aF;rw[fQ]at hD;obtain⟨d,rfl⟩:∃d,D=d+2:=⟨D-2,by lia⟩;apply br;rw[eZ];rw[aS (fd:=hZ) rfl rfl,aR];simp! only[hZ,pd];refine cu rfl ?_;dsimp! only;refine aM rfl ?_;refine aM rfl ?_;refine bH rfl ?_;apply ar;simp![aO];rw[fm enc ai (λenv=>∃v,env=[v]) _ _ _ ⟨_,rfl⟩ ?g1]
  case g1 =>
   rintro o ho env ⟨v,rfl⟩;refine(_,rfl,⟨_,rfl⟩,?_);let:=fO ho;simp![ih o ho (aF.2.2 o ho) (d+1) () st]
  simp![bfOp];rw[ai,AX]
 .intro o ih aF D hD st;rw[eW]at aF;rw[fN]at hD;obtain⟨d,rfl⟩:∃d,D=d+2:=⟨D-2,by lia⟩;apply br;rw[fo];rw[aS (fd:=hZ) rfl rfl,aR];simp! only[hZ,pd];refine cu rfl ?_;dsimp! only;refine aM rfl ?_;refine bH rfl ?_;apply ar;simp![aO,ih aF (d+1) () st];rw[ai]
def Rk:∀o,ok o->∀h,bg o h=true->bM h<=bM (enc o)/\wt h<=5*wt (enc o):=by
 refine fT ?_ ?_ ?_ ?_ ?_ ?_ ?_
 .intro _ h hh;let(i,rfl,_):=tz hh;rw[fR];simp
 .intro _ h hh;rcases tw hh with rfl |⟨i,rfl,_⟩<;>(rw[eY];simp)
 .intro ns aF h hh;let(s,hs,rfl):=tV hh;let b:=wX (pH (f:=PV.str) hs);rw[gj];simp at b ⊢;lia
 .intro ns aF h hh;let(L,hL,rfl):=ub hh;let b:=NX (hL.map PV.str);rw[fS];simp[eV];lia
 .intro ns ps aF h hh;let(s,hs,rfl):=tD hh;let b:=wX (pH (f:=PV.str) hs);rw[kJ];simp at b ⊢;lia
 .intro os ih aF h hh;rw[eB]at aF;let(ts,rfl,ht):=rq hh;rw[eZ];let key:∀(os:List Ord)(ts:List PV),cJ os ts=true->(∀o∈os,∀h,bg o h=true->bM h<=bM (enc o)/\wt h<=5*wt (enc o))->cC ts<=cC (os.map enc)/\de ts<=5*de (os.map enc):=by
   intro os;induction os with
   |nil=>
    intro ts ht _;cases ts with
    |nil=>simp
    |cons _ _=>simp[cJ]at ht
   |cons o r sI=>
    intro ts ht fx;cases ts with
    |nil=>simp[cJ]at ht
    |cons t ts=>
     rw[cJ,bP]at ht;let h1:=fx o (by simp) t ht.1;let h2:=sI ts ht.2 λo ho=>fx o (b5 _ ho);simp;lia
  let:=key os ts ht λo ho h hh=>ih o ho (aF.2.2 o ho) h hh;simp;lia
 .intro o ih aF h hh;rw[eW]at aF;let(i,k,rfl,_,hk):=tW hh;let:=ih aF k hk;rw[fo];simp;lia
def O_:∀{os ts:List _}{k:Nat}{o:Ord}{x:PV},cJ os ts=true->os[k]?=aa o->bg o x=true->cJ os (ts.take k++x::ts.drop (k+1))=true
 |[],_,_,_,_,_,h,_=>by simp at h
 |_::_,[],_,_,_,h,_,_=>by simp[cJ]at h
 | o::os,t::ts,0,o',x,h,ho,hx=>by
  simp at ho;subst ho;rw[cJ,bP]at h;simp[cJ,hx,h.2]
 | o::os,t::ts,k+1,o',x,h,ho,hx=>by
  rw[cJ,bP]at h;let:=O_ (k:=k) h.2 (by simpa using ho) hx;simp[cJ,h.1];simpa using this
def yG8:∀o,ok o->∀D T st h B,bw o+1<=D->Well st w T->T+wt (enc o)<=1000000->bg o h=true->bT B h=true->3<=B ->
  aK (a0 prog W D yk8 [.ref w,.p (enc o),.p h] st) λv ao=>(∃k,v=.p k/\bg o k=true/\bT (B+1) k=true)/\bX w (T+wt (enc o)) st ao:=by
 let hd:∀o:Ord,∀D,bw o+1<=D->∃d,D=d+2:=λo D h=>⟨D-2,by let:=gn o;lia⟩;refine fT ?_ ?_ ?_ ?_ ?_ ?_ ?_
 .intro _ D T st h B hD hw hT hh hB h3;let(d,rfl):=hd _ D hD;let(i,rfl,hi):=tz hh;simp at hB;rw[fR]at hT ⊢;simp at hT;rw[aS (fd:=ij) rfl rfl,aR];simp! only[ij,pe];refine cu rfl ?_;dsimp! only;refine bH rfl ?_;apply ar;simp![];refine aK.k1 (d7 hw ()) λr _ h0 h1 hd=>?_;simp![bfOp];refine(?_,(hd.mono (by simp<;>lia)).cut);rw[bg];split
  .exact(decide_eq_true (),by lia)
  .exact(by simp,by lia)
 .intro _ D T st h B hD hw hT hh hB h3;let(d,rfl):=hd _ D hD;rw[eY]at hT ⊢;simp at hT;rw[aS (fd:=ij) rfl rfl,aR];simp! only[ij,pe];refine cu rfl ?_;dsimp! only;refine aM rfl ?_;refine bH rfl ?_;apply ar;rcases tw hh with rfl |⟨i,rfl,hi⟩
  .simp![];refine aK.k1 (d7 hw ()) λr _ h0 h1 hd=>?_;simp![];exact(⟨by rw[bg];simpa using h0,by lia⟩,(hd.mono (by simp)).cut)
  .simp at hB;simp![];refine aK.k1 (d7 hw ()) λr _ h0 h1 hd=>?_;simp![bfOp];refine(?_,(hd.mono (by simp<;>lia)).cut);rw[bg];split
   .exact(decide_eq_true (),by lia)
   .exact(by simp,by lia)
 .intro ns aF D T st h B hD hw hT hh hB h3;rw[ok]at aF;let(d,rfl):=hd _ D hD;let(s,hs,rfl):=tV hh;rw[gj]at hT ⊢;simp at hT;rw[aS (fd:=ij) rfl rfl,aR];simp! only[ij,pe];refine cu rfl ?_;dsimp! only;refine aM rfl ?_;refine aM rfl ?_;refine aM rfl ?_;refine aM rfl ?_;refine aM rfl ?_;refine AI (aK.k0 (AH hw () () ()) λn _ kz hd=>?_);simp![];exact(⟨by rw[bg];simpa using kz,gK (aF.1.2 n kz)⟩,(hd.mono (by simp<;>lia)).cut)
 .intro ns aF D T st h B hD hw hT hh hB h3;rw[ok]at aF;let(d,rfl):=hd _ D hD;let(L,hL,rfl):=ub hh;rw[fS]at hT ⊢;simp at hT;rw[aS (fd:=ij) rfl rfl,aR];simp! only[ij,pe];refine cu rfl ?_;dsimp! only;refine aM rfl ?_;refine aM rfl ?_;refine bH rfl ?_;apply ar;simp![bfOp,aO];refine aK.k1 (d7 hw () () ()) λr aA h0 h1 hd=>?_;let(m,hm,yJ,KC):=oZ ns r h0 h1;apply ar;simp![aO];rw[qT PV.str (λn=>decide (n∈L) != decide (n=m)) PV.str (λenv=>∃v,env=[aa (.p (.af [.str s!"set",.af (ns.map .str)])),aa (.p (.af (L.map .str))),aa (.p (.int r)),v]) _ _ _ ⟨_,rfl⟩ ?g1]
  case g1 =>
   rintro n hn env ⟨v,rfl⟩;refine(_,rfl,⟨_,rfl⟩,?_,by simp![]);unfold aO at KC;simp![jZ,eV,aO,KC,hm]
  simp![bfOp];refine(⟨Qk Bt aF.1.1,?_⟩,(hd.mono (by simp<;>lia)).cut);rw[c_];intro n hn;rw[gK (aF.1.2 n hn)];simp
 .intro ns ps aF D T st h B hD hw hT hh hB h3;rw[ok]at aF;let(d,rfl):=hd _ D hD;let hl:=gk aF;let(s,hs,rfl):=tD hh;rw[kJ]at hT ⊢;simp at hT;rw[aS (fd:=ij) rfl rfl,aR];simp! only[ij,pe];refine cu rfl ?_;dsimp! only;refine aM rfl ?_;refine aM rfl ?_;refine aM rfl ?_;refine aM rfl ?_;refine aM rfl ?_;refine AI (aK.k0 (AH hw () () ()) λn _ kz hd=>?_);simp![];exact(⟨by rw[bg];simpa using kz,gK (aF.1.2 n kz)⟩,(hd.mono (by simp<;>lia)).cut)
 .intro os ih aF D T st h B hD hw hT hh hB h3;rw[eB]at aF;rw[fQ]at hD;obtain⟨d,rfl⟩:∃d,D=d+1:=⟨D-1,by lia⟩;let(ts,rfl,ht):=rq hh;let bj:=uc ht;rw[kN,c_]at hB;rw[eZ]at hT ⊢;simp at hT;rw[aS (fd:=ij) rfl rfl,aR];simp! only[ij,pe];refine cu rfl ?_;dsimp! only;refine aM rfl ?_;refine aM rfl ?_;refine aM rfl ?_;refine aM rfl ?_;refine bH rfl ?_;apply ar;simp![bfOp];refine aK.k1 (xl () hw () () ()) λr aA h0 h1 cH=>?_;apply ar;let(x,x1,x2,x3):=oZ ts r h0 h1;let(o,o1,o2,o3):=oZ os r h0 ();let XM:bg o x=true:=by
   refine O9 ht (o,x) ?_;rw[List.mem_iff_getElem?];exact(r.toNat,by rw[Bv];exact⟨o1,x1⟩)
  let hwo:wt (enc o)+2<=de (os.map enc):=wX (pH o2);let mF:=fO o2;let o3':aO (os.map enc).length r=aa r.toNat:=by rw[cy];exact o3
  let Ye:aO 2 1=aa 1:=by decide
  simp![Ye,o3,o1,x3,x1];refine aK.k1 (ih o o2 (aF.2.2 o o2) d _ _ x B () cH.2 () XM (hB x x2) h3) λk aI sD ky cf=>?_;apply ar;let e1:=qL ts r h0;let e2:=xj ts (r+1) ();rw[show(r+1).toNat=r.toNat+1 by lia]at e2;let z5:(ts.take r.toNat).length+[k].length<=SZ:=bC (by simp<;>lia);let z6:(ts.take r.toNat++[k]).length+(ts.drop (r.toNat+1)).length<=SZ:=bC (by simp<;>lia);simp only[Fq,tL,O1,OZ,O0,Ob,Oa,Bd,xn,xo,jX,List.getElem?_cons_succ,List.getElem?_cons_zero,ax.lb,ax.Wd,ax.sd,ES,xP4,xP5,sliceOp,iu,qA,yH0,e1,e2,if_pos z5,if_pos z6,yz7,FZ,OA,sat_ok];refine(⟨_,rfl,?_,?_⟩,((cH.trans cf).mono ?_).cut)
  .rw[bg,j5];exact O_ ht o1 sD
  .rw[kN,c_];intro u hu;simp only[j5,d0,bN,iB,false_or,or_false]at hu;rcases hu with hu |rfl |hu
   .exact sO () u (hB u (pI hu))
   .exact ky
   .exact sO () u (hB u (xI hu))
  .lia
 .intro o ih aF D T st h B hD hw hT hh hB h3;rw[eW]at aF;rw[fN]at hD;obtain⟨d,rfl⟩:∃d,D=d+1:=⟨D-1,by lia⟩;let u_:=gn o;let(i,k,rfl,hi,hk):=tW hh;simp at hB;rw[fo]at hT ⊢;simp at hT;rw[aS (fd:=ij) rfl rfl,aR];simp! only[ij,pe];refine cu rfl ?_;dsimp! only;refine aM rfl ?_;refine aM rfl ?_;refine aM rfl ?_;refine bH rfl ?_;apply ar;simp![aO];refine aK.k1 (xl () hw () () ()) λr aA h0 h1 cH=>?_;let(x,x1,x2,x3):=oZ [PV.int 0,PV.int 0,PV.int 1,PV.int (-1)] r h0 (by simpa using h1);obtain ⟨e,rfl,he1,C1⟩:∃e:Int,x=.int e/\-1<=e/\e<=1:=by
   simp at x2;rcases x2 with rfl |rfl |rfl
   .exact(0,rfl,by lia,by lia)
   .exact(1,rfl,by lia,by lia)
   .exact(-1,rfl,by lia,by lia)
  simp only[c6,gx,Nat.reduceAdd]at x3;let vh:(if 0<=r then if r<4 then aa r.toNat else aj else if -4<=r then aa (r+4).toNat else aj)=aa r.toNat:=by rw[if_pos h0,if_pos h1]
  simp![vh,x1,bfOp];refine aK.k1 (ih aF d _ _ k B () cH.2 () hk hB.2 h3) λk2 aI sD ky cf=>?_;simp![];refine(?_,((cH.trans cf).mono ()).cut);rw[bg];split
  .exact(by simp[sD];lia,by lia,ky)
  .exact(by simp[sD],by lia,ky)
def eU(ps:List (Nm×Nm))(ms:List Nm):List Nm:=ms.filter λn=>ms.all λo=>decide (o∈cY ps n)
def iV(ps:List (Nm×Nm))(a b:Nm):List Nm:=(cY ps a).filter λn=>decide (n∈cY ps b)
def tj(ps:List (Nm×Nm))(n o:Nm):Bool:=!(decide (o≠n)&&decide (n∈cY ps o))
def wu(ps:List (Nm×Nm))(n:Nm):Bool:=(cY ps n).all (tj ps n)
def qP(ns:List Nm)(ps:List (Nm×Nm)):Bool:=ns.all (wu ps)
def wo(ps:List (Nm×Nm))(a b:Nm):Bool:=decide (eU ps (iV ps a b)≠[])
def wm(ns:List Nm)(ps:List (Nm×Nm))(a:Nm):Bool:=ns.all (wo ps a)
def sY(ns:List Nm)(ps:List (Nm×Nm)):Bool:=ns.all (wm ns ps)
def yR3{a b:Nm}(hW:60<=W)(hl:ps.length<=50):
  a0 prog W (d+2) Sg [.p (.af (ps.map bZ)),.p (.str a),.p (.str b)] st=.ok (.p (.ai ((iV ps a b).map .str))) st:=by
 let e1:∀n st,a0 prog W (d+1) A6 [.p (.af (ps.map bZ)),.p (.str n)] st=.ok (.p (.ai ((cY ps n).map .str))) st:=λn st=>GZ hW () hl;apply br;rw[aS (fd:=GP) rfl rfl,aR];simp! only[GP,Se];apply ar;simp![e1];apply ar;simp![e1];rw[qT PV.str (λn=>decide (n∈cY ps b)) PV.str (λenv=>∃v,env=[aa (.p (.ai ((cY ps b).map .str))),v]) _ _ _ ⟨_,rfl⟩ ?g1]
 case g1 =>
  rintro x hx env ⟨v,rfl⟩;refine(_,rfl,⟨_,rfl⟩,?_,by simp![]);simp![jZ,f9,eV]
 simp![iV]
def Jd(ps:List (Nm×Nm))(ms:List Nm)(q:PV)(st:ay)(xs:List PV)(env:Env)(ao:ay):Prop :=
 ∃a b x3 x4,ms=a++b/\xs=b.map .str/\env=[aa (.p (.af (ps.map bZ))),aa (.p q),aa (.ref st.length),x3,x4]/\ao=st++[.ai ((a.filter λn=>ms.all λo=>decide (o∈cY ps n)).map .str)]
def RS{ms:List Nm}{q:PV}(hW:60<=W)(hl:ps.length<=50)(hm:ms.length<=1000)(hq:q=.af (ms.map .str)\/q=.ai (ms.map .str)):
  a0 prog W (d+2) Q3 [.p (.af (ps.map bZ)),.p q] st=.ok (.p (.ai ((eU ps ms).map .str))) st:=by
 let e1:∀n st,a0 prog W (d+1) A6 [.p (.af (ps.map bZ)),.p (.str n)] st=.ok (.p (.ai ((cY ps n).map .str))) st:=λn st=>GZ hW () hl;let KW:∀st,walkOf (.p q) st=.ok (ms.map .str,aj) st:=λst=>by rcases hq with rfl |rfl<;>rfl
 apply br;rw[aS (fd:=G8) rfl rfl,aR];simp! only[G8,QY];apply ar;simp![];apply ar;simp![KW];refine(rn (Jd ps ms q st) _ _ _ ⟨[],ms,_,_,rfl,rfl,rfl,by simp⟩ ?_).mono ?_
 .rintro x r env ao ⟨a,b,x3,x4,n_,e2,rfl,rfl⟩;obtain ⟨n,b',rfl,rfl,rfl⟩:∃n b',b=n::b'/\x=.str n/\r=b'.map .str:=by
   cases b with
   |nil=>cases e2
   |cons n b'=>cases e2;exact(n,b',rfl,rfl,rfl)
  refine(_,rfl,?_);apply ar;simp![e1];apply ar;simp![KW];rw[fm PV.str (λo=>PV.bl (decide (o∈cY ps n))) (λenv=>∃v,env=[aa (.p (.ai ((cY ps n).map .str))),v]) _ _ _ ⟨_,rfl⟩ ?g1]
  case g1 =>
   rintro o ho env ⟨v,rfl⟩;refine(_,rfl,⟨_,rfl⟩,?_);simp![jZ,f9,eV]
  simp only[sat_ok,d3];refine(.bl (ms.all λo=>decide (o∈cY ps n)),?_,?_)
  .show(j0 (ms.map λo=>PV.bl (decide (o∈cY ps n)))).map PV.bl=_;rw[o_];rfl
  let bj:(a.filter λn=>ms.all λo=>decide (o∈cY ps n)).length<=ms.length:=by
   let h1:=Bw (λn=>ms.all λo=>decide (o∈cY ps n)) a;let h2:=congrArg b7 n_;simp at h2;lia
  let e3:((a++[n]).filter λn=>ms.all λo=>decide (o∈cY ps n))=(a.filter λn=>ms.all λo=>decide (o∈cY ps n))++if(ms.all λo=>decide (o∈cY ps n))=true then[n]else[]:=by
   rw[List.filter_append,pG,List.filter_nil]
  let e4:ms=(a++[n])++b':=by rw[n_];simp
  clear n_ e2;let fin:∀ao,ao=st++[b6.ai (((a++[n]).filter λn=>ms.all λo=>decide (o∈cY ps n)).map .str)]->Jd ps ms q st (b'.map .str) [aa (.p (.af (ps.map bZ))),aa (.p q),aa (.ref st.length),aa (.p (.str n)),aa (.p (.ai ((cY ps n).map .str)))] ao:=λao h=>⟨a++[n],b',_,_,e4,rfl,rfl,h⟩;rw[e3]at fin;generalize(a.filter λn=>ms.all λo=>decide (o∈cY ps n))=F at fin bj;let ho:aW (st++[b6.ai (F.map .str)]) st.length=aa (.ai (F.map .str)):=jj;let z1:F.length<SZ:=iW ();cases hb:(ms.all λo=>decide (o∈cY ps n))with
  |true=>
   rw[hb]at fin;simp![];apply ar;simp![eX ho,qW ho,jn,z1];dsimp! only;exact(_,rfl,fin _ (by simp))
  |false=>
   rw[hb]at fin;simp![];dsimp! only;exact(_,rfl,fin _ (by simp))
 .rintro _ ao ⟨be,rfl,a,b,x3,x4,n_,e2,rfl,rfl⟩;let hb:b=[]:=by
   cases b with
   |nil=>rfl
   |cons _ _=>cases e2
  subst hb;simp at n_;subst n_;let ho:aW (st++[b6.ai ((eU ps ms).map .str)]) st.length=aa (.ai ((eU ps ms).map .str)):=jj;rw[show(ms.filter λn=>ms.all λo=>decide (o∈cY ps n))=eU ps ms from rfl];apply ar;simp![ho,ng,eX ho]
def xc1(hW:60<=W)(hl:ps.length<=50):
  a0 prog W (d+2) yk4 [.p (.af (ns.map .str)),.p (.af (ps.map bZ))] st=.ok (.p (.bl (!qP ns ps))) st:=by
 let e1:∀n st,a0 prog W (d+1) A6 [.p (.af (ps.map bZ)),.p (.str n)] st=.ok (.p (.ai ((cY ps n).map .str))) st:=λn st=>GZ hW () hl;apply br;rw[aS (fd:=FA) rfl rfl,aR];simp! only[FA,Q7];apply ar;simp![];refine AB (.p (.bl true)) PV.str (wu ps) (λenv=>∃v u,env=[aa (.p (.af (ns.map .str))),aa (.p (.af (ps.map bZ))),v,u]) ns rfl ⟨_,_,rfl⟩ ?_ ?_ ?_
 .rintro n hn env ⟨v,u,rfl⟩;refine(_,rfl,?_);apply ar;simp![e1];refine AB (.p (.bl true)) PV.str (tj ps n) (λenv=>∃u,env=[aa (.p (.af (ns.map .str))),aa (.p (.af (ps.map bZ))),aa (.p (.str n)),u]) (cY ps n) rfl ⟨_,rfl⟩ ?_ ?_ ?_
  .rintro o ho env ⟨u,rfl⟩;refine(_,rfl,?_);apply ar;by_cases h1:o=n
   .subst h1;simp![nC,tj];dsimp! only;exact(trivial,_,rfl,_,rfl)
   .let JW:¬n=o:=λq=>h1 q.symm;by_cases h2:n∈cY ps o
    .simp![nC,tj,h1,JW,e1,jZ,f9,eV,h2];apply ar;simp![]
    .simp![nC,tj,h1,JW,e1,jZ,f9,eV,h2];dsimp! only;exact(trivial,_,rfl,_,rfl)
  .intro h bz ⟨u,e⟩;subst e;dsimp! only;rw[show wu ps n=true from h,if_pos rfl];exact(trivial,_,rfl,_,_,rfl)
  .intro h;rw[show wu ps n=false from h];simp![]
 .intro h bz ⟨v,u,e⟩;subst e;apply ar;rw[show qP ns ps=true from h];simp![]
 .intro h;rw[show qP ns ps=false from h];simp![]
def yo5{a b:Nm}(hl:ps.length<=50):(iV ps a b).length<=1000:=by
 let h1:=yZ2 (ps:=ps) (n:=a) hl;let h2:(iV ps a b).length<=(cY ps a).length:=Bw _ _;lia
def yF4(hW:60<=W)(hl:ps.length<=50):
  a0 prog W (d+3) ya3 [.p (.af (ns.map .str)),.p (.af (ps.map bZ))] st=.ok (.p (.bl (sY ns ps))) st:=by
 let e1:∀a b st,a0 prog W (d+2) Sg [.p (.af (ps.map bZ)),.p (.str a),.p (.str b)] st=.ok (.p (.ai ((iV ps a b).map .str))) st:=λa b st=>yR3 hW hl;let e2:∀a b st,a0 prog W (d+2) Q3 [.p (.af (ps.map bZ)),.p (.ai ((iV ps a b).map .str))] st=.ok (.p (.ai ((eU ps (iV ps a b)).map .str))) st:=λa b st=>RS hW hl (yo5 hl) (.inr rfl);apply br;rw[aS (fd:=G4) rfl rfl,aR];simp! only[G4,QU];apply ar;simp![];refine AB (.p (.bl false)) PV.str (wm ns ps) (λenv=>∃v u,env=[aa (.p (.af (ns.map .str))),aa (.p (.af (ps.map bZ))),v,u]) ns rfl ⟨_,_,rfl⟩ ?_ ?_ ?_
 .rintro a ha env ⟨v,u,rfl⟩;refine(_,rfl,?_);apply ar;simp![];refine AB (.p (.bl false)) PV.str (wo ps a) (λenv=>∃u,env=[aa (.p (.af (ns.map .str))),aa (.p (.af (ps.map bZ))),aa (.p (.str a)),u]) ns rfl ⟨_,rfl⟩ ?_ ?_ ?_
  .rintro b hb env ⟨u,rfl⟩;refine(_,rfl,?_);let e4:bfOp .len [.ai ((eU ps (iV ps a b)).map .str)]=aa (.int ((eU ps (iV ps a b)).length:Nat)):=by
    show aa (PV.int ((iZ PV.str _).length:Nat))=_;rw[cy]
   apply ar;by_cases h1:eU ps (iV ps a b)=[]
   .simp![e1,e2,e4,h1,aH,wo];apply ar;simp![]
   .simp![e1,e2,e4,h1,aH,wo];dsimp! only;exact(trivial,_,rfl,_,rfl)
  .intro h bz ⟨u,e⟩;subst e;dsimp! only;rw[show wm ns ps a=true from h,if_pos rfl];exact(trivial,_,rfl,_,_,rfl)
  .intro h;rw[show wm ns ps a=false from h];simp![]
 .intro h bz ⟨v,u,e⟩;subst e;apply ar;rw[show sY ns ps=true from h];simp![]
 .intro h;rw[show sY ns ps=false from h];simp![]
def nh(ns:List Nm)(ps:List (Nm×Nm)):Bool:=qP ns ps&&(decide (eU ps ns≠[])&&sY ns ps)
def yH6{t:PV}(h:lJ ns t=true):∃ps:List (Nm×Nm),t=.af (ps.map bZ)/\1<=ps.length/\ps.length<=20/\∀p∈ps,p.1∈ns/\p.2∈ns:=by
 cases t with
 |af xs=>
  let h:(decide (1<=xs.length/\xs.length<=20)&&xs.all (fM ns)&&decide xs.Nodup)=true:=h;rw[bP,bP,decide_eq_true_iff]at h;obtain⟨⟨hl,ha⟩,_⟩:=h;let key:∀xs:List PV,xs.all (fM ns)=true->∃ps:List (Nm×Nm),xs=ps.map bZ/\∀p∈ps,p.1∈ns/\p.2∈ns:=by
   intro xs;induction xs with
   |nil=>intro _;exact([],rfl,λp hp=>by cases hp)
   |cons x r ih=>
    intro h;rw[ff,bP]at h;let(ps,rfl,hp):=ih h.2;let(a,b,rfl,h1,h2,_):=Pa h.1;refine((a,b)::ps,rfl,λp hq=>?_);rcases bN.mp hq with rfl |hq
    .exact(h1,h2)
    .exact hp p hq
  let(ps,rfl,hp):=key xs ha;rw[cy]at hl;exact(ps,rfl,hl.1,hl.2,hp)
 |_=>cases h
def yG7{lo hi:Int}{t:PV}(h:jf lo hi t=true):∃ns:List Nm,t=.af (ns.map .str)/\lo<=ns.length/\(ns.length:Int)<=hi/\dq ns:=by
 cases t with
 |af xs=>
  let h:(decide (lo<=xs.length/\(xs.length:Int)<=hi)&&xs.all gu&&decide xs.Nodup)=true:=h;rw[bP,bP,decide_eq_true_iff,decide_eq_true_iff]at h;obtain⟨⟨hl,ha⟩,hn⟩:=h;let key:∀xs:List PV,xs.all gu=true->∃ns:List Nm,xs=ns.map .str/\∀n∈ns,fL n=true:=by
   intro xs;induction xs with
   |nil=>intro _;exact([],rfl,λp hp=>by cases hp)
   |cons x r ih=>
    intro h;rw[ff,bP]at h;let(ns,rfl,hp):=ih h.2;let(cs,rfl,h1):=Qt h.1;refine(cs::ns,rfl,λp hq=>?_);rcases bN.mp hq with rfl |hq
    .exact h1
    .exact hp p hq
  let(ns,rfl,hp):=key xs ha;rw[cy]at hl;exact(ns,rfl,hl.1,hl.2,hn.of_map _ (λa b h e=>h (by rw[e])),hp)
 |_=>cases h
def m9(a b:PV):Bool:=jf 2 7 a&&(match a with
 | .af xs=>match eL xs with
  | some ns=>lJ ns b&&(match b with
   |.af ys=>nh ns (ys.map λy=>match y with |.af [.str p,.str q]=>(p,q)|_=>([],[]))
   |_=>false)
  |none=>false
 |_=>false)
def lT:∀ns:List Nm,eL (ns.map .str)=aa ns
 |[]=>rfl
 |n::r=>by rw[bJ,eL,lT r];rfl
def Ql(h1:jf 2 7 (.af (ns.map .str))=true)(h2:lJ ns (.af (ps.map bZ))=true):m9 (.af (ns.map .str)) (.af (ps.map bZ))=nh ns ps:=by
 unfold m9;rw[h1];dsimp only;rw[lT];dsimp only;rw[h2,j7];let:ps.map ((λy=>match y with |PV.af [.str p,.str q]=>(p,q)|_=>([],[]))∘bZ)=ps:=by
  rw[show((λy=>match y with |PV.af [.str p,.str q]=>(p,q)|_=>([],[]))∘bZ)=λp=>p from by funext p;rfl,List.map_id']
 rw[this];rfl
def xn1{a b:PV}(h:jf 2 7 a=false):m9 a b=false:=by unfold m9;rw[h];rfl
def xn2{b:PV}(h:lJ ns b=false):m9 (.af (ns.map .str)) b=false:=by
 unfold m9;dsimp only;rw[lT];dsimp only;rw[h,pD,SD]
def yt2{a b:PV}(hW:60<=W):a0 prog W (d+4) yE8 [.p a,.p b] st=.ok (.p (.bl (m9 a b))) st:=by
 let e1:=F5 (W:=W) (d:=d+1) (t:=a) (a:=2) (b:=7) (st:=st) (by decide);apply br;rw[aS (fd:=Gd) rfl rfl,aR];simp! only[Gd,OO];apply ar;cases ha:jf 2 7 a with
 |false=>
  rw[ha]at e1;simp![e1];apply ar;simp![xn1 ha]
 |true=>
  rw[ha]at e1;let(ns,rfl,n2,n7,hg):=yG7 ha;let e2:=yH5 (W:=W) (d:=d) (ns:=ns) (t:=b) (st:=st);cases hb:lJ ns b with
  |false=>
   rw[hb]at e2;simp![e1,e2];apply ar;simp![xn2 hb]
  |true=>
   rw[hb]at e2;let(ps,rfl,l1,l20,g9):=yH6 hb;let e3:=xc1 (W:=W) (d:=d+1) (ns:=ns) (ps:=ps) (st:=st) hW ();let e4:=RS (W:=W) (d:=d+1) (ps:=ps) (ms:=ns) (q:=.af (ns.map .str)) (st:=st) hW () () (.inl rfl);let e5:=yF4 (W:=W) (d:=d) (ns:=ns) (ps:=ps) (st:=st) hW ();let e6:bfOp .len [.ai ((eU ps ns).map .str)]=aa (.int ((eU ps ns).length:Nat)):=by
    show aa (PV.int ((iZ PV.str _).length:Nat))=_;rw[cy]
   rw[Ql ha hb];simp![e1,e2];apply ar;cases h1:qP ns ps with
   |false=>
    rw[h1]at e3;simp![e3,nh,h1]
   |true=>
    rw[h1]at e3;by_cases h2:eU ps ns=[]
    .simp![e3,e4,e6,nh,h1,h2]
    .let h3:0<(eU ps ns).length:=S_.mpr h2;let h4:(0:Int)<(eU ps ns).length:=by lia
     simp![e3,e4,e6,e5,nh,h1,h2,h4]
abbrev sW(f:PV->Bool):PV->Bool
 |.af ys=>decide (1<=ys.length/\ys.length<=3)&&ys.all f
 |_=>false
def ni(f:PV->Bool)(x y:PV):Bool:=if x=.str s!"chain" then jf 2 6 y else if x=.str s!"set" then jf 1 5 y else if x=.str s!"row" then sW f y else decide (x=.str s!"newer")&&f y
abbrev lM(f:PV->Bool):List PV->Bool
 |[x]=>decide (x=.str s!"num") ||decide (x=.str s!"low")
 |[x,y]=>ni f x y
 |[x,y,z]=>decide (x=.str s!"web")&&m9 y z
 |_=>false
abbrev dD:Nat->PV->Bool
 |0,_=>false
 |j+1,.af xs=>lM (dD j) xs
 |_+1,_=>false
def yA3(hW:60<=W):∀(j D:Nat),j+5<=D->∀(t:PV)(st:ay),a0 prog W D Sf [.p t,.p (.int j)] st=.ok (.p (.bl (dD j t))) st:=by
 intro j;induction j with
 |zero=>
  intro D hD t st;obtain⟨d,rfl⟩:∃d,D=d+1:=⟨D-1,by lia⟩;apply br;rw[aS (fd:=wY) rfl rfl,aR];simp! only[wY,GO];refine bH rfl ?_;apply ar;simp![dD]
 |succ j ih=>
  intro D hD t st;obtain⟨d,rfl⟩:∃d,D=d+5:=⟨D-5,by lia⟩;let ih:=ih (d+4) ();let j1:¬((j:Int)+1=0):=by lia
  let e1:=ig (W:=W) (d:=d+3) (v:=t) (a:=1) (b:=3) (st:=st);apply br;rw[aS (fd:=wY) rfl rfl,aR];simp! only[wY,GO];apply ar;cases t with
  |af xs=>
   by_cases c:1<=xs.length/\xs.length<=3
   .let c':(1:Int)<=xs.length/\(xs.length:Int)<=3:=by lia
    simp only[c',and_self,decide_true]at e1;simp![aH,j1,e1];dsimp! only;obtain ⟨x,xs,rfl⟩:∃x r,xs=x::r:=by
     cases xs with
     |nil=>simp at c
     |cons x r=>exact(x,r,rfl)
    apply ar;simp![aO];dsimp! only;rw[show dD (j+1) (.af (x::xs))=lM (dD j) (x::xs)from rfl];cases xs with
    |nil=>
     apply ar;simp![bfOp,aH];apply ar;simp![kK,lM];by_cases h1:x=.str s!"num"
     .simp![h1]
     .simp![h1]
    |cons y xs=>
     cases xs with
     |nil=>
      rw[show lM (dD j) [x,y]=ni (dD j) x y from rfl];apply ar;simp![bfOp,aH];apply ar;simp![bfOp,aH];apply ar;by_cases h1:x=.str s!"chain"
      .subst h1;simp![kK];apply ar;simp![aO,F5 (W:=W) (d:=d+2) (t:=y) (a:=2) (b:=6) (st:=st) (by decide),ni]
      simp![kK,h1];apply ar;by_cases h2:x=.str s!"set"
      .subst h2;simp![kK];apply ar;simp![aO,F5 (W:=W) (d:=d+2) (t:=y) (a:=1) (b:=5) (st:=st) (by decide),ni]
      simp![kK,h2];apply ar;by_cases h3:x=.str s!"row"
      .subst h3;let e3:=ig (W:=W) (d:=d+3) (v:=y) (a:=1) (b:=3) (st:=st);let e4:ni (dD j) (.str s!"row") y=sW (dD j) y:=rfl;rw[e4];simp![kK];apply ar;cases y with
       |af ys=>
        by_cases k:1<=ys.length/\ys.length<=3
        .let k':(1:Int)<=ys.length/\(ys.length:Int)<=3:=by lia
         simp only[k',and_self,decide_true]at e3;simp![aO,e3];rw[Bb (f:=λx=>PV.bl (dD j x)) ys _ _ (λenv=>∃v,env=[aa (.p (.int ((j:Int)+1))),v]) ⟨_,rfl⟩ ?g1]
         case g1 =>
          rintro x hx env ⟨v,rfl⟩;refine(_,rfl,⟨_,rfl⟩,?_);simp![ih]
         simp only[sat_ok,d3];let e5:bfOp .all [.ai (ys.map λx=>PV.bl (dD j x))]=aa (.bl (ys.all (dD j))):=by
          show(j0 (ys.map λx=>PV.bl (dD j x))).map PV.bl=_;rw[o_];rfl
         let e6:sW (dD j) (.af ys)=ys.all (dD j):=by
          show(decide (1<=ys.length/\ys.length<=3)&&ys.all (dD j))=_;rw[decide_eq_true k,pE]
         rw[e6];simp![e5]
        .let k':¬((1:Int)<=ys.length/\(ys.length:Int)<=3):=λq=>k ();simp only[k',decide_false]at e3;let e6:sW (dD j) (.af ys)=false:=by
          show(decide (1<=ys.length/\ys.length<=3)&&ys.all (dD j))=_;rw[decide_eq_false k,pD]
         simp![aO,e3,e6]
       |_=>simp![aO,e3,sW]
      simp![kK,h3];apply ar;by_cases h4:x=.str s!"newer"
      .subst h4;simp![kK,aO,ih,ni]
      .simp![kK,h4,ni,h1,h2,h3]
     |cons z xs=>
      let hx:xs=[]:=by
       cases xs with
       |nil=>rfl
       |cons _ _=>simp at c
      subst hx;rw[show lM (dD j) [x,y,z]=(decide (x=.str s!"web")&&m9 y z)from rfl];apply ar;simp![bfOp,aH];apply ar;simp![bfOp,aH];apply ar;let e2:=yt2 (W:=W) (d:=d) (a:=y) (b:=z) (st:=st) hW;by_cases h1:x=.str s!"web"
      .simp![kK,h1,aO,e2]
      .simp![kK,h1]
   .let e2:dD (j+1) (.af xs)=false:=by
     show lM (dD j) xs=false;unfold lM;split
     .simp at c
     .simp at c
     .simp at c
     .rfl
    let c':¬((1:Int)<=xs.length/\(xs.length:Int)<=3):=λq=>c ();simp only[c',decide_false]at e1;simp![aH,j1,e1];apply ar;simp![e2]
  |_=>
   simp![aH,j1,e1];apply ar;simp![dD]
def Qq{a b n:Nm}(hl:ps.length<=50):n∈eU ps (iV ps a b)↔Reach ps a n/\Reach ps b n/\∀m,Reach ps a m->Reach ps b m->Reach ps n m:=by
 let CV:∀x,x∈iV ps a b↔Reach ps a x/\Reach ps b x:=λx=>by
  unfold iV;rw[kS,rz hl,decide_eq_true_iff,rz hl]
 unfold eU;rw[kS,CV,c_];constructor
 .rintro⟨⟨h1,h2⟩,h3⟩;refine(h1,h2,λm q1 q2=>?_);let:=h3 m ((CV m).mpr ⟨q1,q2⟩)
  rwa [decide_eq_true_iff,rz hl]at this
 .rintro⟨h1,h2,h3⟩;refine(⟨h1,h2⟩,λm hm=>?_);let(q1,q2):=(CV m).mp hm;rw[decide_eq_true_iff,rz hl];exact h3 m q1 q2
def ym5{ns ps}(hl:ps.length<=50):qP ns ps=true↔∀n∈ns,∀o,Reach ps n o->Reach ps o n->o=n:=by
 unfold qP wu tj;simp only[c_,rz hl,Sw,Hg,decide_eq_false_iff_not,Decidable.not_not];constructor
 .intro h n hn o h1 h2;rcases h n hn o h1 with q |q
  .exact q
  .exact absurd h2 q
 .intro h n hn o h1;by_cases h2:Reach ps o n
  .exact .inl (h n hn o h1 h2)
  .exact .inr h2
structure qD(ns:List Nm)(ps:List (Nm×Nm)):Prop where
 ring:∀n∈ns,∀o,Reach ps n o->Reach ps o n->o=n
 low:∃n∈ns,∀o∈ns,Reach ps n o
 join:∀a∈ns,∀b∈ns,∃n,Reach ps a n/\Reach ps b n/\∀m,Reach ps a m->Reach ps b m->Reach ps n m
def PL{ns ps}(hl:ps.length<=50):nh ns ps=true↔qD ns ps:=by
 unfold nh;rw[bP,bP,ym5 hl,decide_eq_true_iff];let Dc:eU ps ns≠[]↔∃n∈ns,∀o∈ns,Reach ps n o:=by
  constructor
  .intro h;let(n,hn):=SY _ h;unfold eU at hn;rw[kS,c_]at hn;exact(n,hn.1,λo ho=>(rz hl).mp (of_decide_eq_true (hn.2 o ho)))
  .rintro⟨n,hn,h⟩ q;let:n∈eU ps ns:=by
    unfold eU;rw[kS,c_];exact(hn,λo ho=>decide_eq_true ((rz hl).mpr (h o ho)))
   rw[q]at this;cases this
 let Xs:sY ns ps=true↔∀a∈ns,∀b∈ns,∃n,Reach ps a n/\Reach ps b n/\∀m,Reach ps a m->Reach ps b m->Reach ps n m:=by
  unfold sY wm wo;simp only[c_,decide_eq_true_eq];constructor
  .intro h a ha b hb;let(n,hn):=SY _ (h a ha b hb);exact(n,(Qq hl).mp hn)
  .intro h a ha b hb q;let(n,hn):=h a ha b hb;let:=(Qq hl).mpr hn;rw[q]at this;cases this
 rw[Dc,Xs];exact(λh=>⟨h.1,h.2.1,h.2.2⟩,λh=>⟨h.ring,h.low,h.join⟩)
def Rq{qs:List (Nm×Nm)}(h:∀p∈ps,p∈qs){a b:Nm}(r:Reach ps a b):Reach qs a b:=by
 induction r with
 |refl=>exact .refl _
 |step _ m ih=>exact ih.step (h _ m)
def qD.same{ms:List Nm}{qs:List (Nm×Nm)}(w:qD ns ps)(h1:∀n,n∈ms↔n∈ns)(h2:∀p,p∈qs↔p∈ps):qD ms qs:=by
 let f:∀{a b},Reach qs a b->Reach ps a b:=λr=>Rq (λp hp=>(h2 p).mp hp) r;let g:∀{a b},Reach ps a b->Reach qs a b:=λr=>Rq (λp hp=>(h2 p).mpr hp) r;refine(λn hn o r1 r2=>w.ring n ((h1 n).mp hn) o (f r1) (f r2),?_,λa ha b hb=>?_)
 .let(n,hn,h):=w.low;exact(n,(h1 n).mpr hn,λo ho=>g (h o ((h1 o).mp ho)))
 .let(n,q1,q2,q3):=w.join a ((h1 a).mp ha) b ((h1 b).mp hb);exact(n,g q1,g q2,λm r1 r2=>g (q3 m (f r1) (f r2)))
def yx3(g:Nm->Nm)(sub:∀p∈ps,p.1∈ns/\p.2∈ns)(inj:∀a∈ns,∀b∈ns,g a=g b->a=b){a:Nm}(ha:a∈ns){x:Nm}:
  Reach (ps.map λp=>(g p.1,g p.2)) (g a) x↔∃y,x=g y/\y∈ns/\Reach ps a y:=by
 constructor
 .intro r;generalize e:g a=s at r;induction r with
  |refl=>exact(a,e.symm,ha,.refl _)
  |step _ m ih=>
   let(y,e1,hy,r1):=ih;let(p,hp,e2):=bK.mp m;injection e2 with e3 e4;let hs:=sub p hp;let:p.1=y:=inj _ hs.1 _ hy (by rw[e3,e1]);subst this;exact(p.2,e4.symm,hs.2,r1.step hp)
 .rintro⟨y,rfl,hy,r⟩;induction r with
  |refl=>exact .refl _
  |step _ m ih=>exact(ih (sub _ m).1).step (bK.mpr ⟨_,m,rfl⟩)
def qD.map(w:qD ns ps)(g:Nm->Nm)(sub:∀p∈ps,p.1∈ns/\p.2∈ns)(inj:∀a∈ns,∀b∈ns,g a=g b->a=b):qD (ns.map g) (ps.map λp=>(g p.1,g p.2)):=by
 let rm:=λ{a:Nm}(ha:a∈ns){x:Nm}=>yx3 g sub inj ha (x:=x);let to:∀{a b},a∈ns->b∈ns->Reach (ps.map λp=>(g p.1,g p.2)) (g a) (g b)->Reach ps a b:=λ{a b} ha hb r=>by
  let(y,e,hy,r):=(rm ha).mp r;rw[inj b hb y hy e];exact r
 refine(λn hn o r1 r2=>?_,?_,λa ha b hb=>?_)
 .let(a,ha,rfl):=bK.mp hn;let(y,rfl,hy,r):=(rm ha).mp r1;rw[w.ring a ha y r (to hy ha r2)]
 .let(n,hn,h):=w.low;refine(g n,pH hn,λo ho=>?_);let(b,hb,rfl):=bK.mp ho;exact(rm hn).mpr ⟨b,rfl,hb,h b hb⟩
 .let(a,lx,rfl):=bK.mp ha;let(b,gH,rfl):=bK.mp hb;let ha:=lx;let hb:=gH;let(n,q1,q2,q3):=w.join a ha b hb;let hn:n∈ns:=by
   cases q1 with
   |refl=>exact ha
   |step _ m=>exact(sub _ m).2
  refine(g n,(rm ha).mpr ⟨n,rfl,hn,q1⟩,(rm hb).mpr ⟨n,rfl,hn,q2⟩,λm r1 r2=>?_);let(y,rfl,hy,r):=(rm ha).mp r1;exact(rm hn).mpr ⟨y,rfl,hy,q3 y r (to hb hy r2)⟩
def vS(bh:List (Nat×Nat)):List Nm:=(cF (e_ bh)).map λi=>[i]
def zp(bh:List (Nat×Nat)):List (Nm×Nm):=bh.map λp=>([p.1],[p.2])
def xd0:∀bh∈qv,nh (vS bh) (zp bh)=true/\(bh.Nodup/\∀p∈bh,p.1≠p.2):=by decide +kernel
variable{i:Nat}
def yE1{l:List Nm}(h:i<l.length):l.getD i []∈l:=by
 rw[gQ,bY h];exact rH _
variable{j:Nat}
def t_{l:List Nm}(hn:l.Nodup)(hi:i<l.length)(hj:j<l.length)(e:l.getD i []=l.getD j []):i=j:=by
 rw[gQ,gQ,bY hi,bY hj]at e;let e:l[i]=l[j]:=e;let p:=Bz.mp hn;rcases TN i j with q |q |q
 .exact absurd e (p i j hi hj q)
 .exact q
 .exact absurd e.symm (p j i hj hi q)
def Pj{β:Type}{f:O->β}{l:List O}(h:l.Nodup)(hf:∀a∈l,∀b∈l,f a=f b->a=b):(l.map f).Nodup:=by
 unfold Bq;rw[xJ];exact SN (λ{a b} ha hb q e=>q (hf a ha b hb e)) h
def GB{lo hi:Int}(h:dq ns)(h1:lo<=ns.length)(h2:(ns.length:Int)<=hi):jf lo hi (.af (ns.map .str))=true:=by
 show(decide (lo<=(ns.map PV.str).length/\((ns.map PV.str).length:Int)<=hi)&&(ns.map PV.str).all gu&&decide (ns.map PV.str).Nodup)=true;rw[cy,decide_eq_true ⟨h1,h2⟩,decide_eq_true (Pj h.1 λa _ b _ e=>by simpa using e),uh,pE,c_];intro x hx;let(n,hn,rfl):=bK.mp hx;exact h.2 n hn
def ζ{ns ps}(h:o8 ns ps):jf 2 7 (.af (ns.map .str))=true/\lJ ns (.af (ps.map bZ))=true/\nh ns ps=true:=by
 let hm:=gk h;let(hg,bh,hr,sh,aD,h1,h2,h3,rfl):=h;let(m2,m7,r1,r9,kB):=AJ bh hr;let(w1,w2,w3):=xd0 bh hr;let mL:(cZ sh ns).Nodup:=(uf ns sh).nodup_iff.mpr hg.1;let hl:(cZ sh ns).length=e_ bh:=by rw[rA,h3]
 let bj:(gv bh sh aD ns).length=bh.length:=by simp[gv,rA]
 refine(GB hg () (),?_,?_)
 .show(decide (1<=((gv bh sh aD ns).map bZ).length/\((gv bh sh aD ns).map bZ).length<=20)&&((gv bh sh aD ns).map bZ).all (fM ns)&&decide ((gv bh sh aD ns).map bZ).Nodup)=true;let q1:((gv bh sh aD ns).map bZ).Nodup:=by
   unfold gv;rw[j7];refine Pj ((uf bh aD).nodup_iff.mpr w2) λa ha b hb e=>?_;let lx:=kB a (jm.mp ha);let gH:=kB b (jm.mp hb);simp only[Function.comp,bZ,PV.af.injEq,List.cons.injEq,PV.str.injEq,and_true]at e;let e1:=t_ mL (by rw[hl];exact lx.1) (by rw[hl];exact gH.1) e.1;let e2:=t_ mL (by rw[hl];exact lx.2) (by rw[hl];exact gH.2) e.2;exact HW e1 e2
  rw[cy,bj,decide_eq_true (),decide_eq_true q1,uh,pE,c_];intro x hx;let(p,hp,rfl):=bK.mp hx;let hs:=hm.2.2.2 p hp;let(q,hq,rfl):=bK.mp hp;let hq:=jm.mp hq;show(decide (_∈ns)&&decide (_∈ns)&&decide (_≠_))=true;rw[decide_eq_true hs.1,decide_eq_true hs.2,decide_eq_true]
  .rfl
  .intro e;exact w3 q hq (t_ mL (by rw[hl];exact(kB q hq).1) (by rw[hl];exact(kB q hq).2) e)
 .let g9:∀p∈zp bh,p.1∈vS bh/\p.2∈vS bh:=λp hp=>by
   let(q,hq,rfl):=bK.mp hp;exact(bK.mpr ⟨q.1,eF.mpr (kB q hq).1,rfl⟩,bK.mpr ⟨q.2,eF.mpr (kB q hq).2,rfl⟩)
  let vj:∀a∈vS bh,∀b∈vS bh,(cZ sh ns).getD (a.headD 0) []=(cZ sh ns).getD (b.headD 0) []->a=b:=λa ha b hb e=>by
   let(i,hi,rfl):=bK.mp ha;let(j,hj,rfl):=bK.mp hb;let:i=j:=t_ mL (by rw[hl];exact eF.mp hi) (by rw[hl];exact eF.mp hj) e;rw[this]
  let W:=((PL (by simp[zp];lia)).mp w1).map (λn=>(cZ sh ns).getD (n.headD 0) []) g9 vj;refine(PL (by rw[bj];lia)).mpr (W.same (λn=>?_) λp=>?_)
  .rw[<-jm (k:=sh)];constructor
   .intro hn;let(i,hi,e):=gR hn;refine bK.mpr ⟨[i],bK.mpr ⟨i,eF.mpr (),rfl⟩,?_⟩;show(cZ sh ns).getD i []=n;rw[gQ,bY hi,e];rfl
   .intro hn;let(a,ha,rfl):=bK.mp hn;let(i,hi,rfl):=bK.mp ha;exact yE1 (by rw[hl];exact eF.mp hi)
  .unfold gv zp;rw[j7];constructor
   .intro hp;let(q,hq,rfl):=bK.mp hp;exact bK.mpr ⟨q,jm.mp hq,rfl⟩
   .intro hp;let(q,hq,rfl):=bK.mp hp;exact bK.mpr ⟨q,jm.mpr hq,rfl⟩
def QM:∀l:List Nat,((l.map λx:Nat=>(x:Int)).sum)=((l.sum:Nat):Int)
 |[]=>rfl
 |x::r=>by rw[bJ,pJ,pJ,QM r];lia
def Qu:∀os:List Ord,(os.map num).sum=dQ os
 |[]=>by simp[dQ]
 |o::r=>by rw[bJ,pJ,Qu r,dQ]
def xf1:∀o,ok o->∀j,bw o<=j->dD j (enc o)=true:=by
 let hk:∀{o:Ord}{j:Nat},bw o<=j->∃k,j=k+1:=λ{o j} h=>⟨j-1,by let:=gn o;lia⟩;refine fT ?_ ?_ ?_ ?_ ?_ ?_ ?_
 .intro _ j h;let(k,rfl):=hk h;rw[fR];rfl
 .intro _ j h;let(k,rfl):=hk h;rw[eY];rfl
 .intro ns ho j h;let(k,rfl):=hk h;rw[ok]at ho;rw[gj];let:=GB (lo:=2) (hi:=6) ho.1 () ();simp[dD,lM,ni,this]
 .intro ns ho j h;let(k,rfl):=hk h;rw[ok]at ho;rw[fS];let:=GB (lo:=1) (hi:=5) ho.1 () ();simp[dD,lM,ni,this]
 .intro ns ps ho j h;let(k,rfl):=hk h;rw[ok]at ho;let(w1,w2,w3):=ζ ho;let:=Ql w1 w2;rw[w3]at this;rw[kJ,show(ps.map λp=>PV.af [.str p.1,.str p.2])=ps.map bZ from rfl];simp[dD,lM,this]
 .intro os ih ho j h;rw[eB]at ho;let(k,rfl):=hk h;rw[fQ]at h;rw[eZ];show sW (dD k) (.af (os.map enc))=true;show(decide (1<=(os.map enc).length/\(os.map enc).length<=3)&&(os.map enc).all (dD k))=true;rw[cy,decide_eq_true ⟨ho.1,ho.2.1⟩,pE,Hn,c_];exact λo hm=>ih o hm (ho.2.2 o hm) k (by let:=fO hm;lia)
 .intro o ih ho j h;rw[eW]at ho;let(k,rfl):=hk h;rw[fN]at h;rw[fo];exact ih ho k ()
def ym8:∀o,ok o->∀D st,bw o<=D->a0 prog W D Q4 [.p (enc o)] st=.ok (.p (.int (num o:Nat))) st:=by
 let hk:∀{o:Ord}{j:Nat},bw o<=j->∃k,j=k+1:=λ{o j} h=>⟨j-1,by let:=gn o;lia⟩;let flat:∀{s:Nm}{r:List PV}{d:Nat}{st:ay},s≠s!"row"->s≠s!"newer"->a0 prog W (d+1) Q4 [.p (.af (.str s::r))] st=.ok (.p (.int (1:Nat))) st:=by
  intro s r d st h1 h2;apply br;rw[aS (fd:=qU) rfl rfl,aR];simp! only[qU,A7];apply ar;simp![aO,aH,h1];apply ar;simp![aO,aH,h2];apply ar;simp![]
 refine fT ?_ ?_ ?_ ?_ ?_ ?_ ?_
 .intro _ D st h;let(k,rfl):=hk h;rw[fR,num];exact flat (by decide) (by decide)
 .intro _ D st h;let(k,rfl):=hk h;rw[eY,num];exact flat (by decide) (by decide)
 .intro ns _ D st h;let(k,rfl):=hk h;rw[gj,num];exact flat (by decide) (by decide)
 .intro ns _ D st h;let(k,rfl):=hk h;rw[fS,num];exact flat (by decide) (by decide)
 .intro ns ps _ D st h;let(k,rfl):=hk h;rw[kJ,num];exact flat (by decide) (by decide)
 .intro os ih ho D st h;let(k,rfl):=hk h;rw[eB]at ho;rw[fQ]at h;rw[eZ,gq];apply br;rw[aS (fd:=qU) rfl rfl,aR];simp! only[qU,A7];apply ar;simp![aO,aH];apply ar;simp![aO];rw[fm enc (λo=>PV.int (num o:Nat)) (λenv=>∃v,env=[v]) os _ _ ⟨_,rfl⟩ ?g1]
  case g1 =>
   rintro o hm env ⟨v,rfl⟩;refine(_,rfl,⟨_,rfl⟩,?_);simp![ih o hm (ho.2.2 o hm) k st (by let:=fO hm;lia)]
  let e4:bfOp .sum [.ai (os.map λo=>PV.int (num o:Nat))]=aa (.int (dQ os:Nat)):=by
   show(jo (os.map λo=>PV.int (num o:Nat))).map (λl=>PV.int l.sum)=_;rw[O8 (λo=>((num o:Nat):Int)),<-Qu,<-QM,j7];rfl
  simp only[sat_ok,d3];generalize(os.map λo=>PV.int (num o:Nat))=A1 at e4;simp![e4]
 .intro o ih ho D st h;let(k,rfl):=hk h;rw[eW]at ho;rw[fN]at h;rw[fo,ji];apply br;rw[aS (fd:=qU) rfl rfl,aR];simp! only[qU,A7];apply ar;simp![aO,aH];apply ar;simp![aO,aH];apply ar;simp![aO,ih ho k st ()]
def ym7(hW:60<=W)(hD:10<=D)(ho:ok o)(mF:bw o<=3)(hn:num o<=6):a0 prog W D yk6 [.p (enc o)] st=.ok (.p (.bl true)) st:=by
 obtain⟨d,rfl⟩:∃d,D=d+1:=⟨D-1,by lia⟩;let e1:a0 prog W d Sf [.p (enc o),.p (.int 3)] st=.ok (.p (.bl (dD 3 (enc o)))) st:=yA3 hW 3 d () _ st;rw[xf1 o ho 3 mF]at e1;let e2:=ym8 (W:=W) o ho d st ();let h7:((num o:Nat):Int)<=6:=by lia
 apply br;rw[aS (fd:=FE) rfl rfl,aR];simp! only[FE,Q9];apply ar;simp![e1,e2,h7]
def pT(p:Nm×Nm):List Nat:=p.1++60::p.2
mutual
noncomputable def oT:Ord->List Nat
 |.num=>s!"num"
 |.low=>s!"low"
 |.chain ns=>[99,104,97,105,110,40]++(aZ [44] ns++[41])
 |.set ns=>[115,101,116,40]++(aZ [44] ns++[41])
 |.eS ns ps=>[119,101,98,40]++(aZ [44] ns++59::aZ [44] (ps.map pT)++[41])
 |.row os=>[114,111,119,40]++(aZ [59] (vP os)++[41])
 |.cP o=>[110,101,119,101,114,40]++(oT o++[41])
noncomputable def vP:List Ord->List (List Nat)
 |[]=>[]
 |o::r=>oT o::vP r
end
def Ol:∀os,vP os=os.map oT
 |[]=>by rw[vP];rfl
 |o::r=>by rw[vP,Ol r];rfl
def oW{os}:oT (.row os)=[114,111,119,40]++(aZ [59] (os.map oT)++[41]):=by rw[oT,Ol]
def ue{c:Nat}:∀ls:List (List Nat),(aZ [c] ls).length<=(ls.map b7).sum+ls.length
 |[]=>ft _
 |[x]=>by simp[aZ]
 | x::y::r=>by
  let ih:=ue (c:=c) (y::r);let e:aZ [c] (x::y::r)=x++[c]++aZ [c] (y::r):=rfl;rw[e,cA,cA,bJ,pJ,c6 (as:=y::r),uq];lia
def rC{B:Nat}:∀{ls:List (List Nat)},(∀p∈ls,p.length<=B)->(ls.map b7).sum<=ls.length*B
 |[],_=>ft _
 | x::r,h=>by
  let ih:=rC (B:=B) (ls:=r) λp hp=>h p (b5 _ hp);let:=h x (by simp);rw[bJ,pJ,c6,HS];lia
def lY(h:dq ns)(h7:ns.length<=7):(ns.map b7).sum<=56/\(aZ [44] ns).length<=63:=by
 let a:=rC (B:=8) λp hp=>(j3 (h.2 p hp)).2;let b:=ue (c:=44) ns;constructor<;>lia
def A4{ns ps}(h:o8 ns ps):(∀p∈ps,p.1.length<=8/\p.2.length<=8)/\((ps.map pT).map b7).sum<=153/\(aZ [44] (ps.map pT)).length<=162:=by
 let(l9,n7,n2,g9):=gk h;let hp:∀p∈ps,p.1.length<=8/\p.2.length<=8:=λp hm=>⟨(j3 (h.1.2 _ (g9 p hm).1)).2,(j3 (h.1.2 _ (g9 p hm).2)).2⟩;let a:((ps.map pT).map b7).sum<=(ps.map pT).length*17:=rC λt ht=>by
  let(p,hm,rfl):=bK.mp ht;let:=hp p hm;unfold pT;simp;lia
 let b:=ue (c:=44) (ps.map pT);rw[cy]at a b;exact(hp,by lia,by lia)
def oU:∀o,ok o->(oT o).length<=300*num o:=by
 refine fT ?_ ?_ ?_ ?_ ?_ ?_ ?_
 .intro _;rw[oT,num];decide
 .intro _;rw[oT,num];decide
 .intro ns h;rw[ok]at h;let:=lY h.1 ();rw[oT,num];simp;lia
 .intro ns h;rw[ok]at h;let:=lY h.1 ();rw[oT,num];simp;lia
 .intro ns ps h;rw[ok]at h;let h1:=A4 h;let:=lY h.1 (gk h).2.1;rw[oT,num];simp;lia
 .intro os ih h;rw[eB]at h;let key:∀l:List Ord,(∀o∈l,o∈os)->((l.map oT).map b7).sum<=300*dQ l:=by
   intro l;induction l with
   |nil=>intro _;simp
   |cons o r DD=>
    intro hm;let a:=DD λq hq=>hm q (b5 _ hq);let b:=ih o (hm o (by simp)) (h.2.2 o (hm o (by simp)));rw[bJ,bJ,pJ,dQ];lia
  let a:=key os λ_ h=>h;let b:=ue (c:=59) (os.map oT);rw[cy]at b;rw[oW,gq,cA,cA];simp only[c6,gx];lia
 .intro o ih h;rw[eW]at h;let:=ih h;rw[oT,ji];simp;lia
def L1:List S:=nA.drop 3
variable{s t:List Nat}
def Gx(hs:s.length<=10)(ht:t.length<=1000000)(cj:s≠s!"web"):
  aK (b_ (a0 prog W d) W L1 [aa (.p v),aa (.p (.str s)),aa (.p (.str t))] st) λf s'=>f=.ret (.p (.str (s++(40::(t++[41])))))/\s'=st:=by
 let z0:1<=SZ:=bC (by decide);let z1:t.length+1<=SZ:=bC ();let z2:t.length+1+1<=SZ:=bC ();let z2':1+(t.length+1)<=SZ:=bC ();let z3:s.length+(t.length+1+1)<=SZ:=bC ();unfold L1 nA;simp only[rE];apply ar;simp![aH,cj];apply ar;simp![z0,z1,z2,z2',z3]
def ud{C:a8}{c:E}{b b2 r:List S}{env:Env}{Q:Flow->ay->Prop}(h1:az C c env st=.ok (.p (.bl false)) st)
  (h:aK (b_ C W b2 env st) λf aA=>aK (qJ C W r f aA) Q):aK (b_ C W (.ite c b b2::r) env st) Q:=by
 rw[exs_cons,aR,Aq,h1];exact h
def lS{o:Ord}:∀{os:List Ord},o∈os->num o<=dQ os
 | q::r,h=>by
  rw[dQ];rcases bN.mp h with rfl |h
  .lia
  .let:=lS h;lia
def qZ{O:Type}(f:O->List Nat):∀l:List O,eL (l.map λx=>PV.str (f x))=aa (l.map f)
 |[]=>rfl
 | a::r=>by
  show(eL (r.map λx=>PV.str (f x))).map (f a :: ·)=_;rw[qZ f r];rfl
def zQ6:∀o,ok o->num o<=1000->∀D st,bw o<=D->a0 prog W D QS [.p (enc o)] st=.ok (.p (.str (oT o))) st:=by
 let hk:∀{o:Ord}{j:Nat},bw o<=j->∃k,j=k+1:=λ{o j} h=>⟨j-1,by let:=gn o;lia⟩
 let hw:∀{ns:List Nm}{s:List Nat}{d:Nat}{st:ay},s.length<=10->s≠s!"web"->s≠s!"num"->s≠s!"low"->s≠s!"row"->s≠s!"newer"->dq ns->ns.length<=7 ->
   a0 prog W (d+1) QS [.p (.af [.str s,.af (ns.map .str)])] st=.ok (.p (.str (s++(40::(aZ [44] ns++[41]))))) st:=by
  intro ns s d st h1 h2 h3 h4 h5 h6 hg h7;let hl:=lY hg h7;let z:(ns.map b7).sum+ns.length<=SZ:=bC ();apply br;rw[aS (fd:=jh) rfl rfl,aR];simp! only[jh,nA];refine cu rfl ?_;apply ar;simp![aH,h3,h4];apply ar;simp![aH,h5];apply ar;simp![aH,h6];apply ar;simp![aO,lT,z];dsimp! only;refine aK.mono (Gx (W:=W) (d:=d) h1 () h2) ?_;rintro f s' ⟨rfl,rfl⟩;simp![]
 refine fT ?_ ?_ ?_ ?_ ?_ ?_ ?_
 .intro _ _ D st h;let(k,rfl):=hk h;rw[fR,oT];apply br;rw[aS (fd:=jh) rfl rfl,aR];simp! only[jh,nA];refine cu rfl ?_;dsimp! only;refine bH rfl ?_;apply ar;simp![]
 .intro _ _ D st h;let(k,rfl):=hk h;rw[eY,oT];apply br;rw[aS (fd:=jh) rfl rfl,aR];simp! only[jh,nA];refine cu rfl ?_;dsimp! only;refine bH rfl ?_;apply ar;simp![]
 .intro ns ho _ D st h;let(k,rfl):=hk h;rw[ok]at ho;rw[gj,oT];exact hw (by decide) (by decide) (by decide) (by decide) (by decide) (by decide) ho.1 ()
 .intro ns ho _ D st h;let(k,rfl):=hk h;rw[ok]at ho;rw[fS,oT];exact hw (by decide) (by decide) (by decide) (by decide) (by decide) (by decide) ho.1 ()
 .intro ns ps ho _ D st h;let(k,rfl):=hk h;rw[ok]at ho;let hl:=lY ho.1 (gk ho).2.1;let h9:=(gk ho).1;let(w1,w2,w3):=A4 ho;let z:(ns.map b7).sum+ns.length<=SZ:=bC (by let:=(gk ho).2.1;lia);let z0:1<=SZ:=bC (by decide);let z1:(aZ [44] ns).length+1<=SZ:=bC ();rw[ph,oT];apply br;rw[aS (fd:=jh) rfl rfl,aR];simp! only[jh,nA];refine cu rfl ?_;dsimp! only;refine aM rfl ?_;refine ud rfl ?_;refine ud rfl ?_;apply ar;simp![aO,lT,z];dsimp! only;refine bH rfl ?_;apply ar;simp![z1,aO];rw[fm bZ (λp=>PV.str (pT p)) (λenv=>∃v,env=[v]) ps _ _ ⟨_,rfl⟩ ?g1]
  case g1 =>
   rintro p hm env ⟨v,rfl⟩;let:=w1 p hm;let y:p.1.length+p.2.length+2<=SZ:=bC ();refine(_,rfl,⟨_,rfl⟩,?_);simp![bZ,eL,aZ,pT,y]
  let z4:((ps.map pT).map b7).sum+ps.length<=SZ:=bC ();let z5:(aZ [44] ns).length+1+(aZ [44] (ps.map pT)).length<=SZ:=bC ();simp only[sat_ok,d3];generalize ez:(ps.map pT)=qs at z4 z5 w2 w3;let es:eL (ps.map λp=>PV.str (pT p))=aa qs:=by rw[qZ,ez]
  generalize(ps.map λp=>PV.str (pT p))=A1 at es;let el:qs.length=ps.length:=by rw[<-ez,cy]
  simp![es,el,z4,z5];dsimp! only;let hT:(aZ [44] ns++59::aZ [44] qs).length<=300:=by simp;lia
  let eT:aZ [44] ns++59::(aZ [44] qs++[41])=(aZ [44] ns++59::aZ [44] qs)++[41]:=by simp
  rw[eT];generalize(aZ [44] ns++59::aZ [44] qs)=t at hT;let y1:t.length+1<=SZ:=bC ();let y2:t.length+1+1<=SZ:=bC ();let y3:1+(t.length+1)<=SZ:=bC ();let y4:3+(t.length+1+1)<=SZ:=bC ();let y5:t.length+1+1+3<=SZ:=bC ();apply ar;simp![z0,y1,y2,y3,y4,y5]
 .intro os ih ho hn D st h;let(k,rfl):=hk h;rw[gq]at hn;let bj:=oU (.row os) ho;rw[gq,oW]at bj;simp only[cA,c6,gx]at bj;rw[eB]at ho;rw[fQ]at h;let z:((os.map oT).map b7).sum+os.length<=SZ:=bC (by
   let a:((os.map oT).map b7).sum<=(os.map oT).length*300000:=rC λt ht=>by
    let(o,hm,rfl):=bK.mp ht;let:=oU o (ho.2.2 o hm);let:=lS hm;lia
   rw[cy]at a;lia)
  rw[eZ,oW];apply br;rw[aS (fd:=jh) rfl rfl,aR];simp! only[jh,nA];refine cu rfl ?_;dsimp! only;refine aM rfl ?_;refine bH rfl ?_;apply ar;simp![aO];rw[fm enc (λo=>PV.str (oT o)) (λenv=>∃v,env=[v]) os _ _ ⟨_,rfl⟩ ?g1]
  case g1 =>
   rintro o hm env ⟨v,rfl⟩;refine(_,rfl,⟨_,rfl⟩,?_);simp![ih o hm (ho.2.2 o hm) (by let:=lS hm;lia) k st (by let:=fO hm;lia)]
  simp only[sat_ok,d3];let es:=qZ oT os;let el:(os.map oT).length=os.length:=cy ..;generalize(os.map λo=>PV.str (oT o))=A1 at es;generalize os.map oT=qs at es el z bj;simp![es,el,z];dsimp! only;refine aK.mono (Gx (W:=W) (d:=k) (s:=s!"row") (t:=aZ [59] qs) (by decide) () (by decide)) ?_;rintro f s' ⟨rfl,rfl⟩;simp![]
 .intro o ih ho hn D st h;let(k,rfl):=hk h;rw[ji]at hn;rw[eW]at ho;rw[fN]at h;let bj:=oU o ho;let e1:=ih ho () k st ();rw[fo,oT];apply br;rw[aS (fd:=jh) rfl rfl,aR];simp! only[jh,nA];refine cu rfl ?_;dsimp! only;refine aM rfl ?_;refine ud rfl ?_;refine bH rfl ?_;apply ar;simp![aO,e1];dsimp! only;refine aK.mono (Gx (W:=W) (d:=k) (s:=s!"newer") (t:=oT o) (by decide) () (by decide)) ?_;rintro f s' ⟨rfl,rfl⟩;simp![]
def zB3:∀o,ok o->num o<=1000->∀D st,bw o<=D->a0 prog W D Si [.p (enc o)] st=.ok (.p (.str (oT o))) st:=by
 let hk:∀{o:Ord}{j:Nat},bw o<=j->∃k,j=k+1:=λ{o j} h=>⟨j-1,by let:=gn o;lia⟩;let z0:1<=SZ:=bC (by decide);let z9:∀n,n<=100->n<=SZ:=λn h=>bC ()
 let hw:∀{ns:List Nm}{s:List Nat}{d:Nat}{st:ay},s.length<=10->s≠s!"web"->s≠s!"num"->s≠s!"low"->s≠s!"row"->s≠s!"newer"->dq ns->ns.length<=7 ->
   a0 prog W (d+1) Si [.p (.af [.str s,.af (ns.map .str)])] st=.ok (.p (.str (s++(40::(aZ [44] ns++[41]))))) st:=by
  intro ns s d st h1 h2 h3 h4 h5 h6 hg h7;let hl:=lY hg h7;let z:(ns.map b7).sum+ns.length<=SZ:=bC ();let z1:s.length+1<=SZ:=bC ();let z2:s.length+1+(aZ [44] ns).length<=SZ:=bC ();let z3:s.length+((aZ [44] ns).length+1)<=SZ:=bC ();let z4:s.length+((aZ [44] ns).length+1)+1<=SZ:=bC ();apply br;rw[aS (fd:=jg) rfl rfl,aR];simp! only[jg,qR];refine aM rfl ?_;apply ar;simp![aH,aO,h5];apply ar;simp![aH,aO,h6];apply ar;simp![aO,lT,z,z1,z2,z3,z4];apply ar;simp![aH,aO,h2];apply ar;simp![z0,z1,z2,z3,z4]
 refine fT ?_ ?_ ?_ ?_ ?_ ?_ ?_
 .intro _ _ D st h;let(k,rfl):=hk h;rw[fR,oT];apply br;rw[aS (fd:=jg) rfl rfl,aR];simp! only[jg,qR];refine bH rfl ?_;apply ar;simp![aO]
 .intro _ _ D st h;let(k,rfl):=hk h;rw[eY,oT];apply br;rw[aS (fd:=jg) rfl rfl,aR];simp! only[jg,qR];refine bH rfl ?_;apply ar;simp![aO]
 .intro ns ho _ D st h;let(k,rfl):=hk h;rw[ok]at ho;rw[gj,oT];exact hw (by decide) (by decide) (by decide) (by decide) (by decide) (by decide) ho.1 ()
 .intro ns ho _ D st h;let(k,rfl):=hk h;rw[ok]at ho;rw[fS,oT];exact hw (by decide) (by decide) (by decide) (by decide) (by decide) (by decide) ho.1 ()
 .intro ns ps ho _ D st h;let(k,rfl):=hk h;rw[ok]at ho;let hl:=lY ho.1 (gk ho).2.1;let h9:=(gk ho).1;let(w1,w2,w3):=A4 ho;let z:(ns.map b7).sum+ns.length<=SZ:=bC (by let:=(gk ho).2.1;lia);rw[ph,oT];apply br;rw[aS (fd:=jg) rfl rfl,aR];simp! only[jg,qR];refine aM rfl ?_;refine aM rfl ?_;refine aM rfl ?_;apply ar;let y1:(aZ [44] ns).length+1+1+1+1<=SZ:=bC ();let y2:4+(aZ [44] ns).length<=SZ:=bC ();let y3:3+((aZ [44] ns).length+1)<=SZ:=bC ();simp![aO,lT,z,z9,y1,y2,y3];dsimp! only;refine bH rfl ?_;let hT:(aZ [44] ns).length<=300:=by lia
  generalize aZ [44] ns=t at hT;apply ar;let x1:t.length+1+1+1+1+1<=SZ:=bC ();simp![x1,aO];rw[fm bZ (λp=>PV.str (pT p)) (λenv=>∃v,env=[v]) ps _ _ ⟨_,rfl⟩ ?g1]
  case g1 =>
   rintro p hm env ⟨v,rfl⟩;let:=w1 p hm;let y:p.1.length+1<=SZ:=bC ();let y':p.1.length+1+p.2.length<=SZ:=bC ();refine(_,rfl,⟨_,rfl⟩,?_);simp![bZ,aO,pT,y,y']
  let z4:((ps.map pT).map b7).sum+ps.length<=SZ:=bC ();simp only[sat_ok,d3];generalize ez:(ps.map pT)=qs at z4 w2 w3;let es:eL (ps.map λp=>PV.str (pT p))=aa qs:=by rw[qZ,ez]
  generalize(ps.map λp=>PV.str (pT p))=A1 at es;let el:qs.length=ps.length:=by rw[<-ez,cy]
  let x2:t.length+1+1+1+1+1+(aZ [44] qs).length<=SZ:=bC ();simp![es,el,z4,x2];apply ar;let x3:t.length+(aZ [44] qs).length+6<=SZ:=bC ();let x4:t.length+((aZ [44] qs).length+1)+1+1+1+1+1<=SZ:=bC ();simp![x2,x3,x4]
 .intro os ih ho hn D st h;let(k,rfl):=hk h;rw[gq]at hn;let bj:=oU (.row os) ho;rw[gq,oW]at bj;simp only[cA,c6,gx]at bj;rw[eB]at ho;rw[fQ]at h;let z:((os.map oT).map b7).sum+os.length<=SZ:=bC (by
   let a:((os.map oT).map b7).sum<=(os.map oT).length*300000:=rC λt ht=>by
    let(o,hm,rfl):=bK.mp ht;let:=oU o (ho.2.2 o hm);let:=lS hm;lia
   rw[cy]at a;lia)
  rw[eZ,oW];apply br;rw[aS (fd:=jg) rfl rfl,aR];simp! only[jg,qR];refine aM rfl ?_;refine bH rfl ?_;apply ar;simp![aO];rw[fm enc (λo=>PV.str (oT o)) (λenv=>∃v,env=[v]) os _ _ ⟨_,rfl⟩ ?g1]
  case g1 =>
   rintro o hm env ⟨v,rfl⟩;refine(_,rfl,⟨_,rfl⟩,?_);simp![ih o hm (ho.2.2 o hm) (by let:=lS hm;lia) k st (by let:=fO hm;lia)]
  simp only[sat_ok,d3];let es:=qZ oT os;let el:(os.map oT).length=os.length:=cy ..;generalize(os.map λo=>PV.str (oT o))=A1 at es;generalize os.map oT=qs at es el z bj;generalize ej:aZ [59] qs=t at bj;let x1:t.length+1+1+1+1<=SZ:=bC ();let x2:4+t.length<=SZ:=bC ();let x3:t.length+1+1+1+1+1<=SZ:=bC ();simp![es,el,z,ej,x1,x2,x3]
 .intro o ih ho hn D st h;let(k,rfl):=hk h;rw[ji]at hn;rw[eW]at ho;rw[fN]at h;let bj:=oU o ho;let e1:=ih ho () k st ();rw[fo,oT];generalize oT o=t at e1 bj;let x1:t.length+1+1+1+1+1+1<=SZ:=bC ();let x2:6+t.length<=SZ:=bC ();let x3:t.length+1+1+1+1+1+1+1<=SZ:=bC ();apply br;rw[aS (fd:=jg) rfl rfl,aR];simp! only[jg,qR];refine aM rfl ?_;refine aM rfl ?_;refine bH rfl ?_;apply ar;simp![aO,e1,x1,x2,x3]
theorem yy9{a:List Nat}(h:c9 c a=[]):False:=by
 cases a with
 |nil=>cases h
 |cons x r=>
  rw[c9]at h;split at h
  .cases h
  .split at h<;>cases h
abbrev eQ(l:List Nat):List (List Nat)->List (List Nat)
 |p::ps=>(l++p)::ps
 |[]=>[l]
def rg{a b ls}:eQ a (eQ b ls)=eQ (a++b) ls:=by
 cases ls<;>simp[eQ]
def F3{c:Nat}{b:List Nat}:∀{a:List Nat},c∉a->c9 c (a++b)=eQ a (c9 c b)
 | [],_=>by
  cases h:c9 c b with
  |nil=>exact(yy9 h).elim
  |cons p ps=>simp[eQ,h]
 | x::r,h=>by
  simp only[bN,not_or]at h;rw[fD,c9,if_neg (λe=>h.1 e.symm),F3 h.2];cases c9 c b<;>rfl
def xf{c:Nat}:∀{ls:List (List Nat)},ls≠[]->(∀p∈ls,c∉p)->c9 c (aZ [c] ls)=ls
 |[],h,_=>absurd rfl h
 | [x],_,h=>by
  let:=F3 (b:=[]) (h x (by simp));rw[lZ]at this;rw[aZ,this];simp[c9,eQ]
 | x::y::r,_,h=>by
  let ih:=xf (c:=c) (ls:=y::r) (by simp) λp hp=>h p (b5 _ hp);let e:aZ [c] (x::y::r)=x++(c::aZ [c] (y::r)):=by
   show x++[c]++aZ [c] (y::r)=_;simp
  rw[e,F3 (h x (by simp)),c9,if_pos rfl,ih];simp[eQ]
def AG{c:Nat}{b:List Nat}:∀{a:List Nat},c∉a->jW c (a++c::b)=aa (a,b)
 |[],_=>by rw[d3,jW,if_pos rfl]
 | x::r,h=>by
  simp only[bN,not_or]at h;rw[fD,jW,if_neg (λe=>h.1 e.symm),AG h.2];rfl
abbrev par:Int->List Nat->List (List Nat)
 |_,[]=>[[]]
 |d,x::r=>if x=40 then eQ [x] (par (d+1) r)else if x=41 then eQ [x] (par (d-1) r)else if x=59/\d=0 then[]::par d r else eQ [x] (par d r)
def Pass(k:Int)(t:List Nat):Prop:=∀d r,k<=d->par d (t++r)=eQ t (par d r)
def xs7{d:Int}:∀{a:List Nat},par d a≠[]
 |[]=>by simp[par]
 | x::r=>by
  let ah:∀l ls,eQ l ls≠[]:=λl ls=>by cases ls<;>simp[eQ]
  rw[par];split
  .exact ah _ _
  split
  .exact ah _ _
  split
  .simp
  .exact ah _ _
def GA{d:Int}{a:List Nat}:eQ [] (par d a)=par d a:=by
 cases h:par d a with
 |nil=>exact absurd h xs7
 |cons p ps=>simp[eQ]
def Pr{k}:Pass k []:=λd r _=>by rw[d3,GA]
def Pass.app{k a b}(ha:Pass k a)(hb:Pass k b):Pass k (a++b):=λd r h=>by
 rw[j5,ha d _ h,hb d _ h,rg]
def Pass.mono{k k' a}(ha:Pass k a)(h:k<=k'):Pass k' a:=λd r hd=>ha d r ()
def jk{k}:∀{t:List Nat},(∀c∈t,c≠40/\c≠41/\c≠59)->Pass k t
 |[],_=>Pr
 | x::r,h=>λd r' hd=>by
  let(h1,h2,h3):=h x (by simp);let ih:=jk (k:=k) (t:=r) (λc hc=>h c (b5 _ hc)) d r' hd;rw[fD,par,if_neg h1,if_neg h2,if_neg (λe=>h3 e.1),ih,rg];rfl
def F2:Pass 1 [59]:=λd r hd=>by
 rw[fD,d3,par,if_neg (by decide),if_neg (by decide),if_neg (λe=>by lia)]
def t7(h:Pass 1 t):Pass 0 (40::(t++[41])):=λd r hd=>by
 rw[fD,par,if_pos rfl,j5,h (d+1) _ (),fD,d3,par,if_neg (by decide),if_pos rfl,rg,rg];let:d+1-1=d:=by lia
 rw[this];simp
def t6{c:Nat}{k:Int}(hc:Pass k [c]):∀{ls:List (List Nat)},(∀p∈ls,Pass k p)->Pass k (aZ [c] ls)
 |[],_=>Pr
 |[x],h=>h x (by simp)
 |x::y::r,h=>((h x (by simp)).app hc).app (t6 hc λp hp=>h p (b5 _ hp))
def Gk:∀{ls:List (List Nat)},ls≠[]->(∀p∈ls,Pass 0 p)->par 0 (aZ [59] ls)=ls
 |[],h,_=>absurd rfl h
 | [x],_,h=>by
  let:=h x (by simp) 0 [] (by decide);rw[lZ]at this;rw[aZ,this];simp[par,eQ]
 | x::y::r,_,h=>by
  let ih:=Gk (ls:=y::r) (by simp) λp hp=>h p (b5 _ hp);let e:aZ [59] (x::y::r)=x++(59::aZ [59] (y::r)):=by
   show x++[59]++aZ [59] (y::r)=_;simp
  rw[e,h x (by simp) 0 _ (by decide),par,if_neg (by decide),if_neg (by decide),if_pos ⟨rfl,rfl⟩,ih];simp[eQ]
def Fu{n:Nm}(h:fL n=true):∀c∈n,97<=c/\c<=122:=by
 unfold fL at h;simp at h;exact h.2
def qH{n:Nm}(h:fL n=true)(hc:c<97):c∉n:=λm=>by
 let:=Fu h c m;lia
def tH{n:Nm}{k}(h:fL n=true):Pass k n:=jk λc hc=>by
 let:=Fu h c hc;exact(by lia,by lia,by lia)
def wQ{k:Int}(h:c≠40/\c≠41/\c≠59):Pass k [c]:=jk λx hx=>by
 rw[jw]at hx;rw[hx];exact h
def FJ{k}(h:dq ns):Pass k (aZ [44] ns):=t6 (wQ (by decide)) λp hp=>tH (h.2 p hp)
def xa1{p:Nm×Nm}{k}(h1:fL p.1=true)(h2:fL p.2=true):Pass k (pT p):=by
 let:=(tH (k:=k) h1).app ((wQ (c:=60) (by decide)).app (tH h2));exact this
def xa0:∀o,ok o->Pass 0 (oT o):=by
 refine fT ?_ ?_ ?_ ?_ ?_ ?_ ?_
 .intro _;rw[oT];exact jk (by decide)
 .intro _;rw[oT];exact jk (by decide)
 .intro ns h;rw[ok]at h;rw[oT];exact(jk (t:=s!"chain") (by decide)).app (t7 (FJ h.1))
 .intro ns h;rw[ok]at h;rw[oT];exact(jk (t:=s!"set") (by decide)).app (t7 (FJ h.1))
 .intro ns ps h;rw[ok]at h;let(l9,n7,n2,g9):=gk h;rw[oT];refine(jk (t:=s!"web") (by decide)).app (t7 (t:=aZ [44] ns++59::aZ [44] (ps.map pT)) ((FJ h.1).app (F2.app (t6 (wQ (by decide)) λt ht=>?_))));let(p,hm,rfl):=bK.mp ht;exact xa1 (h.1.2 _ (g9 p hm).1) (h.1.2 _ (g9 p hm).2)
 .intro os ih h;rw[eB]at h;rw[oW];refine(jk (t:=s!"row") (by decide)).app (t7 (t6 F2 λt ht=>?_));let(o,hm,rfl):=bK.mp ht;exact(ih o hm (h.2.2 o hm)).mono (by decide)
 .intro o ih h;rw[eW]at h;rw[oT];exact(jk (t:=s!"newer") (by decide)).app (t7 ((ih h).mono (by decide)))
def Ru{f:List Nat}:a0 prog W (d+1) yF0 [.p (.str (f++(t++[41]))),.p (.str f)] st=.ok (.p (.str t)) st:=by
 let h1:f.isPrefixOf (f++(t++[41]))=true:=by rw[Hw];exact List.prefix_append _ _
 let h2:[41].isSuffixOf (f++(t++[41]))=true:=by
  rw[S7,<-j5];exact List.suffix_append _ _
 let hl:(f++(t++[41])).length=f.length+t.length+1:=by simp;lia
 let h3:cut (f++(t++[41])) (aa (f.length:Int)) (aa (-1))=t:=by
  let a:bo (f++(t++[41])).length 0 (aa (f.length:Int))=f.length:=by
   simp only[bo];rw[if_pos (),hl];simp;lia
  let b:bo (f++(t++[41])).length (f++(t++[41])).length (aa (-1))=f.length+t.length:=by
   simp only[bo];rw[if_neg (by decide),hl];lia
  unfold cut;rw[a,b,SU,show f.length+t.length-f.length=t.length by lia,Tw]
 generalize f++(t++[41])=T at h1 h2 h3;apply br;rw[aS (fd:=Gf) rfl rfl,aR];simp! only[Gf,OQ];apply ar;simp![h1,h2];apply ar;simp![h3,sliceOp,bfOp,cM,bQ]
abbrev wz:Nat->List Nat->List PV
 |_,[]=>[]
 |i,c::r=>.af [.int i,.str [c]]::wz (i+1) r
def RH:∀(cs:List Nat)(i:Nat),((cs.map λc=>PV.str [c]).zipIdx i).map (λp=>PV.af [.int p.2,p.1])=wz i cs
 |[],_=>rfl
 | c::r,i=>by
  rw[bJ,xQ,bJ,RH r (i+1)];rfl
def yT5{cs:List Nat}:q_ (cs.map λc=>PV.str [c])=wz 0 cs:=RH cs 0
def PJ(T:List Nat)(st:ay)(xs:List PV)(env:Env)(ao:ay):Prop :=
 ∃(i s:Nat)(d:Int)(acc:List (List Nat)) (x4 x5:Option aJ),xs=wz i (T.drop i)/\i<=T.length/\s<=i/\env=[aa (.p (.str T)),aa (.ref st.length),aa (.p (.int s)),aa (.p (.int d)),x4,x5] /\
  ao=st++[.ai (acc.map .str)]/\acc++eQ ((T.drop s).take (i-s)) (par d (T.drop i))=par 0 T/\acc.length<=i
def uX{T:List Nat}{s:Nat}(h:s<=i)(hi:i<=T.length):cut T (aa (s:Int)) (aa (i:Int))=(T.drop s).take (i-s):=by
 unfold cut;let a:∀(k d:Nat),k<=T.length->bo T.length d (aa (k:Int))=k:=λk d hk=>by
  simp only[bo];rw[if_pos ()];simp;lia
 rw[a s _ (),a i _ hi]
def F4{T:List Nat}{s x:Nat}{r:List Nat}(h:s<=i)(hc:T.drop i=x::r):(T.drop s).take (i+1-s)=(T.drop s).take (i-s)++[x]:=by
 let ou:(T.drop s)[i-s]?=aa x:=by
  rw[S4,show s+(i-s)=i by lia];let:=congrArg S6 hc;rw[Hv]at this;exact this
 rw[show i+1-s=(i-s)+1 by lia,BB,ou];rfl
def RY{T:List Nat}(hT:T.length<=1000000):a0 prog W (d+1) yE9 [.p (.str T)] st=.ok (.p (.ai ((par 0 T).map .str))) st:=by
 apply br;rw[aS (fd:=Ge) rfl rfl,aR];simp! only[Ge,OP];apply ar;simp![];apply ar;simp![];apply ar;simp![];apply ar;simp![yT5];refine(rn (PJ T st) _ _ _ ⟨0,0,0,[],aj,aj,by simp,ft _,bF _,rfl,rfl,by simp[GA],bF _⟩ ?_).mono ?_
 .rintro x r env ao ⟨i,s,dd,acc,x4,x5,e1,hi,hs,rfl,rfl,g7,yB⟩;cases hd:T.drop i with
  |nil=>rw[hd]at e1;cases e1
  |cons c r'=>
   let cH:T.drop (i+1)=r':=by rw[<-SR,hd];rfl
   let yG:i+1<=T.length:=by
    let:=congrArg b7 hd;rw[iY]at this;simp at this;lia
   rw[hd]at e1 g7;cases e1;rw[par]at g7;refine(_,rfl,?_);by_cases c1:c=40
   .subst c1;rw[if_pos rfl,rg,<-F4 hs hd]at g7;refine bH rfl ?_;apply ar;simp![];dsimp! only;exact(_,rfl,i+1,s,dd+1,acc,_,_,by rw[cH],yG,by lia,rfl,rfl,by rw[cH];exact g7,by lia)
   .rw[if_neg c1]at g7;by_cases c2:c=41
    .subst c2;rw[if_pos rfl,rg,<-F4 hs hd]at g7;refine ud rfl ?_;refine bH rfl ?_;apply ar;simp![];dsimp! only;exact(_,rfl,i+1,s,dd-1,acc,_,_,by rw[cH],yG,by lia,rfl,rfl,by rw[cH];exact g7,by lia)
    .rw[if_neg c2]at g7;by_cases c3:c=59/\dd=0
     .let(rfl,rfl):=c3;rw[if_pos ⟨rfl,rfl⟩]at g7;let ho:aW (st++[.ai (acc.map .str)]) st.length=aa (.ai (acc.map .str)):=jj;let z1:acc.length<SZ:=iW ();refine ud rfl ?_;refine ud rfl ?_;refine bH rfl ?_;apply ar;simp![eX ho,qW ho,jn,z1,sliceOp,uX hs hi];apply ar;simp![];dsimp! only;refine(_,rfl,i+1,i+1,0,acc++[(T.drop s).take (i-s)],aa (.p (.int i)),aa (.p (.str [59])),by rw[cH],yG,bF _,by simp,by simp,?_,by simp;lia);rw[cH,TX,xO,GA,j5,<-g7];simp[eQ]
     .rw[if_neg c3,rg,<-F4 hs hd]at g7;let fin:PJ T st (wz (i+1) r') [aa (.p (.str T)),aa (.ref st.length),aa (.p (.int s)),aa (.p (.int dd)),aa (.p (.int i)),aa (.p (.str [c]))] (st++[.ai (acc.map .str)]) :=
       ⟨i+1,s,dd,acc,_,_,by rw[cH],yG,by lia,rfl,rfl,by rw[cH];exact g7,by lia⟩
      apply ar;simp![aH,c1];apply ar;simp![aH,c2];apply ar;by_cases c4:c=59
      .let c5:¬dd=0:=λe=>c3 ⟨c4,e⟩;simp![aH,c4,c5];dsimp! only;subst c4;exact(_,rfl,fin)
      .simp![aH,c4];dsimp! only;exact(_,rfl,fin)
 .rintro _ ao ⟨be,rfl,i,s,dd,acc,x4,x5,e1,hi,hs,rfl,rfl,g7,yB⟩;let hd:T.drop i=[]:=by
   cases h:T.drop i with
   |nil=>rfl
   |cons c r=>rw[h]at e1;cases e1
  let ei:i=T.length:=by
   let:=List.drop_eq_nil_iff.mp hd;lia
  subst ei;let ho:aW (st++[.ai (acc.map .str)]) st.length=aa (.ai (acc.map .str)):=jj;let z1:acc.length<SZ:=iW ();rw[hd]at g7;let hp:acc++[T.drop s]=par 0 T:=by
   rw[<-g7];simp[par,eQ];rw[kU (by rw[iY];lia)]
  apply ar;simp![eX ho,qW ho,jn,z1,sliceOp,xj];apply ar;simp![<-hp]
def GQ(hn:ns≠[])(hg:∀n∈ns,44∉n)(hl:(aZ [44] ns).length<=100000):a0 prog W (d+1) zH9 [.p (.str (aZ [44] ns))] st=.ok (.p (.af (ns.map .str))) st:=by
 let z:(aZ [44] ns).length<SZ:=iW ();let e:=xf (c:=44) hn hg;apply br;rw[aS (fd:=GS) rfl rfl,aR];simp! only[GS,Sk];apply ar;simp![z,e,bfOp,cM,bQ]
def oH:List S:=jY.drop 4
def yE3{Q:Flow->ay->Prop}(hj:1<=j)(gG:40∉s)(hl:s.length+t.length<=1000000)
  (h:aK (b_ (a0 prog W (d+1)) W oH [aa (.p (.str (s++(40::(t++[41]))))),aa (.p (.int j)),aa (.p (.str s)),aa (.p (.str t)),aj] st) Q) :
  aK (b_ (a0 prog W (d+1)) W jY [aa (.p (.str (s++(40::(t++[41]))))),aa (.p (.int j)),aj,aj,aj] st) Q:=by
 let hm:40∈s++(40::(t++[41])):=by simp
 let n1:¬s++(40::(t++[41]))=s!"num":=λe=>by rw[e]at hm;revert hm;decide
 let n2:¬s++(40::(t++[41]))=s!"low":=λe=>by rw[e]at hm;revert hm;decide
 let hp:=AG (c:=40) (b:=t++[41]) gG;let hw:=Ru (W:=W) (d:=d) (f:=s++[40]) (t:=t) (st:=st);let e1:s++[40]++(t++[41])=s++(40::(t++[41])):=by simp
 rw[e1]at hw;let vk:¬j=0:=by lia
 let z:s.length+1<=SZ:=bC ();unfold oH jY at h;simp only[rE]at h;generalize s++(40::(t++[41]))=T at h n1 n2 hp hw;unfold jY;apply ar;simp![aH,vk];apply ar;simp![aH,n1,n2];apply ar;simp![hp,aO];apply ar;simp![hw,z];dsimp! only;exact h
def wG(hj:1<=j)(gG:40∉s)(hl:s.length+t.length<=1000000)
  (h:aK (b_ (a0 prog W (d+1)) W oH [aa (.p (.str (s++(40::(t++[41]))))),aa (.p (.int j)),aa (.p (.str s)),aa (.p (.str t)),aj] st) λf s'=>f=.ret (.p v)/\s'=st) :
  a0 prog W (d+2) GU [.p (.str (s++(40::(t++[41])))),.p (.int j)] st=.ok (.p v) st:=by
 apply br;rw[aS (fd:=qS) rfl rfl,aR];simp only[qS,bJ,eD,fD,d3,Nat.reduceSub,cG];refine aK.mono (yE3 hj gG hl h) ?_;rintro f s' ⟨rfl,rfl⟩;simp![]
def zD7:∀o,ok o->num o<=1000->∀(j D:Nat) st,bw o<=j->bw o+1<=D->a0 prog W D GU [.p (.str (oT o)),.p (.int j)] st=.ok (.p (enc o)) st:=by
 let hk:∀{o:Ord}{j D:Nat},bw o<=j->bw o+1<=D->(∃k,D=k+2)/\1<=j:=λ{o j D} h1 h2=>⟨⟨D-2,by let:=gn o;lia⟩,by let:=gn o;lia⟩;refine fT ?_ ?_ ?_ ?_ ?_ ?_ ?_
 .intro _ _ j D st h1 h2;obtain⟨⟨k,rfl⟩,hj⟩:=hk h1 h2;let vk:¬j=0:=by lia
  rw[fR,oT];apply br;rw[aS (fd:=qS) rfl rfl,aR];simp! only[qS,jY];apply ar;simp![aH,vk];dsimp! only;refine bH rfl ?_;apply ar;simp![]
 .intro _ _ j D st h1 h2;obtain⟨⟨k,rfl⟩,hj⟩:=hk h1 h2;let vk:¬j=0:=by lia
  rw[eY,oT];apply br;rw[aS (fd:=qS) rfl rfl,aR];simp! only[qS,jY];apply ar;simp![aH,vk];dsimp! only;refine bH rfl ?_;apply ar;simp![]
 .intro ns ho _ j D st h1 h2;obtain⟨⟨k,rfl⟩,hj⟩:=hk h1 h2;rw[ok]at ho;let hl:=lY ho.1 ();let e1:=GQ (W:=W) (d:=k) (ns:=ns) (st:=st) (λe=>by rw[e]at ho;simp at ho) (λn hn=>qH (ho.1.2 n hn) (by decide)) ();rw[gj,oT];refine wG (s:=s!"chain") hj (by decide) (by simp only[c6,gx];lia) ?_;unfold oH jY;simp only[rE];refine aM rfl ?_;refine aM rfl ?_;refine aM rfl ?_;apply ar;simp![e1]
 .intro ns ho _ j D st h1 h2;obtain⟨⟨k,rfl⟩,hj⟩:=hk h1 h2;rw[ok]at ho;let hl:=lY ho.1 ();let e1:=GQ (W:=W) (d:=k) (ns:=ns) (st:=st) (λe=>by rw[e]at ho;simp at ho) (λn hn=>qH (ho.1.2 n hn) (by decide)) ();rw[fS,oT];refine wG (s:=s!"set") hj (by decide) (by simp only[c6,gx];lia) ?_;unfold oH jY;simp only[rE];refine aM rfl ?_;refine aM rfl ?_;refine aM rfl ?_;apply ar;simp![e1]
 .intro ns ps ho _ j D st h1 h2;obtain⟨⟨k,rfl⟩,hj⟩:=hk h1 h2;rw[ok]at ho;let(l9,n7,n2,g9):=gk ho;let hl:=lY ho.1 n7;let(w1,w2,w3):=A4 ho;let jJ:ps≠[]:=λe=>by
   let(_,bh,hr,sh,aD,_,h5,_,h7):=ho;rw[e]at h7;let:=congrArg b7 h7;simp[gv,rA]at this;lia
  let cj:ns≠[]:=λe=>by rw[e]at n2;simp at n2
  let e1:=GQ (W:=W) (d:=k) (ns:=ns) (st:=st) cj (λn hn=>qH (ho.1.2 n hn) (by decide)) ();let WN:59∉aZ [44] ns:=by
   let key:∀l:List Nm,(∀n∈l,fL n=true)->59∉aZ [44] l:=by
    intro l;induction l with
    |nil=>intro _;simp[aZ]
    |cons a r ih=>
     intro h;let ha:=qH (h a (by simp)) (c:=59) (by decide);cases r with
     |nil=>exact ha
     |cons b r=>
      let ih:=ih λn hn=>h n (b5 _ hn);show 59∉a++[44]++aZ [44] (b::r);simp only[d0,jw,not_or];exact(⟨ha,by decide⟩,ih)
   exact key ns ho.1.2
  let hp:=AG (c:=59) (b:=aZ [44] (ps.map pT)) WN;let L9:∀p∈ps,∀c,c<97->c∉p.1/\c∉p.2:=λp hm c hc=>⟨qH (ho.1.2 _ (g9 p hm).1) hc,qH (ho.1.2 _ (g9 p hm).2) hc⟩;let es:=xf (c:=44) (ls:=ps.map pT) (by simpa using jJ) (λt ht=>by
   let(p,hm,rfl):=bK.mp ht;let:=L9 p hm 44 (by decide);unfold pT;simp only[d0,bN,not_or];exact(this.1,by decide,this.2))
  let z1:(aZ [44] (ps.map pT)).length<SZ:=iW ();rw[ph,oT];refine wG (s:=s!"web") (t:=aZ [44] ns++59::aZ [44] (ps.map pT)) hj (by decide) (by simp only[cA,c6,gx];lia) ?_;unfold oH jY;simp only[rE];refine bH rfl ?_;apply ar;simp![hp];apply ar;simp![e1,aO,es,z1,bfOp,cM,bQ];rw[fm (PV.str∘pT) bZ (λenv=>∃v,env=[v]) ps _ _ ⟨_,rfl⟩ ?g1]
  case g1 =>
   rintro p hm env ⟨v,rfl⟩;let:=w1 p hm;let pn:=L9 p hm 60 (by decide);let e2:=xf (c:=60) (ls:=[p.1,p.2]) (by simp) (λt ht=>by
    simp only[bN,iB,or_false]at ht;rcases ht with rfl |rfl
    .exact pn.1
    .exact pn.2)
   let e3:aZ [60] [p.1,p.2]=pT p:=by simp[aZ,pT]
   rw[e3]at e2;let y:(pT p).length<SZ:=iW (by unfold pT;simp;lia);refine(_,rfl,⟨_,rfl⟩,?_);simp![e2,y,bfOp,cM,bQ,bZ]
  simp![bfOp,cM,bQ]
 .intro os ih ho hn j D st h1 h2;obtain⟨⟨k,rfl⟩,hj⟩:=hk h1 h2;rw[gq]at hn;let bj:=oU (.row os) ho;rw[gq,oW]at bj;simp only[cA,c6,gx]at bj;let ho0:=ho;rw[eB]at ho;rw[fQ]at h1 h2;let ep:=Gk (ls:=os.map oT) (by
   intro e;rw[List.map_eq_nil_iff.mp e]at ho;simp at ho) (λt ht=>by
   let(o,hm,rfl):=bK.mp ht;exact xa0 o (ho.2.2 o hm))
  let e1:=RY (W:=W) (d:=k) (T:=aZ [59] (os.map oT)) (st:=st) ();rw[ep]at e1;rw[eZ,oW];refine wG (s:=s!"row") hj (by decide) (by simp only[c6,gx];lia) ?_;unfold oH jY;simp only[rE];refine aM rfl ?_;refine bH rfl ?_;apply ar;simp![e1];rw[fm (PV.str∘oT) enc (λenv=>∃v,env=[aa (.p (.int j)),v]) os _ _ ⟨_,rfl⟩ ?g1]
  case g1 =>
   rintro o hm env ⟨v,rfl⟩;let e2:=ih o hm (ho.2.2 o hm) (by let:=lS hm;lia) (j-1) (k+1) st (by let:=fO hm;lia) (by let:=fO hm;lia);let e3:((j-1:Nat):Int)=(j:Int)-1:=by lia
   rw[e3]at e2;refine(_,rfl,⟨_,rfl⟩,?_);simp![e2]
  simp![bfOp,cM,bQ]
 .intro o ih ho hn j D st h1 h2;obtain⟨⟨k,rfl⟩,hj⟩:=hk h1 h2;rw[ji]at hn;rw[eW]at ho;rw[fN]at h1 h2;let bj:=oU o ho;let e2:=ih ho () (j-1) (k+1) st () ();let e3:((j-1:Nat):Int)=(j:Int)-1:=by lia
  rw[e3]at e2;rw[fo,oT];refine wG (s:=s!"newer") hj (by decide) (by simp only[c6,gx];lia) ?_;unfold oH jY;simp only[rE];refine aM rfl ?_;refine aM rfl ?_;refine bH rfl ?_;apply ar;simp![e2]
def zQ8(hW:60<=W)(hD:11<=D)(ho:ok o)(mF:bw o<=3)(hn:num o<=6):a0 prog W D zU5 [.p (.str (oT o))] st=.ok (.p (enc o)) st:=by
 obtain⟨d,rfl⟩:∃d,D=d+1:=⟨D-1,by lia⟩;let e1:a0 prog W d GU [.p (.str (oT o)),.p (.int 3)] st=.ok (.p (enc o)) st:=zD7 o ho () 3 d st mF ();let e2:=ym7 (W:=W) (D:=d) (st:=st) hW () ho mF hn;apply br;rw[aS (fd:=G1) rfl rfl,aR];simp! only[G1,QQ];apply ar;simp![e1];apply ar;simp![e2];apply ar;simp![]
def dg(m:Nat):List Nat:=(BG 10 m).map Hh
def qM:fq (m:Int)=dg m:=by
 show(BF m).toList.map Hh=_;rw[Nat.toList_repr];rfl
def AA(h:m<10):dg m=[48+m]:=by
 revert m;decide
def N6(h:10<=m):dg m=dg (m/10)++[48+m%10]:=by
 let hm:m%10<10:=kY m (by decide);let t:BG 10 (m/10)++BG 10 (m%10)=BG 10 (10*(m/10)+m%10):=Nat.toDigits_append_toDigits (by decide) (by omega) hm;rw[Nat.div_add_mod]at t;rw[<-AA hm];unfold dg;rw[<-t,kQ]
def Gb:∀m:Nat,dg m≠[]/\(dg m).all jU=true/\(m≠0->(dg m).head?≠aa 48):=by
 intro m;induction m using HQ with
 |_ m ih=>
  by_cases h:m<10
  .rw[AA h];refine(by simp,?_,λh0=>?_)
   .simp[jU];lia
   .simp;lia
  .let h':10<=m:=by lia
   let(i1,i2,i3):=ih (m/10) (by omega);rw[N6 h'];refine(by simp,?_,λ_=>?_)
   .rw[List.all_append,i2];let:m%10<10:=kY m (by decide);simp[jU];lia
   .cases hd:dg (m/10)with
    |nil=>exact absurd hd i1
    |cons x r=>
     rw[hd]at i3;exact i3 (by omega)
def Fp:∀(k m:Nat),m<10 ^ (k+1)->(dg m).length<=k+1
 |0,m,h=>by rw[AA (by simpa using h)];simp
 | k+1,m,h=>by
  by_cases h1:m<10
  .rw[AA h1];simp
  .rw[N6 (),cA];let:=Fp k (m/10) (by rw[BE]at h;exact Nat.div_lt_of_lt_mul (by rw[BD];exact h));simp;lia
def xk3(m:Nat):Fs (dg m)=m:=PySem.W.KIN.val_back m
def yU3(c:Nat):decide (c∈s!"0123456789")=decide (48<=c/\c<=57):=by
 by_cases h:c<123
 .let:∀c,c<123->decide (c∈s!"0123456789")=decide (48<=c/\c<=57):=by decide
  exact this c h
 .let q1:c∉s!"0123456789":=λq=>h ((by decide:∀x∈s!"0123456789",x<123) c q);let q2:¬(48<=c/\c<=57):=λq=>h ();rw[decide_eq_false q1,decide_eq_false q2]
def ys7(c:Nat):kM [c] s!"0123456789"=decide (48<=c/\c<=57):=by rw[FW];exact yU3 c
def MX:Nat:=1000000000000000000000
def GV(h:m<MX):a0 prog W (d+1) zP3 [.p (.str (dg m))] st=.ok (.p (.int (m:Nat))) st:=by
 let(f1,f2,f3):=Gb m;let hl:(dg m).length<=21:=Fp 20 m (by unfold MX at h;exact h);let h1:1<=(dg m).length:=by
  cases hd:dg m with
  |nil=>exact absurd hd f1
  |cons _ _=>simp
 let hi:(1:Int)<=((dg m).length:Int)/\((dg m).length:Int)<=400:=⟨by lia,by lia⟩;let hz:(dg m).head?=aa 48->dg m=[48]:=λe=>by
  by_cases h0:m=0
  .subst h0;rfl
  .exact absurd e (f3 h0)
 let hr:EJ (dg m)=aa (.int (m:Nat)):=by
  unfold EJ;rw[if_pos ⟨f1,f2,by lia⟩,xk3]
 generalize dg m=cs at f1 f2 hl h1 hi hz hr;obtain ⟨c,r,rfl⟩:∃c r,cs=c::r:=by
  cases cs with
  |nil=>exact absurd rfl f1
  |cons c r=>exact(c,r,rfl)
 apply br;rw[aS (fd:=GX) rfl rfl,aR];simp! only[GX,Sn];let z1:(1:Int)<=(c::r).length:=hi.1;let z2:((c::r).length:Int)<=400:=hi.2;apply ar;let e0:walkOf (aJ.p (PV.str (c::r))) st=.ok ((c::r).map λc=>PV.str [c],aj) st:=rfl;let ef:fV (a0 prog W d) (.cmp .isIn '0' (.ag (.str s!"0123456789"))) aj (.name 0) aj ((c::r).map λc=>PV.str [c]) [aj] st []=.ok ([]++(c::r).map λc=>PV.bl (jU c)) st:=by
  refine fm (λc=>PV.str [c]) (λc=>PV.bl (jU c)) (λenv=>∃v,env=[v]) _ _ _ ⟨_,rfl⟩ ?_;rintro c hc env ⟨v,rfl⟩;refine(_,rfl,⟨_,rfl⟩,?_);simp![ys7,jU]
 generalize hC:c::r=C at *
 simp![bfOp,z1,z2];rw[e0];simp only[sat_ok];rw[ef];simp only[sat_ok,d3,o_,f2];simp![];dsimp! only;let hx:az (a0 prog W d) (.and (.cmp .eq (.ix '0' 0.0) (.ag (.str [48]))) (.cmp .ne '0' (.ag (.str [48])))) [aa (.p (.str C))] st=.ok (.p (.bl false)) st:=by
  by_cases hc:c=48
  .let:=hz (by rw[<-hC,hc];rfl);rw[this];rfl
  .rw[<-hC];simp![aH,aO,hc]
 refine aM hx ?_;apply ar;simp![bfOp,hr]
abbrev kH:PV->List Nat
 |.int i=>fq i
 |_=>[45]
abbrev oP:PV->List Nat
 |.str s=>s
 |_=>[]
abbrev zW:PV->List Nat
 |.af []=>[45]
 |.af ts=>aZ [43] ((eL ts).getD [])
 |_=>[]
abbrev zG(f:List PV->List Nat):PV->List Nat
 |.af ts=>f ts
 |_=>[]
abbrev ZH(f:PV->List Nat):List PV->List Nat
 |[.int i,h]=>fq i++58::f h
 |_=>[]
mutual
noncomputable def hT:Ord->PV->List Nat
 |.num,a=>kH a
 |.low,a=>kH a
 |.chain _,a=>oP a
 |.eS _ _,a=>oP a
 |.set _,a=>zW a
 |.row os,a=>zG (λts=>40::(aZ [59] (lu os ts)++[41])) a
 |.cP o,a=>zG (ZH (hT o)) a
noncomputable def lu:List Ord->List PV->List (List Nat)
 |[],_=>[]
 |_::_,[]=>[]
 |o::r,t::ts=>hT o t::lu r ts
end
def Qg:∀{os ts},lu os ts=(os.zip ts).map λp=>hT p.1 p.2
 |[],_=>by rw[lu];rfl
 |_::_,[]=>by rw[lu];rfl
 |o::r,t::ts=>by rw[lu,Qg (os:=r) (ts:=ts)];rfl
variable{L:List Nm}
def Ar(h:L≠[]):hT (.set ns) (.af (L.map .str))=aZ [43] L:=by
 rw[hT];cases L with
 |nil=>exact absurd rfl h
 |cons a r=>
  show aZ [43] ((eL ((a::r).map .str)).getD [])=_;rw[lT];rfl
def wM{os ts}:hT (.row os) (.af ts)=40::(aZ [59] ((os.zip ts).map λp=>hT p.1 p.2)++[41]):=by
 rw[hT,<-Qg];rfl
def ua{o i h}:hT (.cP o) (.af [.int i,h])=fq i++58::hT o h:=by rw[hT];rfl
def ip{B:Nat}{x:PV}:∀{xs:List PV},iP B xs=true->x∈xs->bT B x=true
 | y::r,h,m=>by
  rw[iP,bP]at h;rcases bN.mp m with rfl |m
  .exact h.1
  .exact ip h.2 m
variable{B:Nat}
def j2{i:Int}(h0:0<=i)(h:bT B (.int i)=true)(hB:B<MX):∃m:Nat,i=m/\m<MX/\fq i=dg m:=by
 let(m,rfl):=Bp h0;rw[bT,decide_eq_true_eq]at h;exact(m,rfl,by simp at h;lia,qM)
def wD(h:m<MX):(dg m).length<=21:=Fp 20 m (by unfold MX at h;exact h)
def GJ{k:Int}:Pass k (dg m):=jk λc hc=>by
 let:=c_.mp (Gb m).2.1 c hc;simp[jU]at this;exact(by lia,by lia,by lia)
def AM(h:dq ns)(s:L.Sublist ns):dq L:=⟨h.1.sublist s,λn hn=>h.2 n (s.subset hn)⟩
def AE(h:dq L)(h7:L.length<=7):(L.map b7).sum<=56/\(aZ [c] L).length<=63:=by
 let a:=rC (B:=8) λp hp=>(j3 (h.2 p hp)).2;let b:=ue (c:=c) L;constructor<;>lia
def tK{os ts}(h:cJ os ts=true):∀p∈os.zip ts,bg p.1 p.2=true:=O9 h
def xq(hB:B<MX):∀o,ok o->∀h,bg o h=true->bT B h=true->(hT o h).length<=100*num o/\Pass 0 (hT o h):=by
 refine fT ?_ ?_ ?_ ?_ ?_ ?_ ?_
 .intro _ h hh hv;let(i,rfl,h0):=tz hh;let(m,rfl,hm,e):=j2 h0 hv hB;rw[hT,num];show(fq (m:Int)).length<=_/\Pass 0 (fq (m:Int));rw[qM];exact(by let:=wD hm;lia,GJ)
 .intro _ h hh hv;rw[hT,num];rcases tw hh with rfl |⟨i,rfl,h0⟩
  .exact(by decide,jk (by decide))
  .let(m,rfl,hm,e):=j2 h0 hv hB;show(fq (m:Int)).length<=_/\Pass 0 (fq (m:Int));rw[qM];exact(by let:=wD hm;lia,GJ)
 .intro ns ho h hh hv;rw[ok]at ho;let(s,hs,rfl):=tV hh;rw[hT,num];exact(by let:=(j3 (ho.1.2 s hs)).2;show s.length<=_;lia,tH (ho.1.2 s hs))
 .intro ns ho h hh hv;rw[ok]at ho;let(L,hs,rfl):=ub hh;let hg:=AM ho.1 hs;let hl:=hs.length_le;by_cases e:L=[]
  .subst e;rw[num];exact(by rw[hT];decide,by rw[hT];exact jk (by decide))
  .rw[Ar e,num];exact(by let:=AE (c:=43) hg ();lia,t6 (wQ (by decide)) λp hp=>tH (hg.2 p hp))
 .intro ns ps ho h hh hv;rw[ok]at ho;let(s,hs,rfl):=tD hh;rw[hT,num];exact(by let:=(j3 (ho.1.2 s hs)).2;show s.length<=_;lia,tH (ho.1.2 s hs))
 .intro os ih ho h hh hv;rw[eB]at ho;let(ts,rfl,hs):=rq hh;let hm:=tK hs;rw[bT]at hv;let hz:∀p∈os.zip ts,(hT p.1 p.2).length<=100*num p.1/\Pass 0 (hT p.1 p.2):=λp hp =>
   ih p.1 (fE hp).1 (ho.2.2 _ (fE hp).1) p.2 (hm p hp) (ip hv (fE hp).2)
  rw[wM,gq];constructor
  .let key:∀(l:List Ord)(us:List PV),(∀p∈l.zip us,(hT p.1 p.2).length<=100*num p.1)->(((l.zip us).map λp=>hT p.1 p.2).map b7).sum<=100*dQ l:=by
    intro l;induction l with
    |nil=>intro us _;simp
    |cons o r DD=>
     intro us hu;cases us with
     |nil=>simp
     |cons u us=>
      let a:=DD us λp hp=>hu p (by simp[hp]);let b:=hu (o,u) (by simp);rw[xR,bJ,bJ,pJ,dQ];lia
   let a:=key os ts λp hp=>(hz p hp).1;let b:=ue (c:=59) ((os.zip ts).map λp=>hT p.1 p.2);let c:((os.zip ts).map λp=>hT p.1 p.2).length<=3:=by
    rw[cy,uu];lia
   simp only[c6,cA,gx];lia
  .refine t7 (t6 F2 λt ht=>?_);let(p,hp,rfl):=bK.mp ht;exact(hz p hp).2.mono (by decide)
 .intro o ih ho h hh hv;rw[eW]at ho;let(i,k,rfl,h0,hk):=tW hh;rw[bT]at hv;let(m,rfl,hm,e):=j2 h0 (ip hv (by simp)) hB;let(a,b):=ih ho k hk (ip hv (by simp));rw[ua,qM,ji];refine(?_,GJ.app ((wQ (c:=58) (by decide)).app b));rw[cA,c6];let:=wD hm;lia
def tN(h:m<MX):m.log2<1920:=by
 by_cases h0:m=0
 .subst h0;decide
 .rw[HL h0];refine gz h (df (show MX<=2 ^ 70 by decide) (HP (by decide) (by decide)))
def xf7:iU [os.map enc,ts]=(os.zip ts).map λp=>PV.af [enc p.1,p.2]:=by
 show((os.map enc).zip ts).map (λp=>PV.af [p.1,p.2])=_;rw[TC,j7];rfl
def Gn(hB:B<MX)(ho:ok (.row os))(hn:num (.row os)<=1000)(hh:bg (.row os) (.af ts)=true)(hv:bT B (.af ts)=true):
  (aZ [59] ((os.zip ts).map λp=>hT p.1 p.2)).length+2<=100000/\(((os.zip ts).map λp=>hT p.1 p.2).map b7).sum+(os.zip ts).length<=SZ:=by
 let hl:=(xq hB _ ho _ hh hv).1;rw[wM]at hl;simp only[c6,cA,gx]at hl;refine(by lia,bC ?_);rw[gq]at hn;rw[eB]at ho;let(_,e,hs):=rq hh;cases e;rw[bT]at hv;let a:(((os.zip ts).map λp=>hT p.1 p.2).map b7).sum<=((os.zip ts).map λp=>hT p.1 p.2).length*100000:=rC λt ht=>by
  let(p,hp,rfl):=bK.mp ht;let:=(xq hB p.1 (ho.2.2 _ (fE hp).1) p.2 (tK hs p hp) (ip hv (fE hp).2)).1;let:=lS (fE hp).1;lia
 let c:(os.zip ts).length<=3:=by rw[uu];lia
 rw[cy]at a;lia
def zK5(hB:B<MX):∀o,ok o->num o<=1000->∀h,bg o h=true->bT B h=true->∀D st,bw o<=D->a0 prog W D zP1 [.p (enc o),.p h] st=.ok (.p (.str (hT o h))) st:=by
 let hk:∀{o:Ord}{j:Nat},bw o<=j->∃k,j=k+1:=λ{o j} h=>⟨j-1,by let:=gn o;lia⟩;refine fT ?_ ?_ ?_ ?_ ?_ ?_ ?_
 .intro _ _ h hh hv D st hD;let(k,rfl):=hk hD;let(i,rfl,h0):=tz hh;let(m,rfl,hm,e):=j2 h0 hv hB;let lg:=tN hm;rw[fR,hT];apply br;rw[aS (fd:=gh) rfl rfl,aR];simp! only[gh,nz];refine cu rfl ?_;dsimp! only;refine bH rfl ?_;apply ar;simp![bfOp,cM,bQ,lg,kH]
 .intro _ _ h hh hv D st hD;let(k,rfl):=hk hD;rcases tw hh with rfl |⟨i,rfl,h0⟩
  .rw[eY,hT];apply br;rw[aS (fd:=gh) rfl rfl,aR];simp! only[gh,nz];refine cu rfl ?_;dsimp! only;refine bH rfl ?_;apply ar;simp![kH]
  .let(m,rfl,hm,e):=j2 h0 hv hB;let lg:=tN hm;rw[eY,hT];apply br;rw[aS (fd:=gh) rfl rfl,aR];simp! only[gh,nz];refine cu rfl ?_;dsimp! only;refine bH rfl ?_;apply ar;simp![bfOp,cM,bQ,lg,kH]
 .intro ns ho _ h hh hv D st hD;let(k,rfl):=hk hD;let(s,hs,rfl):=tV hh;rw[gj,hT];apply br;rw[aS (fd:=gh) rfl rfl,aR];simp! only[gh,nz];refine cu rfl ?_;dsimp! only;refine aM rfl ?_;refine bH rfl ?_;apply ar;simp![oP]
 .intro ns ho _ h hh hv D st hD;let(k,rfl):=hk hD;rw[ok]at ho;let(L,hs,rfl):=ub hh;let hl:=hs.length_le;let hj:=AE (c:=43) (AM ho.1 hs) ();let z:(L.map b7).sum+L.length<=SZ:=bC ();rw[fS];apply br;rw[aS (fd:=gh) rfl rfl,aR];simp! only[gh,nz];refine cu rfl ?_;dsimp! only;refine aM rfl ?_;refine aM rfl ?_;refine bH rfl ?_;apply ar;by_cases e:L=[]
  .subst e;rw[hT];simp![bfOp,cM,bQ,zW]
  .rw[Ar e];let hp:0<L.length:=S_.mpr e;simp![bfOp,cM,bQ,lT,z,hp]
 .intro ns ps ho _ h hh hv D st hD;let(k,rfl):=hk hD;let(s,hs,rfl):=tD hh;rw[ph,hT];apply br;rw[aS (fd:=gh) rfl rfl,aR];simp! only[gh,nz];refine cu rfl ?_;dsimp! only;refine aM rfl ?_;refine bH rfl ?_;apply ar;simp![oP]
 .intro os ih ho hn h hh hv D st hD;let(k,rfl):=hk hD;let(ts,rfl,hs):=rq hh;let(r1,r2):=Gn hB ho hn hh hv;rw[gq]at hn;rw[eB]at ho;rw[fQ]at hD;rw[bT]at hv;rw[eZ,wM];apply br;rw[aS (fd:=gh) rfl rfl,aR];simp! only[gh,nz];refine cu rfl ?_;dsimp! only;refine aM rfl ?_;refine aM rfl ?_;refine aM rfl ?_;refine bH rfl ?_;apply ar;simp![aO,By,xf7];rw[fm (λp:Ord×PV=>PV.af [enc p.1,p.2]) (λp=>PV.str (hT p.1 p.2)) (λenv=>∃v v',env=[v,v']) _ _ _ ⟨_,_,rfl⟩ ?g1]
  case g1 =>
   rintro p hp env ⟨v,v',rfl⟩;let hm:=(fE hp).1;refine(_,rfl,⟨_,_,rfl⟩,?_);simp![ih p.1 hm (ho.2.2 _ hm) (by let:=lS hm;lia) p.2 (tK hs p hp) (ip hv (fE hp).2) k st (by let:=fO hm;lia)]
  simp only[sat_ok,d3];let es:=qZ (λp:Ord×PV=>hT p.1 p.2) (os.zip ts);let el:((os.zip ts).map λp=>hT p.1 p.2).length=(os.zip ts).length:=cy ..;generalize((os.zip ts).map λp:Ord×PV=>PV.str (hT p.1 p.2))=A1 at es;generalize((os.zip ts).map λp:Ord×PV=>hT p.1 p.2)=qs at es el r1 r2;rw[<-el]at r2;generalize ej:aZ [59] qs=t at r1;let x1:t.length+1<=SZ:=bC ();let x2:1+t.length<=SZ:=bC ();let x3:t.length+1+1<=SZ:=bC ();simp![es,r2,ej,x1,x2,x3]
 .intro o ih ho hn h hh hv D st hD;let(k,rfl):=hk hD;let bj:=(xq hB _ ho _ hh hv).1;rw[ji]at hn bj;rw[eW]at ho;rw[fN]at hD;let(i,u,rfl,h0,hu):=tW hh;rw[bT]at hv;let(m,rfl,hm,e):=j2 h0 (ip hv (by simp)) hB;let lg:=tN hm;let e1:=ih ho () u hu (ip hv (by simp)) k st ();rw[ua,cA,c6]at bj;rw[fo,ua];generalize hT o u=t at e1 bj;let hd:=wD hm;rw[<-e]at hd;let x1:(fq (m:Int)).length+1<=SZ:=bC ();let x2:(fq (m:Int)).length+1+t.length<=SZ:=bC ();apply br;rw[aS (fd:=gh) rfl rfl,aR];simp! only[gh,nz];refine cu rfl ?_;dsimp! only;refine aM rfl ?_;refine aM rfl ?_;refine aM rfl ?_;refine aM rfl ?_;apply ar;simp![aO,bfOp,cM,bQ,lg,e1,x1,x2]
def yx2(h:os.length=ts.length):(cF ts.length).map (λk=>hT (os.getD k .num) (ts.getD k .aL))=(os.zip ts).map λp=>hT p.1 p.2:=by
 apply Bs
 .simp[h]
 .intro i h1 h2;let a:i<os.length:=by simp at h1;lia
  let b:i<ts.length:=by simp at h1;lia
  simp[a,b]
def zy5(hB:B<MX):∀o,ok o->num o<=1000->∀h,bg o h=true->bT B h=true->∀D st,bw o<=D->a0 prog W D zA8 [.p (enc o),.p h] st=.ok (.p (.str (hT o h))) st:=by
 let hk:∀{o:Ord}{j:Nat},bw o<=j->∃k,j=k+1:=λ{o j} h=>⟨j-1,by let:=gn o;lia⟩;refine fT ?_ ?_ ?_ ?_ ?_ ?_ ?_
 .intro _ _ h hh hv D st hD;let(k,rfl):=hk hD;let(i,rfl,h0):=tz hh;let(m,rfl,hm,e):=j2 h0 hv hB;let lg:=tN hm;rw[fR,hT];apply br;rw[aS (fd:=fz) rfl rfl,aR];simp! only[fz,lO];refine aM rfl ?_;refine aM rfl ?_;refine aM rfl ?_;refine aM rfl ?_;apply ar;simp![bfOp,cM,bQ,lg,kH,aO,gO,aH]
 .intro _ _ h hh hv D st hD;let(k,rfl):=hk hD;rcases tw hh with rfl |⟨i,rfl,h0⟩
  .rw[eY,hT];apply br;rw[aS (fd:=fz) rfl rfl,aR];simp! only[fz,lO];refine aM rfl ?_;refine aM rfl ?_;refine bH rfl ?_;apply ar;simp![kH]
  .let(m,rfl,hm,e):=j2 h0 hv hB;let lg:=tN hm;rw[eY,hT];apply br;rw[aS (fd:=fz) rfl rfl,aR];simp! only[fz,lO];refine aM rfl ?_;refine aM rfl ?_;refine aM rfl ?_;refine aM rfl ?_;apply ar;simp![bfOp,cM,bQ,lg,kH,aO,gO,aH]
 .intro ns ho _ h hh hv D st hD;let(k,rfl):=hk hD;let(s,hs,rfl):=tV hh;rw[gj,hT];apply br;rw[aS (fd:=fz) rfl rfl,aR];simp! only[fz,lO];refine aM rfl ?_;refine aM rfl ?_;refine aM rfl ?_;refine aM rfl ?_;apply ar;simp![oP,aO,gO,aH]
 .intro ns ho _ h hh hv D st hD;let(k,rfl):=hk hD;rw[ok]at ho;let(L,hs,rfl):=ub hh;let hl:=hs.length_le;let hj:=AE (c:=43) (AM ho.1 hs) ();let z:(L.map b7).sum+L.length<=SZ:=bC ();rw[fS];by_cases e:L=[]
  .subst e;rw[hT];apply br;rw[aS (fd:=fz) rfl rfl,aR];simp! only[fz,lO];refine aM rfl ?_;refine aM rfl ?_;refine bH rfl ?_;apply ar;simp![zW]
  .rw[Ar e];obtain ⟨a,r,rfl⟩:∃a r,L=a::r:=by
    cases L with
    |nil=>exact absurd rfl e
    |cons a r=>exact(a,r,rfl)
   apply br;rw[aS (fd:=fz) rfl rfl,aR];simp! only[fz,lO];refine aM rfl ?_;refine aM rfl ?_;apply ar;simp![eM,aH,f_];dsimp! only;refine bH rfl ?_;apply ar;let es:=lT (a::r);rw[bJ]at es;generalize PV.str a::r.map PV.str=A1 at es;generalize a::r=L at es z;simp![es,z]
 .intro ns ps ho _ h hh hv D st hD;let(k,rfl):=hk hD;let(s,hs,rfl):=tD hh;rw[ph,hT];apply br;rw[aS (fd:=fz) rfl rfl,aR];simp! only[fz,lO];refine aM rfl ?_;refine aM rfl ?_;refine aM rfl ?_;refine aM rfl ?_;apply ar;simp![oP,aO,gO,aH]
 .intro os ih ho hn h hh hv D st hD;let(k,rfl):=hk hD;let(ts,rfl,hs):=rq hh;let(r1,r2):=Gn hB ho hn hh hv;rw[gq]at hn;rw[eB]at ho;rw[fQ]at hD;rw[bT]at hv;let bj:=uc hs;rw[eZ,wM];apply br;rw[aS (fd:=fz) rfl rfl,aR];simp! only[fz,lO];refine aM rfl ?_;refine bH rfl ?_;apply ar;let zl:(ts.length:Int)<=SZ:=nK ();simp![aO,bfOp,cM,bQ,zl];rw[fm (λi:Nat=>PV.int i) (λi=>PV.str (hT (os.getD i .num) (ts.getD i .aL))) (λenv=>∃v,env=[aa (.p (.af [.str s!"row",.af (os.map enc)])),aa (.p (.af ts)),v]) _ _ _ ⟨_,rfl⟩ ?g1]
  case g1 =>
   rintro i hi env ⟨v,rfl⟩;let b:i<ts.length:=eF.mp hi;let a:i<os.length:=by lia
   let e1:(os.map enc)[i]?=aa (enc (os.getD i .num)):=by simp[a]
   let e2:ts[i]?=aa (ts.getD i .aL):=by simp[b]
   let p:(os.getD i .num,ts.getD i .aL)∈os.zip ts:=by
    refine xH.mpr ⟨i,by rw[uu];lia,?_⟩;simp[a,b]
   let hm:=(fE p).1;let e3:=ih _ hm (ho.2.2 _ hm) (by let:=lS hm;lia) _ (tK hs _ p) (ip hv (fE p).2) k st (by let:=fO hm;lia);generalize os.getD i .num=o at e1 e3;generalize ts.getD i .aL=t at e2 e3;let x1:aO os.length (i:Int)=aa i:=by unfold aO;rw[if_pos (),if_pos ()];simp
   let x2:aO ts.length (i:Int)=aa i:=by unfold aO;rw[if_pos (),if_pos ()];simp
   let x0:aO 2 1=aa 1:=rfl;refine(_,rfl,⟨_,rfl⟩,?_);let n_:(os[i]?).map enc=aa (enc o):=by rw[<-e1,eC]
   simp![x0,x1,x2,e1,n_,e2,e3]
  simp only[sat_ok,d3];let es:=qZ (λi=>hT (os.getD i .num) (ts.getD i .aL)) (cF ts.length);rw[yx2 bj]at es;let el:((os.zip ts).map λp=>hT p.1 p.2).length=(os.zip ts).length:=cy ..;generalize((cF ts.length).map λi=>PV.str (hT (os.getD i .num) (ts.getD i .aL)))=A1 at es;generalize((os.zip ts).map λp:Ord×PV=>hT p.1 p.2)=qs at es el r1 r2;rw[<-el]at r2;generalize ej:aZ [59] qs=t at r1;let x1:t.length+1<=SZ:=bC ();let x2:1+t.length<=SZ:=bC ();let x3:t.length+1+1<=SZ:=bC ();simp![es,r2,ej,x1,x2,x3]
 .intro o ih ho hn h hh hv D st hD;let(k,rfl):=hk hD;let bj:=(xq hB _ ho _ hh hv).1;rw[ji]at hn bj;rw[eW]at ho;rw[fN]at hD;let(i,u,rfl,h0,hu):=tW hh;rw[bT]at hv;let(m,rfl,hm,e):=j2 h0 (ip hv (by simp)) hB;let lg:=tN hm;let e1:=ih ho () u hu (ip hv (by simp)) k st ();rw[ua,cA,c6]at bj;rw[fo,ua];generalize hT o u=t at e1 bj;let hd:=wD hm;rw[<-e]at hd;let x1:(fq (m:Int)).length+1<=SZ:=bC ();let x2:(fq (m:Int)).length+1+t.length<=SZ:=bC ();apply br;rw[aS (fd:=fz) rfl rfl,aR];simp! only[fz,lO];refine bH rfl ?_;apply ar;simp![aO,bfOp,cM,bQ,lg,e1,x1,x2]
def NA(h:¬(48<=c/\c<=57)):c∉dg m:=λhc=>by
 let:=c_.mp (Gb m).2.1 c hc;simp[jU]at this;exact h this
def ξ:¬dg m=[45]:=λe=>NA (m:=m) (c:=45) (by decide) (by rw[e];simp)
def xO3(hg:dq L)(h:L≠[]):¬aZ [43] L=[45]:=λe=>by
 cases L with
 |nil=>exact h rfl
 |cons a r=>
  let ha:=hg.2 a (by simp);let h1:=(j3 ha).1;cases a with
  |nil=>simp at h1
  |cons c a=>
   let hc:=Fu ha c (by simp);cases r with
   |nil=>
    let e:c::a=[45]:=e;cases e;lia
   |cons b r=>
    let e:(c::a)++[43]++aZ [43] (b::r)=[45]:=e;simp at e
def zA7(hB:B<MX):∀o,ok o->num o<=1000->∀h,bg o h=true->bT B h=true->∀D st,2*bw o<=D->a0 prog W D zD3 [.p (enc o),.p (.str (hT o h))] st=.ok (.p h) st:=by
 let hk:∀{o:Ord}{j:Nat},2*bw o<=j->∃k,j=k+2:=λ{o j} h=>⟨j-2,by let:=gn o;lia⟩;refine fT ?_ ?_ ?_ ?_ ?_ ?_ ?_
 .intro _ _ h hh hv D st hD;let(k,rfl):=hk hD;let(i,rfl,h0):=tz hh;let(m,rfl,hm,e):=j2 h0 hv hB;let e1:=GV (W:=W) (d:=k) (st:=st) hm;rw[fR,hT,show kH (.int (m:Int))=dg m from qM];apply br;rw[aS (fd:=fA) rfl rfl,aR];simp! only[fA,lP];refine cu rfl ?_;dsimp! only;refine bH rfl ?_;apply ar;simp![e1]
 .intro _ _ h hh hv D st hD;let(k,rfl):=hk hD;rcases tw hh with rfl |⟨i,rfl,h0⟩
  .rw[eY,hT];apply br;rw[aS (fd:=fA) rfl rfl,aR];simp! only[fA,lP];refine cu rfl ?_;dsimp! only;refine aM rfl ?_;refine bH rfl ?_;apply ar;simp![kH,aH]
  .let(m,rfl,hm,e):=j2 h0 hv hB;let e1:=GV (W:=W) (d:=k) (st:=st) hm;let hn:=ξ (m:=m);rw[eY,hT,show kH (.int (m:Int))=dg m from qM];apply br;rw[aS (fd:=fA) rfl rfl,aR];simp! only[fA,lP];refine cu rfl ?_;dsimp! only;refine aM rfl ?_;refine bH rfl ?_;apply ar;simp![aH,hn,e1]
 .intro ns ho _ h hh hv D st hD;let(k,rfl):=hk hD;let(s,hs,rfl):=tV hh;rw[gj,hT];apply br;rw[aS (fd:=fA) rfl rfl,aR];simp! only[fA,lP];refine cu rfl ?_;dsimp! only;refine aM rfl ?_;refine aM rfl ?_;refine bH rfl ?_;apply ar;simp![oP]
 .intro ns ho _ h hh hv D st hD;let(k,rfl):=hk hD;rw[ok]at ho;let(L,hs,rfl):=ub hh;let hl:=hs.length_le;let hg:=AM ho.1 hs;let hj:=AE (c:=43) hg ();rw[fS];by_cases e:L=[]
  .subst e;rw[hT];apply br;rw[aS (fd:=fA) rfl rfl,aR];simp! only[fA,lP];refine cu rfl ?_;dsimp! only;refine aM rfl ?_;refine aM rfl ?_;refine aM rfl ?_;refine bH rfl ?_;apply ar;simp![zW,aH]
  .rw[Ar e];let hn:=xO3 hg e;let es:=xf (c:=43) e λn hn=>qH (hg.2 n hn) (by decide);let z:(aZ [43] L).length<SZ:=iW ();apply br;rw[aS (fd:=fA) rfl rfl,aR];simp! only[fA,lP];refine cu rfl ?_;dsimp! only;refine aM rfl ?_;refine aM rfl ?_;refine aM rfl ?_;refine bH rfl ?_;apply ar;simp![aH,hn,es,z,bfOp,cM,bQ]
 .intro ns ps ho _ h hh hv D st hD;let(k,rfl):=hk hD;let(s,hs,rfl):=tD hh;rw[ph,hT];apply br;rw[aS (fd:=fA) rfl rfl,aR];simp! only[fA,lP];refine cu rfl ?_;dsimp! only;refine aM rfl ?_;refine aM rfl ?_;refine bH rfl ?_;apply ar;simp![oP]
 .intro os ih ho hn h hh hv D st hD;let(k,rfl):=hk hD;let(ts,rfl,hs):=rq hh;let(r1,r2):=Gn hB ho hn hh hv;let hf:=xq hB;rw[gq]at hn;rw[eB]at ho;rw[fQ]at hD;rw[bT]at hv;let bj:=uc hs;let ep:=Gk (ls:=(os.zip ts).map λp=>hT p.1 p.2) (by
   intro e;let:=congrArg b7 e;rw[cy,uu,gx]at this;lia) (λt ht=>by
   let(p,hp,rfl):=bK.mp ht;exact(hf p.1 (ho.2.2 _ (fE hp).1) p.2 (tK hs p hp) (ip hv (fE hp).2)).2)
  let e1:=RY (W:=W) (d:=k) (T:=aZ [59] ((os.zip ts).map λp=>hT p.1 p.2)) (st:=st) ();rw[ep,j7]at e1;let e0:=Ru (W:=W) (d:=k) (f:=[40]) (t:=aZ [59] ((os.zip ts).map λp=>hT p.1 p.2)) (st:=st);rw[fD,d3]at e0;let e2:a0 prog W (k+1) zP4 [.p (.af (os.map enc)),.p (.ai ((os.zip ts).map (PV.str∘λp=>hT p.1 p.2)))] st=.ok (.p (.af ts)) st:=by
   let zl:(os.zip ts).length=os.length:=by rw[uu];lia
   apply br;rw[aS (fd:=GY) rfl rfl,aR];simp! only[GY,So];apply ar;simp![bfOp,cM,bQ,zl,aH,bj];apply ar;let ez:iU [os.map enc,(os.zip ts).map (PV.str∘λp=>hT p.1 p.2)]=(os.zip ts).map λp=>PV.af [enc p.1,.str (hT p.1 p.2)]:=by
    show((os.map enc).zip ((os.zip ts).map (PV.str∘λp=>hT p.1 p.2))).map (λp=>PV.af [p.1,p.2])=_;apply Bs
    .simp[bj]
    .intro i h1 h2;simp
   simp![By,ez];rw[fm (λp:Ord×PV=>PV.af [enc p.1,.str (hT p.1 p.2)]) (λp=>p.2) (λenv=>∃v v',env=[v,v']) _ _ _ ⟨_,_,rfl⟩ ?g1]
   case g1 =>
    rintro p hp env ⟨v,v',rfl⟩;let hm:=(fE hp).1;refine(_,rfl,⟨_,_,rfl⟩,?_);simp![ih p.1 hm (ho.2.2 _ hm) (by let:=lS hm;lia) p.2 (tK hs p hp) (ip hv (fE hp).2) k st (by let:=fO hm;lia)]
   let e9:(os.zip ts).map (λp=>p.2)=ts:=List.map_snd_zip ();simp![bfOp,cM,bQ,e9]
  rw[eZ,wM];apply br;rw[aS (fd:=fA) rfl rfl,aR];simp! only[fA,lP];refine cu rfl ?_;dsimp! only;refine aM rfl ?_;refine aM rfl ?_;refine aM rfl ?_;refine aM rfl ?_;refine bH rfl ?_;apply ar;simp![aO,e0,e1,e2]
 .intro o ih ho hn h hh hv D st hD;let(k,rfl):=hk hD;rw[ji]at hn;rw[eW]at ho;rw[fN]at hD;let(i,u,rfl,h0,hu):=tW hh;rw[bT]at hv;let(m,rfl,hm,e):=j2 h0 (ip hv (by simp)) hB;let e1:=ih ho () u hu (ip hv (by simp)) (k+1) st ();let e2:=GV (W:=W) (d:=k) (st:=st) hm;let hp:=AG (c:=58) (b:=hT o u) (NA (m:=m) (by decide));rw[fo,ua,qM];apply br;rw[aS (fd:=fA) rfl rfl,aR];simp! only[fA,lP];refine cu rfl ?_;dsimp! only;refine aM rfl ?_;refine aM rfl ?_;refine aM rfl ?_;refine aM rfl ?_;refine aM rfl ?_;apply ar;simp![hp];apply ar;simp![aO,e1,e2]
def zK8(hB:B<MX){h:PV}(ho:ok o)(hn:num o<=1000)(hh:bg o h=true)(hv:bT B h=true)(hD:2*bw o+2<=D):a0 prog W D zP2 [.p (enc o),.p (.str (hT o h))] st=.ok (.p h) st:=by
 obtain⟨d,rfl⟩:∃d,D=d+1:=⟨D-1,by lia⟩;let e1:=zA7 (W:=W) hB o ho hn h hh hv d st ();let e2:=zU7 (W:=W) o d () h st;rw[hh]at e2;apply br;rw[aS (fd:=GW) rfl rfl,aR];simp! only[GW,Sm];apply ar;simp![e1];apply ar;simp![e2];apply ar;simp![]
def yu5:∀o,ok o->bg o (ai o)=true/\bT 0 (ai o)=true:=by
 refine fT ?_ ?_ ?_ ?_ ?_ ?_ ?_
 .intro _;exact(by simp[ai,bg],by simp[ai])
 .intro _;exact(by simp[ai,bg],by simp[ai])
 .intro ns aF;rw[ok]at aF;cases ns with
  |nil=>simp at aF
  |cons n r=>exact(by simp[ai,bg],by simpa[ai]using gK (aF.1.2 n (by simp)))
 .intro ns aF;exact(by simp[ai,bg],by simp[ai])
 .intro ns ps aF;rw[ok]at aF;let(c0,hc):=R8 aF;let(fj,fJ):=hc.wl aF.1.1;exact(by simp[ai,bg,fj,hc.mem],by simpa[ai,fj]using gK (aF.1.2 c0 hc.mem))
 .intro os ih aF;rw[eB]at aF;let key:∀qs:List Ord,(∀o∈qs,o∈os)->cJ qs (qs.map ai)=true/\(qs.map ai).all (bT 0)=true:=by
   intro qs;induction qs with
   |nil=>intro _;exact(by simp[cJ],rfl)
   |cons o r sI=>
    intro hq;let(a1,a2):=ih o (hq o (by simp)) (aF.2.2 o (hq o (by simp)));let(b1,b2):=sI λx hx=>hq x (b5 _ hx);exact(by simp[cJ,a1,b1],by simp only[bJ,ff,a2,b2];rfl)
  let(b1,b2):=key os λo ho=>ho;exact(by rw[ai,AX,bg];exact b1,by rw[ai,AX,kN];exact b2)
 .intro o ih aF;rw[eW]at aF;let(a1,a2):=ih aF;exact(by simp[ai,bg,a1],by simp[ai,a2])
def O5{C:a8}{W n:Nat}{body:List S}{tgt:Tg}{we:List PV}{st:ay}(hv:view st (.ref n)=aa (.ai we))(J:List PV->Env->Prop):∀(xs:List PV)(env:Env),J xs env ->
  (∀x r env,J (x::r) env->∃be,iq tgt (.p x) st env=aa be/\aK (b_ C W body be st) (λf aI=>aI=st/\∃bz,f=.next bz/\J r bz)) ->
  aK (lK C W body tgt (aa (n,we)) xs env st) (λf ao=>ao=st/\∃be,f=.next be/\J [] be)
 | [],env,h,_=>by
  let hs:iA st (aa (n,we))=true:=by simp[iA,hv]
  show aK (if iA st (aa (n,we))then ax.ok (Flow.next env) st else .stuck) _
  rw[if_pos hs];exact(rfl,env,rfl,h)
 | x::r,env,h,step=>by
  let hs:iA st (aa (n,we))=true:=by simp[iA,hv]
  let(be,h1,hx):=step x r env h;let(_,aI,h2,rfl,bz,rfl,h3):=nI.mp hx;let ih:=O5 (C:=C) (W:=W) (body:=body) (tgt:=tgt) hv J r bz h3 step;unfold lK at ih ⊢;rw[kL];simp only[hs,if_true,h1,h2,ax.lb];exact ih
def HB(o:Ord)(h:PV):Prop:=bg o h=true/\bT (iE+1) h=true
def Qp:List S:=match zZ with
 |[.for _ _ b,_]=>b
 |_=>[]
def J1(ns:List Int)(k w n:Nat)(o:Ord)(K:List Nat)(xs:List PV)(env:Env):Prop :=
 ∃x7 x8 x9,env=[aa (.p (.ai (ns.map .int))),aa (.p (.int k)),aa (.ref w),aa (.p (enc o)),aa (.p (.str K)),aa (.p (.str (oT o))),aa (.ref n),x7,x8,x9]/\∀x∈xs,HB o x
def K3(w:Nat)(o:Ord)(T0:Int)(n:Nat)(xs:List PV)(env:Env)(st:ay)(acc:List PV):Prop :=
 ∃v,env=[aa (.ref w),aa (.p (enc o)),v]/\acc.length+xs.length=n/\Well st w (T0+acc.length*32000)/\∀h∈acc,bg o h=true/\bT iE h=true
def yB5(hW:60<=W)(ns:List Int)(sr:ns.length<=63)(k:Nat)(hk:k<1000)(st:ay)(x2 x3 x4 x5 x6 x7 x8 x9:Option aJ):
  aK (b_ (a0 prog W (d+32)) W Qp [aa (.p (.ai (ns.map .int))),aa (.p (.int k)),x2,x3,x4,x5,x6,x7,x8,x9] st)
   λf _=>∃y2 y3 y4 y5 y6 y7 y8 y9,f=.next [aa (.p (.ai (ns.map .int))),aa (.p (.int k)),y2,y3,y4,y5,y6,y7,y8,y9]:=by
 simp only[Qp,zZ];let(c,l,hl,KU):=xf0 W (d+31) ns k st sr () ();apply ar;simp![KU];dsimp! only;let hw:Well (st++[kI c l 0]) st.length 0:=⟨c,l,0,jj,hl,by lia,by lia⟩;generalize st++[kI c l 0]=st0 at hw;generalize st.length=w at hw;apply ar;simp![];refine aK.k1 (yw1 () hw ()) λo aA ho Xf cH=>?_;let(mF,vq):=Xf;dsimp! only;let fj:Well aA w 100:=cH.2.mono ();clear cH hw KU;let(g1,g2,g3):=yD0 o ho;let h4:4 ^ bw o<=4 ^ 3:=HP () mF;let h64:4 ^ 3=64:=rfl;let(l1,l2):=yu5 o ho;let(K,hK):=QC (B:=0) (v:=enc o) () g1 () ();let t1:=zQ6 (W:=W) o ho () (d+32) aA ();let t2:=zB3 (W:=W) o ho () (d+32) aA ();let t3:=zQ8 (W:=W) (D:=d+32) (st:=aA) hW () ho mF vq;apply ar;simp![bfOp,-qQ,hK];apply ar;simp![t2];apply ar;simp![bfOp,-qQ,t1,t3,hK,aH];dsimp! only;let i3:(3:Int)<=SZ:=nK ();apply ar;simp![i3];refine(t8 (K3 w o 100 3) _ _ _ _ ⟨_,rfl,by simp,by simpa using fj,by simp⟩ ?_).mono ?_
 .rintro x r env s acc ⟨v,rfl,bj,vB,yB⟩;simp only[c6]at bj;refine(_,rfl,?_);simp![];refine aK.k0 (yk3 o ho _ _ _ () vB ()) λh s1 hh hd=>?_;refine(_,rfl,_,rfl,by simp;lia,hd.2.mono (by simp;lia),?_);intro y hy;rcases d0.mp hy with hy |hy
  .exact yB y hy
  .let:y=h:=by simpa using hy
   subst this;exact(hh.1,hh.2.1)
 rintro ys s1 ⟨be,v,_,bj,vB,vC⟩;simp at bj;rw[bj]at vB;let e1:=zV1 (W:=W) o ho (d+32) ();let z1:ys.length+1<=SZ:=bC ();simp![z1,e1];obtain ⟨y0,yr,rfl⟩:∃a r,ys=a::r:=by
  cases ys with
  |nil=>simp at bj
  |cons a r=>exact(a,r,rfl)
 let(iN,lF):=vC y0 (by simp);let ot:=vB.lt;let J8:∀x∈y0::(yr++[ai o]),HB o x:=by
  intro x hx;simp only[d0,bN,iB,or_false]at hx;rcases hx with rfl |hx |rfl
  .exact(iN,sO () _ lF)
  .exact((vC x (by simp[hx])).1,sO () _ (vC x (by simp[hx])).2)
  .exact(l1,sO () _ l2)
 let Xz:(y0::(yr++[ai o])).length=4:=by simp at bj ⊢;lia
 let KG:aW (s1++[.ai (y0::(yr++[ai o]))]) s1.length=aa (.ai (y0::(yr++[ai o]))):=jj;rw[fD];generalize hLL:yr++[ai o]=L0 at *
 apply ar;let h0:(0:Int)<(L0.length:Int)+1:=by lia
 simp![eX KG,KG,aO,h0];refine aK.k1 (yG8 o ho _ _ _ y0 iE () vB.app () iN lF (by decide)) λu s2 gI iM cf=>?_;let(o2,rfl,fJ):=cf.vW ot;let kC:(s1.set w o2).length=s1.length:=Bx;rw[<-kC];generalize s1.set w o2=s2;let dk:aW (s2++[.ai (y0::L0)]) s2.length=aa (.ai (y0::L0)):=jj;let z5:L0.length+1<SZ:=iW (by simp at Xz;lia);simp![eX dk,qW dk,jn,z5];let hL:∀x∈y0::(L0++[u]),HB o x:=by
  intro x hx;simp only[d0,bN,iB,or_false]at hx;rcases hx with rfl |hx |rfl
  .exact J8 x (by simp)
  .exact J8 x (by simp[hx])
  .exact(gI,iM)
 generalize y0::(L0++[u])=L at hL;let KH:aW (s2++[.ai L]) s2.length=aa (.ai L):=jj;let CQ:iE+1<MX:=by unfold iE MX;lia
 let Wf:iE+1<10 ^ 38:=by unfold iE;lia
 apply ar;simp![eX KH];refine(O5 (eX KH) (J1 ns k w s2.length o K) _ _ ⟨_,_,_,rfl,hL⟩ ?_).mono ?_
 .rintro x r env ⟨x7,x8,x9,rfl,hx⟩;let(q1,q2):=hx x (by simp);generalize s2++[b6.ai L]=s3;let a1:=zy5 (W:=W) CQ o ho () x q1 q2 (d+32) s3 ();let a2:=zK5 (W:=W) CQ o ho () x q1 q2 (d+32) s3 ();let a3:=zK8 (W:=W) (D:=d+32) (st:=s3) CQ ho () q1 q2 ();let(M,hM):=QC (B:=iE+1) (v:=x) Wf q2 (by let:=(Rk o ho x q1).1;lia) (by let:=(Rk o ho x q1).2;lia);refine(_,rfl,?_);apply ar;simp![a1];apply ar;simp![a2];apply ar;simp![bfOp,-qQ,a3,hM,aH];dsimp! only;exact(trivial,_,rfl,_,_,_,rfl,λz hz=>hx z (b5 _ hz))
 .rintro _ s4 ⟨rfl,bz,rfl,x7,x8,x9,rfl,_⟩;dsimp! only;exact(_,_,_,_,_,_,_,_,rfl)
def K5(ns:List Int)(xs:List PV)(env:Env)(st:ay):Prop :=
 (∃x1 x2 x3 x4 x5 x6 x7 x8 x9,env=[aa (.p (.ai (ns.map .int))),x1,x2,x3,x4,x5,x6,x7,x8,x9])/\∀x∈xs,∃k:Nat,k<1000/\x=.int k
def xp9(W d:Nat)(hW:60<=W)(ns:List Int)(sr:ns.length<=63):∃st,a0 prog W (d+33) NH [.p (.ai (ns.map .int))] []=.ok (.p (.bl true)) st:=by
 let main:aK (a0 prog W (d+33) NH [.p (.ai (ns.map .int))] []) λv _=>v=.p (.bl true):=by
  rw[aS (fd:=E7) rfl rfl,aR];simp! only[E7,zZ];apply ar;let i12:(12:Int)<=SZ:=nK ();simp![i12];refine(rn (K5 ns) _ _ _ ⟨⟨_,_,_,_,_,_,_,_,_,rfl⟩,?_⟩ ?_).mono ?_
  .intro x hx;let(k,hk,rfl):=bK.mp hx;let:=eF.mp hk;exact(k,by lia,rfl)
  .rintro x r env s ⟨⟨x1,x2,x3,x4,x5,x6,x7,x8,x9,rfl⟩,hx⟩;let(k,hk,rfl):=hx x (by simp);refine(_,rfl,?_);refine(yB5 hW ns sr k hk s x2 x3 x4 x5 x6 x7 x8 x9).mono ?_;rintro _ s2 ⟨y2,y3,y4,y5,y6,y7,y8,y9,rfl⟩;exact(_,rfl,⟨_,_,_,_,_,_,_,_,_,rfl⟩,λy hy=>hx y (b5 _ hy))
  .rintro _ s2 ⟨bz,rfl,⟨x1,x2,x3,x4,x5,x6,x7,x8,x9,rfl⟩,_⟩;apply ar;simp![]
 let(v,st,h,rfl):=nI.mp main;exact(st,h)
open PySem L2 PySem.SeqAt PyProof.Rows
def top(i:Nat):bW:=Ur.main.body.getD i (.Pass ⟨0,0,0,0⟩)
def ds:List (Str×bW):=List.append [("is_count", top 1),("is_tuple", top 2),("is_name", top 5),("are_unlike_names", top 6),("is_order", top 10),("is_order_within", top 11),("orders_in", top 12),("is_web", top 13),("are_pairs", top 14),("is_pair", top 15),("has_ring", top 16),("has_joins", top 17),("names_over", top 18),("names_over_both", top 19),("lowest_of", top 20),("is_height", top 21),("is_row_height", top 22),("order_text", top 24),("height_text", top 25),("read_number", top 32),("within", top 33),("parted", top 34),("read_order", top 35),("order_written", top 36),("names_written", top 37),("read_height", top 38),("height_written", top 39),("row_written", top 40),("_law_well", top 42),("_law_draw", top 43),("_law_names", top 44),("_law_web", top 45)] ([("_law_flat", top 46),("_law_nest", top 47),("_law_order", top 48),("_law_height", top 49),("_law_overs", top 50),("_law_least", top 51),("_law_near", top 52),("_law_order_text", top 53),("_law_height_text", top 54),("law", top 55)])
def zs:List Str:=["all","bool","enumerate","int","isinstance","len","max","range","repr","set","str","sum","tuple","zip"]
def cs:List (Str×PV):=[("FIGURES", (.str s!"0123456789")),("MOST_FIGURES", (.int 400)),("MOST_IN_ALL", (.int 6)),("MOST_WITHIN", (.int 3)),("SMALL_LETTERS", (.str s!"abcdefghijklmnopqrstuvwxyz"))]
def tk:List (List Nat):=[]
def gd:List (Str×List (List Nat×List Nat)):=[]
def rl:Rl:=⟨[Nj,wL "int" .int,Nb,M6,wL "bool" .bool,gr .GtE .ge,OI,wL "tuple" .tuple,wC .LtE .LtE .le .le,jS "len" .len,wL "str" .str,jS "all" .all,Nl,gr .In .isIn,MZ,Nk,gr .Eq .eq,Nt,gr .LtE .le,Jt,oY .Sub .sub,oY .Add .add,jS "sum" .sum,gr .Gt .gt,gr .NotEq .ne,M_,m5 "append" .append,M1,gr .Is .isNone,jS "tuple" .tuple,m5 "join" .join,ER,M3,jS "str" .toStr,jS "int" .toInt,m5 "startswith" .startswith,m5 "endswith" .endswith,OK,M5,Na,m5 "partition" .partition,m5 "split" .split,oY .Mult .mul,oY .Mod .mod,oY .FloorDiv .fdiv,Nn,jS "max" .max2,oY .Pow .pow,M9,Nu "reverse" .reverse,jS "max" .DM,M4,m5 "insert" .insert,Jr,jS "repr" .repr],[OL,Nx,Ny,wC .LtE .LtE .le .le,gr .Eq .eq,gr .NotEq .ne,gr .In .isIn,gr .Lt .lt,gr .NotIn .ze,gr .Is .isNone,gr .Gt .gt],[M2,Nr,Nq,NZ],[M7,Js,M8,M0,OM,Np,E1 .Add .add,Fn,E1 .Sub .sub,OJ,Nw,Nv]⟩
theorem Zb:rl.Ok:=⟨oQ ⟨xo0,As (by decide) (by decide +kernel),xN4,xM7,As (by decide) (by decide +kernel),qG λ_ _=>YK,yX3,As (by decide) (by decide +kernel),yX2 (b:=.le) (λ_=>wc) (λ_=>wc) (N2 _),s_ (by decide) (by decide +kernel) λ_ _ _ _=>xN9,As (by decide) (by decide +kernel),s_ (by decide) (by decide +kernel) λ_ h _ _=>xN7 h,xo2,qG λ_ h=>EF h,xL9,xo1,qG λ_ h=>LU h,xo7,qG λ_ _=>wc,Yq,sZ λ_ _=>xP0,sZ λ_ _=>xO5,s_ (by decide) (by decide +kernel) λ_ h _ _=>xO2 h,qG λ_ _=>LV,qG λ_ h=>LX h,xN1,NK PySem.F.slot_list_append PySem.F.type_list_append (λ_=>yF9) yD8,xM1,qG λ_ _=>LW,ED (by decide) (by decide +kernel) λ_=>yY8,wq PySem.F.slot_str_join PySem.F.type_str_join (λ_=>xq7) xl9 xv5,xM2,xM4,ED (by decide) (by decide +kernel) λ_=>xO1,ED (by decide) (by decide +kernel) λ_=>xN8,wq UZ PySem.F.type_str_startswith (λ_=>yG3) yE0 yJ0,wq UY PySem.F.type_str_endswith (λ_=>xq6) xl8 xv4,yX6,xM6,xN2,wq PySem.F.slot_str_partition PySem.F.type_str_partition (λ_=>xq8) xm0 xv6,wq PySem.F.slot_str_split PySem.F.type_str_split (λ_=>yY4) yU7 xb8,sZ λ_ _=>xO8,sZ λ_ _=>xO7,sZ λ_ _=>xr7,xo3,s_ (by decide) (by decide +kernel) λ_ h _ _=>xq9 h,sZ λ_ _=>xO9,xN0,xo9 PySem.F.slot_list_reverse PySem.F.type_list_reverse (λ_=>yu2) yr9,s_ (by decide) (by decide +kernel) λ_ h _ _=>xO0 h,xM5,NK UX PySem.F.type_list_insert (λ_=>yG0) yD9,Yo,s_ (by decide) (by decide +kernel) λ_ _ h g=>xr0 h g,trivial⟩,
 oQ ⟨yX7,xp2,xp3,yF8 (b:=.le) (λ_=>wc) (λ_=>wc) (N2 _),qN λ_ h=>LU h,qN λ_ h=>LX h,qN λ_ h=>EF h,qN λ_ _=>YL,qN λ_ h=>yZ3 h,qN λ_ _=>LW,qN λ_ _=>LV,trivial⟩,
 oQ ⟨xM3,xo6,xo5,yF7,trivial⟩,
 oQ ⟨xM8,Yp,xM9,xM0,yX8,xo4,NJ (λ_=>yW4) xm2,yX4,NJ (λ_=>yW5) xm3,yX5,xp1,xp0,trivial⟩⟩
def Wi:all2 (v8 rl (gm ds zs cs tk gd) 60) ds prog=true:=by decide +kernel
def xq0{K:aQ}{H:Hp}{a:aq}{ns:List Int}{E:XK}(sr:ns.length<=63)(hS:bL K H a (ns.map V.int)):je K prog 1000 33 41 1 [.ref a] H (λv _=>v=.bl true) E:=by
 let(st,e):=xp9 1000 0 (by decide) ns sr;exact(rfl,yp,[],_,_,st,yz1,yy3 hS,e,λw H x r v h=>wj h)
def walk{l:Vo}{q:Program}{loose:List Str}{XP:(Str->Option ak)->aT->Prop}{YP:aY->aT->Prop}{d:DefRec}{K:pR->aQ}(hn:l.most=aa 63)(u9:d.params.defaults=[])(hY:∀(w:aY)(h:aT),YP w h->(K w.params).In h)
  (F:∀(w:aY)(mg:Str->Option ak)(fa:aq)(h:aT),(K w.params).In h->h.Ns fv mg->mg d.name=aa (.ref fa) ->
   ∃fd:j_,(∀(s:au)(u:ak),uz s fd ⟨[u],[]⟩ [("_law_script", u)])/\∀base:aT,(K w.params).In base->base.Ns fv mg->gc l.prog w (K w.params) mg base gU 33 fa fd ["_law_script"] (je (K w.params) prog 1000 33 41 1)) :
  Vr q loose XP YP l.row.toRowW d [] (λf vs=>IE f vs) :=
 L2.xU2 (n:=63) (k:=33) (x := "_law_script") (CX:=λ_=>gU) (sp:=λw=>je (K w.params) prog 1000 33 41 1) hn (by decide) u9 ⟨rfl,by decide,by decide,rfl⟩ hY F (λ_ _ a ns hl _ hS=>xq0 hl hS) λ_ _ _ _ _ z=>z
end LA
namespace PySem.W.Fast
def tw18078191128496451800:=0
def tw5566324689437697985:=0
def tw590849799457150686:=0
def tw6801169408251287464:=0
def tw8772150067910195439:=0
def tw5097283250199372852:=0
def tw4892734115237971930:=0
def tw12154467629359355892:=0
def tw8788771879446023024:=0
def tw8321908526448605047:=0
def tw1409294028134128305:=0
def tw6352945995554749531:=0
def tw1617653410447840553:=0
def tw2493995991257520884:=0
def tw9450345474615038331:=0
def tw4621257405964173886:=0
def tw6346821941911183602:=0
def tw8774866852432156896:=0
def tw9001005959791751876:=0
def tw1626600690933109874:=0
def tw119846611498420146:=0
def tw9154007580335032196:=0
def tw13220451397890767665:=0
def tw15388441630932747361:=0
def tw12289982025717096024:=0
def tw10552102775676009420:=0
def tw1953846650005774686:=0
def tw8902599808549592930:=0
def tw14700247800913937845:=0
def tw6741987679865675331:=0
def tw2562152803346864574:=0
def tw18039730059336669513:=0
def tw1881347348632061716:=0
def tw5789633300678835299:=0
def tw7268020223470850126:=0
def tw15152520431729547502:=0
def tw1390655938671158764:=0
def tw6444962284507554459:=0
def tw2683329509321783883:=0
def tw12897508815309570137:=0
def tw4173778801939882859:=0
def tw11866908207264395891:=0
def tw10549030336705126129:=0
def tw1999975776478146049:=0
def tw10706606176090143946:=0
def tw2895798970554655685:=0
def tw27715498499624873:=0
def tw3720136055246164034:=0
def tw17866762456288589962:=0
def tw4209619510057410693:=0
def tw3355334164195199348:=0
def tw11883579571083391630:=0
def tw89921411394822800:=0
def tw187987633385465615:=0
def tw5567544264185244546:=0
def tw14010949352932989871:=0
def tw11322512984741825390:=0
def tw13707238065732841097:=0
def tw15071683033509934974:=0
def tw18293082866799529772:=0
def tw7983818224592146594:=0
def tw3938425285721126130:=0
def tw11373296252898356004:=0
def tw17646383687455475530:=0
def tw4099078854820379238:=0
def tw3738655401627235251:=0
def tw16712756390409122983:=0
def tw11065667848816190983:=0
def tw17651031639993214971:=0
def tw5158143792517187308:=0
def tw2998634784784665617:=0
def tw4735754575480621524:=0
def tw7414219081085600024:=0
def tw2871458634663801917:=0
def tw3093234010535542200:=0
def tw12456266910057895035:=0
def tw5692971115984216600:=0
def tw15775434635274226818:=0
def tw16133063620699632229:=0
def tw15916087548912839316:=0
def tw767492029765420872:=0
def tw5709107951164258052:=0
def tw12971692546901929401:=0
def tw17774726479586157862:=0
def tw17399971955900858797:=0
def tw3458383726538843596:=0
def tw7039433738816120185:=0
def tw17260480680883127941:=0
def tw6106552729812155497:=0
def tw3863928436847622605:=0
def tw12310620036618515978:=0
def tw16035303121868087114:=0
def tw6139930482649688271:=0
def tw6331031597174691434:=0
def tw8673948629549626459:=0
def tw11147483865995965399:=0
def tw14819137100971052886:=0
def tw15171884177043382712:=0
def tw9678637375622933827:=0
def tw16791780133819842313:=0
def tw11970000057643083423:=0
def tw8560919717673518760:=0
def tw13528057649985665224:=0
def tw1926674691997456382:=0
def tw1988162262478688367:=0
def tw7233407952132469439:=0
def tw13900340455531611030:=0
def tw11041279831716192036:=0
def tw18142476562169327029:=0
def tw17405218542580136886:=0
def tw16327534323979498155:=0
def tw14398757285855007880:=0
def tw6191065577931782284:=0
def tw16157558199897841721:=0
def tw1080957988837015900:=0
def tw7938868983199351161:=0
end PySem.W.Fast
def PySem.W.Fast.tw10650585580380786448:PySem.Program:=PySem.Challenge.pw_onlyrise_k14_orders_and_heights_written
def PySem.W.Fast.ag7:Ur=PySem.W.Fast.tw10650585580380786448:=rfl
open PySem PySem.W PyProof.Rows
def OR.ZX{q:Program}{l:List Str}{XP:(Str->Option ak)->aT->Prop}{r:RowW}{d:DefRec}{Lw:List (Str×Expr)}{run:ak->List ak->fh ak}{K:pR->aQ}{as:List aq}{n t:Nat}(e:∀P,as=(K P).map (·.1))(h:WalkO q l XP (λw hp=>(K w.params).In hp) r d Lw run):WalkX q l XP (X.obsZ as) (X.valZ K n t) r d Lw run :=
 λw _ _ _ _ G y _ _ _ _ _ _ _ a b c f g h1 _ _ _ L=>h w _ _ _ _ G (InK.keeps w _ _ (X.z_facts e y).2.1 L.keeps) _ _ _ _ _ _ _ a b c f g h1 _ _ _
set_option maxRecDepth 100000 in
set_option maxHeartbeats 0 in
theorem PySem.Challenge.cw_onlyrise_k14_orders_and_heights_written_holds : PySem.Challenge.rw_onlyrise_k14_orders_and_heights_written.Holds := by
 w_on;o_law;z_head;(case hw=>w_witness2)
 k_fill
 refine OR.ZX (λ_=>by kernel_rfl) (LA.walk (l:=aa3) rfl rfl (λw h YYY=>YYY) ?F)
 case F =>
  intro w mg fa h KX G vo;refine OR.all_mk LA.Zb LA.Wi (k:=41) (st:=LA.top 55) rfl rfl KX G vo ?_ ?_ ?_ (.inl rfl) ?_
  .repeat refine And.intro ⟨_,_,_,_,_,_,_,_,_,_,by k_is,by k_is,by k_is,by k_is⟩ ?_
   exact jB
  .repeat refine And.intro (show pV _ _ _=_ by k_is) ?_
   exact jB
  .exact(⟨by decide,_,_,by k_is,by first |rfl |decide +kernel,by decide⟩,⟨by decide,_,by k_is⟩,⟨by decide,_,by k_is⟩,⟨by decide,_,by k_is⟩,⟨by decide,_,_,by k_is,by first |rfl |decide +kernel,by decide⟩,trivial)
  .exact trivial
