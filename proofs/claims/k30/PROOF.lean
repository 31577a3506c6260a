import PyProof.Rows.All
import Wide.All
import OpenK.AllK
import Wide.FinOn
import PySem.Challenge.RW_claimwise_k30_spots_that_do_not_fit
open PySem renaming wpAny_bind->ah,Shared->aj,sizeLine->ao,wpAny_pure->au,wpAny->aG,model->aJ,Program->br,World->bE,rawInt->bT,Around->b7,sizeLine_eq->cB,wpAny_Call_Name_kw->cC,tupleKeyHash->cG,SetTable->cM,Spec->cU,wpAny_holding->cW,wpAny_newObj_type->dZ,mainGlobals->d8,wpAny_mono->d9,starEach->eO,FuncData->eS,codeAny_builtin->fu,cLine->fy,cellsFrom->fV,mem_of_lookup->fW,wpAny_setState_of->fZ,wpAny_call_entry->gi,wpAny_setField->gC,wpAny_loadPart_at->gK,IsTupleKey->gW,plainId_quiet->iw,wpAny_truthy_bool->iK,Scope->iM,codeAny_mono->iR,sysModules->iS,NameKind->jn,wpAny_typeNameOfWhole_keyiter->jB,binaryOp->jJ,assignEach->jO,codeAny->jW,wpAny_passesOwn->jX,wpAny_ite_split->jY,compareOp->kh,wpAny_askSetting->kU,wpAny_callSpecial?_slot->lD,call_meets->lR,tupleKind_room_in1->lS,excClassObj->l9,foldedSetIterable->mw,Builtin->mK,wpAny_typeOf->mL,wpAny_call->nc,wpAny_attempt->nC,wpAny_execs_nil->nZ,wpAny_specialOf->n_,bootBuiltins->oS,wpAny_seqItems->pF,builtinsNs->pH,wpAny_load->pJ,ItemsOf->pL,relabel->pN,wpAny_pyIter_list->pY,backTo->qh,pyIter->qi,wpAny_standAt->qH,wpAny_isInstance->qS,tupleKind->rC,letOwnedTupleGo->rX,codeAny_of_tree->se,wpAny_isSubtype_exc->sM,wpAny_setEntries_of->sR,holding->tL,wpAny_fieldsOf->tM,wpAny_runValue->tO,carriedByValue->tP,sliceBounds->tZ,swapsWith->uy,pyNext->uz,swapsWithSole->uW,wpAny_newFunctionEnv_cells->uX,wpAny_newList->uY,wpAny_pyIter_slot->vf,wpAny_dictEntries->vg,ofAClassStatement->vh,typeLookup->vz,spliced->vF,valueAt->vG,callerA->vH,collect->vI,Keyword->vJ,isTrue->wH,wpAny_execs_cons->wJ,call_meetsIn->wN,wpAny_comprehension_free->wZ,wpAny_forIn_list->xd,codeAny_call_builtin_at->xu,PassesOwn->xN,atKey->xO,wpAny_dictEpoch->xQ,pushCells_keeps->xT,wpAny_updateSeq->xV,wpAny_pyNext_list_item->yx,wpAny_of_eq->yF,wpAny_field->yH,stored->zh,wpAny_pyNext_list_end->zj,callType_codes->zm,wpAny_notOrdered_dict->zo,assign->zp,standAt->zq,codeAny_call_function->zu,wpAny_isOneOf_keyiter->zA,newFunctionEnv->zC,SetTable->zG,wpAny_eqIsQuiet_tuple->zH,builtinLookup_eq_fast->zJ,isSubtype_type->zK,wpAny_loadName_local->Aw,Operator->Ax,bindArgs->Ay,codeAny_call_builtin->AB,unbindBehindTheSuite->AD,CmpOp->AE,wpAny_pyIter_revIter->AH,codeAny_extend_loopS->AI,swappedStores->A6,rangeSize_one->A7,behindInMarks->A8,wpAny_loadName_cell->Bb,wpAny_Assign_stores->Bc,wpAny_Tuple_spliced->Be,Result->Cv,getattributeRaised->Cw,inplaceOp->Cz,truthy->CA,seqIndex_neg->CC,DictEntry->CH,call_reversed_list->CT,pickOrder->CY,BindsTo->Dr,bindL->Dt,bindC->Du,getItem->Dv,wpAny_assign_Name->Dw,slot_list_getitem->Dz,list_append->DA,wpAny_pyIter_enum->DF,wpAny_setEpoch_of->DH,seqIndex_of->Ea,subscripted->Eb,entryFor->EO,wpAny_eqBool_int->ER,GenState->ES,noFill_tuple_add->EU,wpAny_Dict_empty->E1,checkBuiltinCall->E3,wpAny_Name->GN,nsFind->GQ,typeIs_str->GU,typeIs_int->GV,call->GW,typeLookup_type->G6,recursionLimit->Ih,wpAny_newTuple->Ii,isSubtype_stop->Ij,fitsIndex_both->Il,IsRange->Iq,entryFor_alias->Iu,storeName->JT,small_one->JU,Arguments->JV,noteFrame->JX,lastMarks->JY,intBits_le_64->Kq,seq_tuple_add->Kr,evalPart_none->Ks,call_list_seq->Kv,wpAny_handled->KC,Builtin->KG,signature?_of->KL,Walks->Ld,getAttr?->Nj,Within->Nl,codeAny_func->Nn,concat_meets->Np,setField->Nr,ExcBaseFacts->Nx,call_range_1->Nz,argsOk->NF,interactive->Oq,wpAny_throw->Oz,wpAny_alloc->OB,hashByValue->OE,setItem->Qe,splitId->Qh,OwnTail->Qj,table->RQ,getAttrBy?->RS,wpAny_rule->RT,entryOfKey->RV,Drawn->RY,Model->RZ,isInstance->R9,sliceRange->Sd,IsPart->VM,Params->VQ,typeOf->VS,cellOf->VW
open List renaming length_map->ai,mem_cons_of_mem->az,getElem?_eq_getElem->aB,mem_cons_self->aD,mem_singleton->aL,not_mem_nil->aO,size_toArray->aT,length_append->aW,mem_cons->aY,map_append->be,range->bg,replicate->bl,mem_append_right->bw,getElem?_map->bz,map_cons->bB,mem_append->bC,mem_map->bK,getElem?_eq_some_iff->bL,all_eq_true->bN,append_assoc->bR,getD_eq_getElem?_getD->bS,map_map->bV,getElem_mem->bY,nodup_append->cE,mem_append_left->cF,nodup_cons->cL,getElem_map->cR,getElem?_set_ne->cX,append_nil->dS,any_eq_true->dX,replicate_succ->eN,getElem?_append_right->eU,length_drop->eV,lookup_cons->eW,length_cons->eY,getElem?_append_left->fc,length_take->fC,mem_range->fO,map_nil->gw,nodup_nil->gz,take_of_length_le->gD,flatten_cons->gJ,getElem?_set->gM,length_range->gO,length_singleton->g9,mem_iff_getElem?->g_,eq_nil_of_length_eq_zero->h_,reverse_cons->iH,find?_cons->iN,getElem_of_mem->iO,all_cons->iU,mem_of_getElem?->jo,getElem?_cons_succ->jE,getElem?_eq_none->jZ,pairwise_map->j7,map_congr_left->kZ,length_pos_iff->k8,nil_append->lT,length_nil->lU,getElem?_set_self->l7,drop_of_length_le->l_,length_replicate->mO,toArray->mQ,take_append_drop->mR,ext_getElem->ng,map_take->nE,map_drop->nF,filterMap_cons->nO,drop_eq_getElem_cons->nY,length_set->n5,getElem?_eq_none_iff->oh,idxOf_lt_length_iff->oW,map_singleton->oY,getElem?_cons_zero->pR,any_cons->qI,map_reverse->qU,mem_reverse->qV,getElem?_toArray->rD,eraseIdx_eq_take_drop_succ->rE,of_mem_zip->rY,foldl_cons->rZ,mem_of_mem_take->sy,mem_of_mem_drop->sA,length_reverse->sP,mem_filterMap->uB,contains_cons->uD,length_eraseIdx_of_lt->u6,extract_eq_take_drop->vA,mem_or_eq_of_mem_set->vB,getElem?_take_of_lt->wL,all_map->wW,any_map->w5,nodup_range->w_,perm_middle->xf,getElem?_replicate->xh,mem_filter->xM,all_append->xX,not_of_lt_findIdx->yG,getElem_cons_drop->yK,range'->yL,foldl->Az,getElem_toArray->AA,getElem?_of_mem->AF,mem_erase_of_ne->AJ,range_eq_range'->AL,getElem?_range->Bk,map_eq_nil_iff->Bl,getElem_idxOf->CN,getElem?_drop->CP,any_eq_false->Dy,getElem_inj->ET,range'_succ->E6,any_append->G7,drop_zero->Im,map->NK,length->Ov
open PySem.W renaming Frag->ak,findIn->dg,keepIn->dW,kitOne->dY,fnOf->gv,mroIn->iy,specialIn->mD,codeIn->mP,nsIn->mS,takesIn->n9,kia_one->om,cellsFrom_some->qj,mg_of->qK,kas_sort->qR,looks_findIn->r_,callWith_K->uC,clsIn->uZ,hasDictIn->vd,any_some->wU,InstAt->zB,callWith_K0->Bg,looks_mroIn->Bj,codeRec_of->CB,kitx_none->DG,instObj->GL,makesIn->GS,OpenLaw->GX,findObj->G0,hashAt->G3,lookIn->Ig,kitAny->Io,notCls->Ip,WalkO->Ky,isFn->Nm,KitX->Nv,OpenLaw->Qf,hideAll_size->RW,hideAll_none->RX,pre_splitW->R3,handedOut_of->Sa,hideAll_get->Sj,of_hideAll->VJ,ki_setBack->VO,check_slot->VT,looks_find->VU,kitx_tuple->VV,mg_none_of->V7,methodObj->V8,plainOver->V9,class_get->Wa,plainGet->Zu,ki_setAt->Zv,handedIn->Zw,kitx_int->Zy,km_in_of->ZD
open PySem.Heap renaming get?_push_of_some->aq,lt_size->aF,get?_push_size->aU,get?_update_other->bM,get?_update_self->dN,SameBut->gp,size_push->iC,get?_update_ne->Bh
open _root_ renaming of_decide_eq_true->ay,decide_eq_true->aA,absurd->aC,if_neg->aE,decide_eq_false->aK,if_pos->aQ,False->bu,DecidableEq->dz,beq_eq_false_iff_ne->fX,decide_eq_true_eq->iJ,reduceIte->jz,beq_self_eq_true->jL,beq_iff_eq->jP,if_true->ki,if_false->kQ,congrArg->qQ,Decidable->C1,bne_self_eq_false->DB,Inhabited->JW
open Nat renaming le_refl->aM,ne_of_lt->aZ,lt_of_lt_of_le->bQ,zero_le->c7,lt_irrefl->dm,le_of_lt->dG,le_trans->fB,ne_of_gt->gq,lt_trans->gx,not_lt_zero->gU,lt_succ_self->ir,le_succ->jN,lt_succ_of_lt->pZ,le_of_lt_succ->p8,mod_lt->su,succ_pos->w6,min_eq_left->xS,div_div_eq_div_mul->yJ,not_succ_le_zero->AK,le_of_eq->CJ,sub_self->CU,lt_of_le_of_lt->CZ,succ_le_succ->EX,min_eq_right->E2,not_lt->G2,mul_succ->NI,add_comm->NJ,not_le->Sf
open Bool renaming false_ne_true->aN,and_eq_true_iff->aS,false_eq_true->cJ,and_eq_true->cK,or_eq_true_iff->iP,not_eq_true->kW,not_true->lG,and_false->pK,not_false->pP,and_true->qJ,or_eq_true->sf,or_true->wV,eq_iff_iff->xR,or_false->A9,eq_false_iff->DC,not_eq_true'->DL,false_or->Kw,and_self->KJ,true_and->KP
open Array renaming length_toList->bF,getD_eq_getD_getElem?->cH,getElem?_eq_getElem->dU,getElem?_toList->eK,mem_toList_iff->m_,toArray_toList->nq,getElem?_eq_some_iff->nD,toList_append->sO,size_setIfInBounds->wR,getElem?_eq_none->yw,toList_extract->AG,append_assoc->Cy,forIn_toList->CV,toList_push->DE,replicate->G4,size_map->Ir,getD->R5,ext'->Sb
open PySem.Value renaming ref->bH,none->fH,builtin->qG,int->JR,str->JS,isStrOf->Kp,isInt->Oo,bool->RU
open False renaming elim->bU
open PySem.Calls renaming spliced_cons->cj,spliced_nil->c6,call_function_entry->n6,Name_function_global->uV,callWith_builtin->yI
open PyProof.Rows renaming callWith_type1->ck,callWith_builtin1->eL,step_dedup->gf,seqObj->iE,AllBare->nJ,envOfC->oU,entry_proto_collect'->r9,entry_list_iadd'->wQ,entry_list_sort->xP,boot_isinstance->xU,subscriptTail_builtinR->yC,IntsAre->zw,slot_list_sort->zy,args_list_sort->zz,firstMet->zE,slot_tuple_getitem->CD,plain_sorted->CK,entry_sorted->CL,args_sorted1->CM,kind_sorted->Ec,slot_str_getitem->EV,firstMet_length_le->E7,get?_update_seq->GY,Call_->G1,subscriptTail->Ku,listUpdate_at->KA,boot_reversed->KH,failedOf->Nq,seqEpoch_at->Ox,isTrue_and->R0,Subscript_->R1,arrOf->R6
open Option.some renaming inj->cA
open PySem.Expr.Name renaming elim->cV
open Ne renaming symm->dc
open PySem.Around renaming under_plainId->dF
open PySem.NameKind renaming free->dK,cell->dM
open Sum renaming inr->eG,inl->lF
open Option renaming map_eq_some_iff->fj,bind_eq_some_iff->fL,isSome_map->ve,isSome_iff_exists->wK,isSome->A_,isSome_some->CF,getD_none->EW,getD_some->E4,map->G5
open PySem.Obj renaming data_mapFields->fm,mapSeq->fJ,mapFields->gy,isFreed_of_fields->ja,cls_mapFields->mz
open PySem.Builtin.Str renaming strSliceIndices->fK,tooLong->Sl
open Exists renaming intro->fQ
open Int renaming toNat_natCast->fY,zero_add->sC,toNat->C2,mul_one->Ot
open PySem.Expr.Call renaming elim->f_
open PySem.F renaming called_set->iu,plain_list_iadd->iF,plain_proto_collect->mU,plain_extend_loop->oq,args_tuple_add_2->wM,entry_tuple_add->xj,args_dict_get_3->xm,attr_ValueError->xq,slot_dict_items->xw,slot_tuple_add->yz,entry_dict_get->yD,slot_dict_get->zx,slot_set_iter->zL,plain_set_new->zM,args_dict_setdefault_3->GZ,entry_dict_setdefault->G8,slot_dict_setdefault->Ik,args_list_remove_2->KD,excBase_ValueError->KE,sub_list_frozenset->KO,args_list_index_2->Le,entry_list_remove->Lf,slot_dict_getitem->Lh,args_dict_items_1->Li,entry_list_index->Nt,slot_list_remove->Nu,args_list_init_2->NC,entry_dict_items->ND,slot_list_index->NL,typeCall_list_1->NN,entry_list_init->NO,plainAttrs_dict->NP,type_dict_items->NQ,args_set_iter_1->NS,entry_type_call->NU,typeCall_set_1->OF,entry_set_init->OG,entry_bexc_ga->Qi,newCall_set_1->Qn,entry_set_new->Qo,args_bexc_ga->R_,slot_set_len->Sg,sub_list_set->Sh,called_list->Sm
open True renaming intro->iT
open Classical renaming byContradiction->jd
open PySem.Str renaming length->jq,ofString->o5,empty->VL
open PyProof.Rows.F renaming plain_set_update_loop->jT,entry_set_update_loop->o6
open PySem.Builtin.List renaming listSameRef->kR,listTooLong->oV,listLengthHint->uE,listExtendWith->uF,listFitsIndex->u5,listUpdate->xo,listItems->OC
open PySem.SetTable renaming toList_insertAt->kT,gaveWay->ZA
open PySem.Builtin.Range renaming rangeSize->lC,small->sQ
open ForInStep renaming yield->lV
open And renaming intro->lW
open PySem.Expr.Subscript renaming elim->nQ
open PySem.Code renaming quiet_builtin->oX
open PySem.Stmt.Assign renaming elim->qT
open PySem.PassesOwn renaming never->sj
open PySem.Heap.SameBut renaming update->sL,refl->Wb
open PySem.Builtin.Dict_items renaming ownsTuple->tN
open PySem.SeqAt renaming EqAt->wX,notIn_tupleAt->Lg,notIn_listAt->Ny,in_tupleAt->OA,in_listAt->Ql
open Eq renaming trans->wY
open List.Pairwise renaming imp_of_mem->w9,filterMap->NR,nil->V_
open PySem.Builtin.Dict renaming updateFrom->xg,dictSlotNone->Lc,selfAndRest->Nk,showsAll->Qg
open PySem.Expr.Tuple renaming elim->xW
open Sum.inr renaming inj->yE
open PySem.Heap.IsRevIter renaming typeIs->zF
open Iff renaming rfl->zN,intro->VX
open PySem.AutoListH renaming list_insert_list_int_val_1->CQ,list___mul___list_int_3->Ed
open PySem.pickOrder renaming go->CW
open PySem.Expr.ListComp renaming elim->C0
open PySem.Expr.UnaryOp renaming elim->DJ
open PySem.Expr.Compare renaming elim->DK
open List.Sublist renaming refl->DM,append->Sq
open PySem.IsRange renaming new->D_
open PySem.IsL renaming update->EY
open PySem.AutoSeq1 renaming list_extend_list_list_0->EZ
open PySem.Expr.BoolOp renaming elim->E5
open PySem.Heap.DictOf renaming new->GK
open PySem.Builtin.Frozenset renaming updateFrom->Iw,newClass->KN
open PySem.W.Looks renaming of_pure->Kz
open PySem.Moved renaming eq_with->KI
open PySem.Manifest renaming sig_set_iterator->Lj
open PySem.Builtin.Tuple renaming tupleExact->NB
open Prod renaming snd->NG,fst->Zz
open PySem.Stmt.If renaming elim->NH
open PyProof renaming noPylong_small->Ou
open Sum.inl renaming inj->Ow
open PySem.ItemsOf renaming nil->OD
open PySem.Txt renaming mul->Qk
open List.Perm renaming append_left->Qm
open PySem.W.WShape renaming has->R4
open PySem.MeetsSeq renaming list_remove->R7
open PySem.MeetsSeq.EqGives renaming int->R8
open PySem.Walks renaming list->Se
open PySem.StrLaws renaming lt_cons_cons->Si,lt_nil_nil->V5
open PySem.EntryCells renaming newEntry->Sk
open PySem.Expr.Attribute renaming elim->Sn
open PySem.Stmt.AugAssign renaming elim->So
open PySem.SeqAt.EqAt renaming int_str->VH,str_int->VI
open PySem.Heap.IsSliceOf renaming new->VN
open PySem.W.WData renaming int->VP
open Or renaming inr->VR
open PySem.Expr.Constant renaming elim->VY
open PySem.ScopeKind renaming function->VZ
open PySem.Stmt.Continue renaming elim->V3
open PySem.DictEntry renaming refKey->Zt
open PySem.P renaming add_list->Zx
open PySem.Stmt.Return renaming elim->ZC
open Array.Perm renaming refl->aaE
open PySem.Expr.BinOp renaming elim->aaH
open PySem.Expr.IfExp renaming elim->aaI
open PySem.Expr.Slice renaming elim->aaJ
open PySem.Stmt.Break renaming elim->aaK
open PySem.Stmt.Raise renaming elim->aaL
open PySem.Expr.List renaming elim->acL
open PySem.Expr.Dict renaming elim->acM
open PySem.Stmt.Expr renaming elim->acN
open PySem.Value.ref renaming inj->acQ
open List.cons renaming inj->acV
open List renaming length->zl
open Option renaming some->M,none->B
open _root_ renaming List->L,Option->aah
open Bool renaming true->W,false->J
open PySem renaming Value->Z
local macro_rules|`(#v[$xs,*])=>do
 let mut r<-`(.nil)
 for x in xs.getElems.reverse do r<-`(.cons $x $r)
 return r
local macro_rules|`(#[$a,$b,*])=>`(⟨$a,$b,*⟩)
def Zq7:Nat->Lean.Syntax->Lean.MacroM (Lean.TSyntax `rcasesPat)
|n+1,s=>match s with
 |`(#[$a,*])=>do let p<-a.getElems.mapM λx=>Zq7 n x.raw;`(rcasesPat|⟨$[$p:rcasesPat],*⟩)
 |`($x:ident)=>`(rcasesPat|$x:ident)
 |_=>`(rcasesPat|_)
|_,_=>`(rcasesPat|_)
local macro_rules|`(tactic|let $p:term:=$e)=>do `(tactic|obtain $(<-Zq7 50 p):rcasesPat:=$e)
noncomputable section
set_option Elab.async false
set_option linter.all false
set_option maxRecDepth 100000
set_option maxHeartbeats 4000000
set_option bootstrap.genMatcherCode false
set_option compiler.extract_closed false
set_option genSizeOf false
set_option genInjectivity false
set_option tactic.hygienic false
section
namespace PySem
namespace F
def AM:EO RQ "dict.update.loop"=M mK.«dict.update.loop»:=entryFor_of_fast<|by kernel_rfl
def qo:plainId "dict.update.loop"=W:=by decide +kernel
end F
section
variable{prog:br}{w:bE}{K:Type} [dz K] {knd:KeyKind prog w K}{A:b7}{s:aj}{R:Cv->aj->Prop}
def yM(knd:KeyKind prog w K)(h:Heap)(items:Array Z)(ps:L<|K×Z):Prop:=
 items.size=zl ps/\∀(i:Nat) (k:K) (v:Z),ps[i]?=M (k,v)->∃t kv,items[i]?=M (.ref t)/\h.IsTuple t (List.toArray [kv,v])/\knd.is k kv=W
def yM.keep(x:yM knd h items ps)(hk:∀t xs,h.IsTuple t xs->h'.IsTuple t xs):yM knd h' items ps:=
 #[x.1,λi k v e=>let⟨t,kv,h1,h2,h3⟩:=x.2 i k v e;#[t,kv,h1,hk t _ h2,h3]]
def AN{h:Heap}(a:h.IsTuple t xs)(b:h.IsListIter it l i):t≠it:=by
 rintro rfl;let#[o,h1,h2,_]:=a;let#[o',h3,h4,_]:=b;rw[h1]at h3;cases h3;rw[h2]at h4;exact aC h4<|by decide
def Lk{h:Heap}(a:h.IsList t xs)(b:h.IsListIter it l i):t≠it:=by
 rintro rfl;let#[o,h1,h2,_]:=a;let#[o',h3,h4,_]:=b;rw[h1]at h3;cases h3;rw[h2]at h4;exact aC h4<|by decide
def JZ{h:Heap}(a:h.IsTuple t xs)(b:h.DictOf knd d kvs):t≠d:=by
 rintro rfl;let#[o,h1,h2,n,h5]:=a;let#[o',es,ep,h3,hc,hd,_]:=b;rw[h1]at h3;cases h3;rw[h5]at hd;cases hd
def Ll{h:Heap}(a:h.IsList t xs)(b:h.DictOf knd d kvs):t≠d:=by
 rintro rfl;let#[o,h1,h2,n,h5]:=a;let#[o',es,ep,h3,hc,hd,_]:=b;rw[h1]at h3;cases h3;rw[h5]at hd;cases hd
def vK{h:Heap}(a:h.IsListIter it l i)(b:h.DictOf knd d kvs):it≠d:=by
 rintro rfl;let#[o,h1,h2,h5]:=a;let#[o',es,ep,h3,hc,hd,_]:=b;rw[h1]at h3;cases h3;rw[h5]at hd;cases hd
def IsTuple.sameBut(x:h.IsTuple t xs)(hs:gp b h h')(hn:t≠b):h'.IsTuple t xs:=
 let⟨o,ho,r⟩:=x;#[o,(hs.2 t hn).trans ho,r]
def IsList.sameBut(x:h.IsList t xs)(hs:gp b h h')(hn:t≠b):h'.IsList t xs:=
 let⟨o,ho,r⟩:=x;#[o,(hs.2 t hn).trans ho,r]
def IsListIter.sameBut(x:h.IsListIter t l i)(hs:gp b h h')(hn:t≠b):h'.IsListIter t l i:=
 let⟨o,ho,r⟩:=x;#[o,(hs.2 t hn).trans ho,r]
def DictOf.sameBut'(x:h.DictOf knd d kvs)(hs:gp b h h')(hn:d≠b):h'.DictOf knd d kvs:=
 let⟨o,es,ep,ho,r⟩:=x;#[o,es,ep,(hs.2 d hn).trans ho,r]
noncomputable def Iz(acc:L<|K×Z)(ps:L<|K×Z):L (K×Z):=ps.foldl (λa p=>zh a p.1 p.2) acc
def Ef(hh:A.in1.handled=B)(res:Z)(hsz:zl ps<=ao):∀(k i:Nat) (s:aj) (acc:L<|K×Z),zl ps-i=k->i<=zl ps->zl acc<=i->s.heap.IsListIter it l i->s.heap.IsList l items->yM knd s.heap items ps->s.heap.DictOf knd d acc->
  (∀(h':Heap) (tk:Nat),s.toks<=tk->h'.DictOf knd d (Iz acc<|ps.drop i)->(∀b o,b≠d->b≠it->s.heap.get? b=M o->h'.get? b=M o)->R (.ok<|.ret res) { s with heap:=h',toks:=tk })->
  jW (aJ prog w) A (.builtin "dict.update.loop" #[[.ref d,.ref it,bT (i:Int),res],[]]) R s:=by
 intro k;induction k with
 |zero=>
  intro i s acc hk hi hacc hit hl hp hd hR;have hin:i=zl ps:=by lia
  subst hin;refine fu F.AM ?_;rw[dF F.qo _];refine ah (zj hh hit hl (by rw[yw];rw[hp.1];exact aM _) λh' hs=>?_);have:=hR h' s.toks (aM _) (by
   rw[List.drop_length];exact hd.extBut hs (vK hit hd).symm) λb o _ hb e=>hs b o hb e
  exact ah<|au<|au this
 |succ k ih=>
  intro i s acc hk hi hacc hit hl hp hd hR;have hlt:i<zl ps:=by omega
  let#[t,kv,e1,ht,hkey]:=hp.2 i ps[i].1 ps[i].2<|aB hlt;refine fu F.AM ?_;rw[dF F.qo _];refine ah<|yx hit hl e1 λh' hit' hs=>?_;have ht':=IsTuple.sameBut ht hs<|AN ht hit;have hl':=IsList.sameBut hl hs<|Lk hl hit;have hd':=DictOf.sameBut' hd hs (vK hit hd).symm;have hp':=hp.keep λt xs a=>IsTuple.sameBut a hs<|AN a hit;refine ah<|cW ?_;refine ah<|wpAny_tryCatch ?_;let#[o,ho,hc,n,hdat]:=ht';refine ah<|mL #[o,ho,hc] ?_;rw[aQ<|by decide];refine ah<|pF ho hdat<|au ?_;refine cW ?_;refine wpAny_dictSet_pairs hkey hd' λh2 hd2 hs2=>?_;have hit2:=IsListIter.sameBut hit' hs2<|vK hit' hd';have hl2:=IsList.sameBut hl' hs2<|Ll hl' hd';have hp2:=hp'.keep λt xs a=>IsTuple.sameBut a hs2<|JZ a hd';have hlen:zl (zh acc ps[i].1 ps[i].2)<=i+1:=by
   unfold zh;split
   .rw[ai];lia
   .rw[aW,g9];lia
  have q:=ih (i+1) { s with heap:=h2,toks:=s.toks+1 } (zh acc ps[i].1 ps[i].2) (by omega) hlt hlen hit2 hl2 hp2 hd2 (λh3 tk htk hd3 hk3=>by
   refine hR h3 tk (fB (jN _) htk) ?_ ?_
   .rw[nY hlt];exact hd3
   .intro b o hb1 hb2 e;exact hk3 b o hb1 hb2<|(hs2.2 b hb1).trans<|(hs.2 b hb2).trans e)
  exact au #[iw F.qo _,q]
end
end PySem
end
section
namespace PySem
namespace F
theorem Lm:vz (.type "list") "keys"=pure B:=by rfl
end F
section
variable{prog:br}{w:bE}{A:b7}{E:Z->aj->Prop}{s:aj}{a:Addr}{o:Obj}
def Ln{Q:aah Z->aj->Prop}(hx:s.heap.get? a=M o)(hc:o.cls=.type "list")(hdat:o.data=.seq xs k)(hd:o.dict=B)(hA:A.handled=B)(h:∀h' tk,(∀b o,s.heap.get? b=M o->h'.get? b=M o)->Q B { s with heap:=h',toks:=tk }):aG (aJ prog w) A (Nj (.ref a) "keys") Q E s:=by
 let#[c,dct,dat,sl]:=o;simp only at hc hdat hd;subst hc hdat hd;let#[mem,gn,dr,cnt,sys]:=s;have isL:∀c',(⟨mem,gn,dr,c',sys⟩:aj).TypeIs (.ref a) "list":=λ_=>#[_,hx,rfl];have lk:=F.Lm;have sub:=sub_AttributeError;have ga:=F.slot_list_getattribute;have gl:=ga.lookup;have gb:=ga.bind<|.ref a;have no:=am_list_getattr_none
 delta Nj RS getAttrBy
 repeat (any_goals (first|assumption|exact isL _|((with_reducible show aG _ _ (call (qG "list.__getattribute__") _ _) _ _ _);refine lR F.slot_list_getattribute (isL _) am_entry_list_getattribute (F.args_list_getattribute_2 _ _) (meets_getattribute_miss_list a xs k sl "keys" _ lk (by decide) (by size_fits)) #[hx,hA,λh' tk' e hx'=>?_])|wp_step))
 let#[x1,x2,there]:=hx'.there;change aG _ _ (Cw _ _ _ _ _ _ _) _ _ _;delta Cw
 repeat (any_goals (first|wp_step|assumption))
 exact h _ _ hx'.keeps
end
section
variable{prog:br}{w:bE}{K:Type} [dz K] {knd:KeyKind prog w K}{A:b7}{E:Z->aj->Prop}{s:aj}
def IsTuple.keep{h h':Heap}(x:h.IsTuple t xs)(hk:∀b o,h.get? b=M o->h'.get? b=M o):h'.IsTuple t xs:=
 let⟨o,ho,r⟩:=x;#[o,hk _ _ ho,r]
def IsList.keep{h h':Heap}(x:h.IsList t xs)(hk:∀b o,h.get? b=M o->h'.get? b=M o):h'.IsList t xs:=
 let⟨o,ho,r⟩:=x;#[o,hk _ _ ho,r]
def DictOf.keep'{h h':Heap}(x:h.DictOf knd d kvs)(hk:∀b o,h.get? b=M o->h'.get? b=M o):h'.DictOf knd d kvs:=
 let⟨o,es,ep,ho,r⟩:=x;#[o,es,ep,hk _ _ ho,r]
def E8{l:Addr}{Q:Z->aj->Prop}(hA:A.handled=B)(ho:s.heap.get? l=M o)(hc:o.cls=.type "list")(hdat:o.data=.seq items n)(hno:o.dict=B)(hp:yM knd s.heap items ps)(hsz:zl ps<=ao)(h:∀(h':Heap) (tk:Nat),h'.DictOf knd s.heap.objs.size (Iz [] ps)->(∀b o,s.heap.get? b=M o->h'.get? b=M o)->Q (.ref s.heap.objs.size) { s with heap:=h',toks:=tk }):aG (aJ prog w) A (call (.type "dict") [.ref l]) Q E s:=by
 refine zm (Q₁:=λmade st=>made=.ref s.heap.objs.size/\st={ s with heap:=s.heap.push { cls:=.type "dict",data:=.dict #[] } }) F.kt_called_dict (F.kt_typeCall_dict_1 _) F.entry_dict_init (kt_code_dict_new _ #[rfl,rfl]) ?_;rintro made st ⟨rfl,rfl⟩;have void:(s.heap.push { cls:=.type "dict",data:=.dict #[] }).DictOf knd s.heap.objs.size []:=GK s.heap;have hl1:(s.heap.push { cls:=.type "dict",data:=.dict #[] }).get? l=M o:=aq _ ho;have hT1:({ s with heap:=s.heap.push { cls:=.type "dict",data:=.dict #[] } }:aj).TypeIs (.ref l) "list":=#[o,hl1,hc];refine#[void.typeIs,F.args_dict_init_2 _ _,?_]
 delta mK.«dict.__init__»;refine ah ?_;delta Nk
 refine ah<|zo void.typeIs ?_;change aG _ _ (pure (s.heap.objs.size,[bH l])) _ _ _;refine au ?_;show aG _ _ (xg "dict.__init__" s.heap.objs.size (.ref l) [] .none) _ _ _
 delta xg
 refine ah<|mL hT1 ?_;rw[aQ<|by decide];have hA2:A.in1.in1.handled=B:=hA;refine ah<|Ln hl1 hc hdat hno hA2 λh2 tk2 hk2=>?_;show aG _ _ (rule _ >>= _) _ _ _;refine ah<|RT ?_;have hl2:h2.IsList l items:=#[o,hk2 _ _ hl1,hc,n,hdat];refine ah<|pY hl2 ?_;have hk1:∀b o,s.heap.get? b=M o->h2.get? b=M o:=λb o e=>hk2 b o<|aq _ e;have hk3:∀b o,h2.get? b=M o->(h2.push { cls:=.type "list_iterator",data:=.fields (List.toArray [.ref l,.int 0 0]) }).get? b=M o:=λb o e=>aq _ e;have hd2:h2.DictOf knd s.heap.objs.size []:=DictOf.keep' void hk2;refine au #[iw F.qo _,Ef hA2 .none hsz (zl ps) 0 _ [] rfl (c7 _) (aM _)
  #[_,aU _ rfl,rfl,rfl] (IsList.keep hl2 hk3) (hp.keep λt xs a=>IsTuple.keep (IsTuple.keep a hk1) hk3) (DictOf.keep' hd2 hk3) λh4 tk4 _ hd4 hk4=>?_]
 refine#[rfl,h h4 tk4 hd4 λb o e=>hk4 b o ?_ ?_<|hk3 _ _<|hk1 _ _ e]
 .rintro rfl;exact aC (aF e)<|dm _
 .rintro rfl;exact aC (aF<|hk1 _ _ e)<|dm _
end
end PySem
end
section
namespace L2
open PySem PySem.Spec PyProof.Rows
abbrev Key:=Sum Int Str
noncomputable def C3:Key->Z->Bool
|.inl k,v=>Oo k v
|.inr x,v=>Kp x v
noncomputable def keyH(w:bE):Key->Int
|.inl k=>hashInt k
|.inr x=>hashStr w x
def jf:∀{k:Key}{v:Z},C3 k v=W->(∃i t,k=lF i/\v=JR i t)\/(∃x t,k=eG x/\v=JS x t)
|.inl i,v,h=>by
 let#[t,e]:=Value.isInt_shape (k:=i) (v:=v) h;exact .inl #[i,t,rfl,e]
|.inr x,v,h=>by
 let#[t,e]:=Value.isStrOf_shape (x:=x) (v:=v) h;exact .inr #[x,t,rfl,e]
def Ss(i:Int)(t:Tok):C3 (.inl i) (.int i t)=W:=by simp[C3,Oo]
def Su(x:Str)(t:Tok):C3 (.inr x) (.str x t)=W:=by simp[C3,Kp]
def acW(a b:Int):decide ((lF a:Key)=lF b)=(a==b):=by lia
def acX(a b:Str):decide ((eG a:Key)=eG b)=decide (a=b):=by simp
def acY(a:Int)(b:Str):decide ((lF a:Key)=eG b)=J:=aK λq=>nomatch q
def acZ(a:Str)(b:Int):decide ((eG a:Key)=lF b)=J:=aK λq=>nomatch q
def fM(prog:br)(w:bE):PySem.KeyKind prog w Key where
 is:=C3
 hash:=keyH w
 inj:=λv a b ha hb=>by
  rcases jf ha with⟨i,t,rfl,rfl⟩|⟨x,t,rfl,rfl⟩
  .rcases jf hb with⟨j,u,rfl,e⟩|⟨y,u,rfl,e⟩
   .injection e with e1 _;rw[e1]
   .exact nomatch e
  .rcases jf hb with⟨j,u,rfl,e⟩|⟨y,u,rfl,e⟩
   .exact nomatch e
   .injection e with e1 _;rw[e1]
 byValue:=λk v h=>by
  rcases jf h with⟨i,t,rfl,rfl⟩|⟨x,t,rfl,rfl⟩<;>rfl
 pyHash:=λhv h=>by
  rcases jf hv with⟨i,t,rfl,rfl⟩|⟨x,t,rfl,rfl⟩
  .exact wpAny_pyHash_int h
  .exact wpAny_pyHash_str h
 eqBool:=λhu hv h=>by
  rcases jf hu with⟨i,t,rfl,rfl⟩|⟨x,t,rfl,rfl⟩
  .rcases jf hv with⟨j,u,rfl,rfl⟩|⟨y,u,rfl,rfl⟩
   .rw[acW]at h;exact ER h
   .rw[acY]at h;exact VH i t y u _ _ _ _ h
  .rcases jf hv with⟨j,u,rfl,rfl⟩|⟨y,u,rfl,rfl⟩
   .rw[acZ]at h;exact VI x t j u _ _ _ _ h
   .rw[acX]at h;exact wpAny_eqBool_str h
 «strs»:=λk x t v h=>by
  rcases jf h with⟨i,u,rfl,e⟩|⟨y,u,rfl,e⟩
  .exact nomatch e
  .injection e with e1 _;subst e1;cases v<;>rfl
def DN(prog:br)(w:bE)(i:Int)(t:Tok):(fM prog w).is (.inl i) (.int i t)=W:=Ss i t
def DO(prog:br)(w:bE)(x:Str)(t:Tok):(fM prog w).is (.inr x) (.str x t)=W:=Su x t
end L2
namespace L2
open PySem PySem.Spec PyProof.Rows
inductive V where
 |d|c (b:Bool)|b (i:Int)|e (x:Str)|h (b:Array UInt8)|g (b:UInt64)|a (a:Addr)|f (n:String)
 deriving dz
def RelV:V->Z->Prop
|.d,u=>u=fH
|.c b,u=>u=RU b
|.b i,u=>∃t,u=JR i t
|.e x,u=>∃t,u=JS x t
|.h b,u=>∃t,u=Value.bytes b t
|.g b,u=>∃t,u=Value.float b t
|.a a,u=>u=bH a
|.f n,u=>u=Value.type n
abbrev bO:L V->L Z->Prop:=Paired RelV
def bO.length{xs:L V}{us:L Z}(r:bO xs us):zl xs=zl us:=Paired.length r
theorem bO.get:∀{xs:L V}{us:L Z}{i:Nat}{x:V},bO xs us->xs[i]?=M x->∃u,us[i]?=M u/\RelV x u
|_,_,_,_,.nil,e=>by simp at e
|_,_,0,_,.cons r _,e=>by simp at e;subst e;exact#[_,rfl,r]
|_,_,i+1,x,.cons _ t,e=>by
 let#[u,h1,h2]:=bO.get (i:=i) (x:=x) t (by simpa using e);exact#[u,by simpa using h1,h2]
theorem bO.set(r:RelV x u):∀{xs:L V}{us:L Z} (i:Nat),bO xs us->bO (xs.set i x) (us.set i u)
|_,_,_,.nil=>.nil
|_,_,0,.cons _ t=>.cons r t
|_,_,i+1,.cons q t=>.cons q<|bO.set r i t
theorem bO.append{xs ys:L V}{us ws:L Z}(p:bO xs us)(s:bO ys ws):bO (xs++ys) (us++ws):=by
 induction p with
 |nil=>exact s
 |cons r _ ih=>exact .cons r ih
def Paired.C4{α β:Type}{R:α->β->Prop}{x:α}{xs:L α}{ys:L β}(p:Paired R (x::xs) ys):∃y r,ys=y::r/\R x y/\Paired R xs r:=by
 cases p with
 |cons a b=>exact#[_,_,rfl,a,b]
def Paired.afL{α β:Type}{R:α->β->Prop}{y:β}{xs:L α}{ys:L β}(p:Paired R xs (y::ys)):∃x r,xs=x::r/\R x y/\Paired R r ys:=by
 cases p with
 |cons a b=>exact#[_,_,rfl,a,b]
def Paired.Wc{α β:Type}{R:α->β->Prop}{ys:L β}(p:Paired R [] ys):ys=[]:=by cases p;rfl
theorem bO.take:∀{xs:L V}{us:L Z} (n:Nat),bO xs us->bO (xs.take n) (us.take n)
|_,_,0,_=>.nil
|_,_,_+1,.nil=>.nil
|_,_,n+1,.cons r t=>.cons r<|bO.take n t
theorem bO.drop:∀{xs:L V}{us:L Z} (n:Nat),bO xs us->bO (xs.drop n) (us.drop n)
|_,_,0,r=>r
|_,_,_+1,.nil=>.nil
|_,_,n+1,.cons _ t=>bO.drop n t
def sS:aah V->aah Z->Prop
|some v,M u=>RelV v u
|none,B=>True
|_,_=>bu
def KV{κ:Type}:L (κ×V)->L (κ×Z)->Prop:=Paired λ(p:κ×V) (q:κ×Z)=>p.1=q.1/\RelV p.2 q.2
noncomputable def kV:Key->V
|.inl i=>.b i
|.inr x=>.e x
inductive HO where
|a (xs:L V)
|b (xs:L V)
|c (kvs:L (Key×V))|d (kvs:L (L Key×V))
|i (S:Int->Bool) (n:Nat)
|j (C dx:Addr) (fs:L (Str×V))
|e (x:Addr)
|k (fs:L (Str×V))
|m (f x:Addr)
|l (lo hi:Int)
|f (o:Obj) (u:HO)
|g (ps:Array Z)
|h (φ:Heap->Prop)
abbrev Hp:=Addr->aah HO
noncomputable def upd(H:Hp)(a:Addr)(o:HO):Hp:=λb=>if b=a then M o else H b
def c5:upd H a o a=M o:=by unfold upd;rw[aQ rfl]
def bq(h:b≠a):upd H a o b=H b:=by unfold upd;rw[aE h]
def afM{H:Hp}(h:H a=M o)(h':H b=M u)(d:o≠u):a≠b:=by lia
def bZ{H:Hp}(h:H a=M o)(h':H b=B):a≠b:=by lia
noncomputable def tabQ(ps:Array Z):Str:=match ps.toList with
|.str q _::_=>q
|_=>""
def ZE(H:Hp)(h:Heap)(a:Addr)(ps:Array Z):Prop:=∃qs,h.get? a=M { cls:=.none,data:=.fields qs }/\TriplesOk qs.toList/\∀pos cv,codeAmong pos qs.toList=M cv->∃c' oc vs tq,cv=.ref c'/\H c'=M (.f oc<|.e a)/\oc.data=.fields vs/\vs[1]?=M (.str (tabQ ps) tq)
section
variable(P:br) (w:bE)
def fR(H:Hp)(h:Heap)(a:Addr):HO->Prop
|.a xs=>zl xs<=ao/\∃(its:L Z) (n:Nat),bO xs its/\h.get? a=M { cls:=.type "list",data:=.seq its.toArray n }
|.b xs=>zl xs<=ao/\∃its:L Z,bO xs its/\IsTup h a its.toArray
|.c kvs=>zl kvs<=ao/\(a==iS)=J/\∃vs,KV kvs vs/\h.DictOf (fM P w) a vs
|.d kvs=>zl kvs<=ao/\(a==iS)=J/\∃xs:L<|L Key×Addr×Z,
  Paired (λ(p:L Key×V) (q:L Key×Addr×Z)=>p.1=q.1/\H q.2.1=M (.b<|p.1.map kV)/\RelV p.2 q.2.2) kvs xs /\
  ∃o es ep,h.get? a=M o/\o.ExactDict/\o.data=.dict es ep/\es.toList=xs.map (RV<|rC<|fM P w)/\(xs.map (·.1)).Nodup
|.i S n=>h.SetOf (intKind P w) a S n
|.j C dx fs=>H dx=M (.e a)/\zl fs<=1000/\dx≠a/\h.get? a=M (GL C dx) /\
  ∃mA,h.Ns1 dx mA/\(∀f,sS (fs.lookup f)<|mA f)/\Nl mA (fs.map (·.1))
|.e _=>∃o,h.get? a=M o
|.k fs=>∃mA,h.Ns1 a mA/\∀f,sS (fs.lookup f)<|mA f
|.l lo hi=>∃t u v,h.get? a=M { cls:=.type "range",data:=.fields (List.toArray [.int lo t,.int hi u,.int 1 v]) }
|.f o u=>h.get? a=M o/\fR H h a u
|.g ps=>ZE H h a ps
|.m f x=>h.get? a=M (V8 (.ref f)<|.ref x)
|.h φ=>φ h/\(∃o,h.get? a=M o)/\∀h1 h2:Heap,φ h1->(∀o,h1.get? a=M o->h2.get? a=M o)->φ h2
def gZ(H:Hp)(h:Heap):Prop:=∀a o,H a=M o->fR P w H h a o
end
section
variable{P:br}{w:bE}{H H':Hp}{h h':Heap}{a:Addr}{o:HO}
def fR.lt(x:fR P w H h a o):a<h.objs.size:=by
 cases o with
 |a xs=>let#[_,_,_,_,e]:=x;exact aF e
 |b xs=>let#[_,_,_,p]:=x;exact p.lt
 |c kvs=>let#[_,_,_,_,o,_,_,e,_]:=x;exact aF e
 |d kvs=>let#[_,_,_,_,o,_,_,e,_]:=x;exact aF e
 |i S n=>let#[o,_,_,_,e,_]:=x;exact aF e
 |j C dx fs=>let#[_,_,_,e,_]:=x;exact aF e
 |e y=>let#[_,e]:=x;exact aF e
 |k fs=>let#[_,#[_,_,_,e,_],_]:=x;exact aF e
 |l lo hi=>let#[_,_,_,e]:=x;exact aF e
 |f ob u=>let#[e,_]:=x;exact aF e
 |g ps=>let#[_,e,_]:=x;exact aF e
 |m f y=>exact aF (show h.get? a=M _ from x)
 |h φ=>let#[_,#[_,e],_]:=x;exact aF e
theorem Paired.Wd{α β:Type}{F G:α->β->Prop}{l₁:L α}{ajs:L β}(p:Paired F l₁ ajs)(f:∀a b,F a b->G a b):Paired G l₁ ajs:=by
 induction p with
 |nil=>exact .nil
 |cons r _ ih=>exact .cons (f _ _ r) ih
def Paired.imp'{α β:Type}{F G:α->β->Prop}(f:∀a b,F a b->G a b){l₁:L α}{ajs:L β}(r:Paired F l₁ ajs):Paired G l₁ ajs:=Paired.Wd r f
def fR.stay(x:fR P w H h a o)(k:∀b u,(b=a\/H b=M (.e a))->h.get? b=M u->h'.get? b=M u)(ho:∀b,H b=M (.e a)->H' b=M (.e a))(ht:∀b xs,H b=M (.b xs)->H' b=M (.b xs))(hf:∀b o u,H b=M (.f o u)->H' b=M (.f o u)):fR P w H' h' a o:=by
 induction o with
 |a xs=>let#[z,its,n,r,e]:=x;exact#[z,its,n,r,k _ _ (.inl rfl) e]
 |b xs=>let#[z,its,r,ob,e,c]:=x;exact#[z,its,r,ob,k _ _ (.inl rfl) e,c]
 |c kvs=>let#[z,y,vs,r,ob,es,ep,e,c]:=x;exact#[z,y,vs,r,ob,es,ep,k _ _ (.inl rfl) e,c]
 |d kvs=>
  let#[z,y,xs,r,ob,es,ep,e,c]:=x;exact#[z,y,xs,Paired.Wd r λp q z=>#[z.1,ht _ _ z.2.1,z.2.2],ob,es,ep,k _ _ (.inl rfl) e,c]
 |i S n=>let#[ob,es,ep,t,e,c]:=x;exact#[ob,es,ep,t,k _ _ (.inl rfl) e,c]
 |j C dx fs=>
  let#[d,z,ne,e,mA,#[od,es,ep,e2,c],r]:=x;exact#[ho _ d,z,ne,k _ _ (.inl rfl) e,mA,#[od,es,ep,k _ _ (.inr d) e2,c],r]
 |e y=>let#[ob,e]:=x;exact#[ob,k _ _ (.inl rfl) e]
 |k fs=>let#[mA,#[od,es,ep,e,c],r]:=x;exact#[mA,#[od,es,ep,k _ _ (.inl rfl) e,c],r]
 |l lo hi=>let#[t,u,v,e]:=x;exact#[t,u,v,k _ _ (.inl rfl) e]
 |f ob u ih=>let#[e,q]:=x;exact#[k _ _ (.inl rfl) e,ih q]
 |g ps=>
  let#[qs,e,t,c]:=x;refine#[qs,k _ _ (.inl rfl) e,t,λpos cv q=>?_];let#[c',oc,vs,tq,rfl,e2,z]:=c pos cv q;exact#[c',oc,vs,tq,rfl,hf _ _ _ e2,z]
 |m f y=>
  have e:=x;exact k a _ (.inl rfl) e
 |h φ=>let#[p,#[o,e],st]:=x;exact#[st _ _ p λo q=>k _ _ (.inl rfl) q,#[o,k _ _ (.inl rfl) e],st]
def gZ.lt(x:gZ P w H h)(e:H a=M o):a<h.objs.size:=(x a o e).lt
def gZ.fresh(x:gZ P w H h)(e:h.objs.size<=a):H a=B:=by
 cases q:H a with
 |none=>rfl
 |some u=>exact aC (bQ (x.lt q) e)<|dm _
def gZ.kept(x:gZ P w H h)(k:∀b u,h.get? b=M u->h'.get? b=M u):gZ P w H h':=λa o e=>
 (x a o e).stay (λb u _ q=>k b u q) (λ_ q=>q) (λ_ _ q=>q) λ_ _ _ q=>q
def gZ.laid(x:gZ P w H h)(k:∀b u,h.get? b=M u->h'.get? b=M u)(hp:h.objs.size<=a)(new:fR P w (upd H a o) h' a o):gZ P w (upd H a o) h':=λb u e=>by
 have hn:=x.fresh hp;by_cases hb:b=a
 .subst hb;rw[c5]at e;cases e;exact new
 .rw[bq hb]at e;exact(x b u e).stay (λc v _ q=>k c v q) (λc q=>by rw[bq<|bZ q hn];exact q) (λc xs q=>by rw[bq<|bZ q hn];exact q) λc ob xs q=>by rw[bq<|bZ q hn];exact q
end
def Rd(H:Hp)(a:Addr)(u:HO):Prop:=H a=M u\/∃o,H a=M (.f o u)
def Rd.ok(r:Rd H a u)(x:gZ P w H h):fR P w H h a u:=by
 rcases r with r|⟨o,r⟩
 .exact x a u r
 .obtain⟨_,q⟩:=x a _ r;exact q
def Sv:aah HO->Prop
|some (.a _)=>True
|some (.c _)=>True
|some (.d _)=>True
|some (.i _ _)=>True
|some (.j _ _ _)=>True
|some (.h _)=>True
|_=>bu
section
variable{P:br}{w:bE}{H:Hp}{h h':Heap}{x e:Addr}{o':HO}
def gZ.write(ok:gZ P w H h)(mu:Sv<|H x)(he:e=x\/H e=M (.e x))(k:∀b u,b≠e->h.get? b=M u->h'.get? b=M u)(heo:∃u,h'.get? e=M u)(new:fR P w (upd H x o') h' x o'):gZ P w (upd H x o') h':=λb u q=>by
 have nown:∀c y,H c=M (.e y)->c≠x:=λc y r z=>by subst z;rw[r]at mu;exact mu
 have ntup:∀c xs,H c=M (.b xs)->c≠x:=λc xs r z=>by subst z;rw[r]at mu;exact mu
 by_cases hb:b=x
 .subst hb;rw[c5]at q;cases q;exact new
 .rw[bq hb]at q;by_cases hbe:b=e
  .have q':H b=M (.e x):=by
    rcases he with z|z
    .exact aC (hbe.trans z) hb
    .rw[hbe];exact z
   rw[q]at q';cases q';let#[v,hv]:=heo;exact#[v,by rw[hbe];exact hv]
  .refine(ok b u q).stay (λc v hc r=>k c v ?_ r) (λc r=>by rw[bq<|nown c b r];exact r) (λc xs r=>by rw[bq<|ntup c xs r];exact r) λc ob xs r=>by rw[bq λz=>by subst z;rw[r]at mu;exact mu];exact r
   rcases hc with rfl|hc
   .exact hbe
   .rintro rfl;rcases he with z|z
    .exact nown c b hc z
    .rw[hc]at z;cases z;exact hb rfl
end
structure Un (fs ex:L Addr) (H H':Hp) (h h':Heap):Prop where
 keep:∀b o,h.get? b=M o->H b=B->b∉fs->b∉ex->h'.get? b=M o
 slot:∀b o,h.get? b=M o->H b=B->b∈fs->b∉ex->∃sl,h'.get? b=M { o with slots:=sl }
 free:∀b o,h.get? b=M o->H b=B->b∉ex->H' b=B
 there:∀b o,h.get? b=M o->b∉ex->∃o',h'.get? b=M o'
 tups:∀b xs,H b=M (.b xs)->H' b=M (.b xs)
 aH:∀b o u,H b=M (.f o u)->H' b=M (.f o u)
 tbls:∀b ps,H b=M (.g ps)->∃more,H' b=M (.g (ps++more))
section
variable{fs fs' ex ex':L Addr}{H H1 H2:Hp}{h h1 h2 h':Heap}{a x e:Addr}{o:HO}
def Un.any(u:Un fs ex H H1 h h1)(q:h.get? b=M ob)(n:H b=B)(hx:b∉ex):∃sl,h1.get? b=M { ob with slots:=sl }:=by
 by_cases hb:b∈fs
 .exact u.slot b ob q n hb hx
 .exact#[ob.slots,u.keep b ob q n hb hx]
def Un.kept(k:∀b u,h.get? b=M u->h'.get? b=M u):Un fs ex H H h h':=
 #[λb ob q _ _ _=>k b ob q,λb ob q _ _ _=>#[ob.slots,k b ob q],λ_ _ _ n _=>n,λb ob q _=>#[ob,k b ob q],λ_ _ q=>q,λ_ _ _ q=>q,λ_ ps q=>#[#[],by rw[q];simp]]
def Un.refl:Un fs ex H H h h:=Un.kept λ_ _ q=>q
def Un.laid(k:∀b u,h.get? b=M u->h'.get? b=M u)(hp:h.objs.size<=a)(hn:H a=B):Un fs ex H (upd H a o) h h' where
 keep:=λb u q _ _ _=>k b u q
 slot:=λb u q _ _ _=>#[u.slots,k b u q]
 free:=λb u q n _=>by rw[bq<|aZ<|bQ (aF q) hp];exact n
 there:=λb u q _=>#[u,k b u q]
 tups:=λb xs q=>by rw[bq<|bZ q hn];exact q
 aH:=λb u xs q=>by rw[bq<|bZ q hn];exact q
 tbls:=λb ps q=>#[#[],by rw[bq<|bZ q hn,q];simp]
def Un.write(mu:Sv<|H x)(he:e=x\/H e=M (.e x))(k:∀b u,b≠e->h.get? b=M u->h'.get? b=M u)(heo:∃u,h'.get? e=M u):Un fs ex H (upd H x o) h h':=by
 have hx:∀b,H b=B->b≠x:=λb n z=>by subst z;rw[n]at mu;exact mu
 have hb:∀b,H b=B->b≠e:=λb n z=>by
  subst z;rcases he with r|r
  .exact hx b n r
  .rw[n]at r;cases r
 have hm:∀b u,H b=M u->¬Sv (M u)->b≠x:=λb u q nm z=>by subst z;rw[q]at mu;exact nm mu
 refine#[λb u q n _ _=>k b u (hb b n) q,λb u q n _ _=>#[u.slots,k b u (hb b n) q],λb u q n _=>by rw[bq<|hx b n];exact n,λb u q _=>?_,
  λb xs q=>by rw[bq<|hm b _ q λz=>z];exact q,λb u xs q=>by rw[bq<|hm b _ q λz=>z];exact q,λb ps q=>#[#[],by rw[bq<|hm b _ q λz=>z,q];simp]]
 by_cases hbe:b=e
 .subst hbe;exact heo
 .exact#[u,k b u hbe q]
end
noncomputable def ZF(h:Heap)(H:Hp):L Addr:=(bg h.objs.size).filter λa=>(H a).isSome
def zO(h:Heap)(H:Hp):Heap:=PySem.W.hideAll h<|ZF h H
def Sw(h:Heap)(H:Hp):(zO h H).objs.size=h.objs.size:=RW _ _
def We(e:h.get? b=M o)(n:H b=B):(zO h H).get? b=M o:=
 Sj _ e λhm=>by
  have q:=(xM.mp hm).2;rw[n]at q;simp at q
def aaM(e:(zO h H).get? b=M o):h.get? b=M o/\H b=B:=by
 have e':=VJ (ZF h H) e;refine#[e',?_];cases q:H b with
 |none=>rfl
 |some x=>
  have hm:b∈ZF h H:=xM.mpr #[fO.mpr<|aF e',by simp[q]];have z:(zO h H).get? b=B:=RX (ZF h H) hm;rw[z]at e;cases e
noncomputable def aaN(g h:Heap)(aac:Addr):L (Addr×Obj):=(bg h.objs.size).filterMap λa=>if a=aac\/(g.get? a).isSome=W then B else(h.get? a).map λo=>(a,o)
def rest(g h:Heap)(aac d:Addr):L (Addr×Obj):=(aaN g h aac).filter λp=>decide<|p.1≠d
end L2
namespace L2
open PySem PySem.Spec PyProof.Rows
structure Mod (K:ak) (mg:Str->aah Z) (base:Heap):Prop where
 kin:K.In base
 glob:base.Ns d8 mg
 blt:∃mb,base.Ns pH mb/\∀x:Str,x≠"__name__"->mb x=oS x
 nolimit:base.NoLimit
 bmain:∃bm o,mg "__builtins__"=M (.ref bm)/\bm≠pH/\base.get? bm=M o/\o.cls=.type "module"/\o.dict=M pH/\o.data=.plain
structure Cx where
 prog:br
 w:bE
 K:ak
 mg:Str->aah Z
 base:Heap
 A:b7
 N:L Str
 ajg:aj
 ajr:Hp
 env:Env
 outer:L Env
 stack:L Env
 ex:L Addr
 fn:Str->Bool
 calm:Bool
 pn:L (Addr×Obj)
 xe:Z->aj->Prop
noncomputable def frs(l:L Env):L Addr:=l.filterMap (·.frame)
abbrev Cx.fs(X:Cx):L Addr:=frs X.outer
noncomputable def sE:L (Addr×Str):=[]
def Tb(H:Hp):Prop:=∀p∈sE,∃more,H p.1=M (.g<|#[.str p.2 0]++more)
def Tb.mono(t:Tb H)(h:∀b ps,H b=M (.g ps)->∃more,H' b=M (.g<|ps++more)):Tb H':=λp hp=>by
 let#[m,e]:=t p hp;let#[m',e']:=h _ _ e;exact#[m++m',by rw[e',Cy]]
def Lo(sc:iM)(x:Str):Prop:=sc.names.lookup x=M .local\/sc.names.lookup x=M .cell\/sc.names.lookup x=M .free
def Loc(sc:iM)(x:Str):Prop:=sc.names.lookup x=M .local\/sc.names.lookup x=M .cell
def Look(env:Env)(h:Heap)(m:Str->aah Z)(x:Str)(u:Z):Prop:=
 (env.kindOf x=M .local/\m x=M u)\/((env.kindOf x=M .cell\/env.kindOf x=M .free)/\∃c,env.cells.lookup x=M c/\h.IsCell c (M u))
structure Cx.Ok (X:Cx):Prop where
 mod:Mod X.K X.mg X.base
 kind:X.env.scope.kind=.function
 glob:X.env.globals=d8
 blt:X.env.builtins=pH
 above:X.ajg.heap.objs.size<=X.env.locals
 inj:∀x y c,X.env.cells.lookup x=M c->X.env.cells.lookup y=M c->x=y
 has:∀x,(X.env.kindOf x=M .cell\/X.env.kindOf x=M .free)->∃c,X.env.cells.lookup x=M c
 cab:∀x c,X.fn x=W->X.env.cells.lookup x=M c->X.ajg.heap.objs.size<=c
 hd:X.calm=W->X.A.handled=B
 frames:X.A.frames=M X.stack
 stk:X.stack=X.outer\/(X.stack=X.env::X.outer/\X.env.frame=M X.env.locals)
 exf:∀b∈X.ex,b≠X.env.locals/\∀x c,X.env.cells.lookup x=M c->c≠b
 bs:∀b o,X.base.get? b=M o->X.ajg.heap.get? b=M o/\X.ajr b=B
 bsz:X.base.objs.size<=X.ajg.heap.objs.size
 noex:∀b o,X.base.get? b=M o->b∉X.ex
 exfs:∀b∈X.ex,b∉X.fs
 rF:X.ajg.heap.FunFrames X.base X.outer
 frf:(∀b∈X.fs,X.ajr b=B)/\Tb X.ajr
structure Inv (X:Cx) (pins:L (Addr×Obj)) (U:L (aah V)) (H:Hp) (s:aj):Prop where
 ok:X.Ok
 os:s.os=X.ajg.os
 bare:nJ s.gens
 base:Un X.fs X.ex X.ajr H X.ajg.heap s.heap
 loc:∃m,s.heap.Ns X.env.locals m/\∀(i:Nat) (x:Str) (v:V),X.N[i]?=M x->U[i]?=M (M v)->Lo X.env.scope x->∃u,RelV v u/\Look X.env s.heap m x u
 cell:∀x c,X.env.cells.lookup x=M c->∃v,s.heap.IsCell c v
 free:H X.env.locals=B
 freeC:∀x c,X.env.cells.lookup x=M c->H c=B
 pin:∀p∈X.pn++pins,s.heap.get? p.1=M p.2/\H p.1=B/\p.1≠X.env.locals/\p.1∉X.fs/\∀v,p.2.data≠.cell v
 hok:gZ X.prog X.w H s.heap
 len:zl U=zl X.N
section
variable{X:Cx}{pins:L (Addr×Obj)}{U:L (aah V)}{H H':Hp}{s:aj}{h':Heap}
def Cx.Ok.nofr(ok:X.Ok)(e:X.base.get? b=M o):b∉X.fs:=λhb=>by
 have:=(ok.rF.mem hb).1;rw[e]at this;cases this
def Inv.bs(I:Inv X pins U H s):∀b o,X.base.get? b=M o->s.heap.get? b=M o/\H b=B:=λb o e=>
 #[I.base.keep b o (I.ok.bs b o e).1 (I.ok.bs b o e).2 (I.ok.nofr e)<|I.ok.noex b o e,I.base.free b o (I.ok.bs b o e).1 (I.ok.bs b o e).2<|I.ok.noex b o e]
def Inv.bk(I:Inv X pins U H s):∀b o,X.base.get? b=M o->s.heap.get? b=M o:=λb o e=>(I.bs b o e).1
def Inv.mod(I:Inv X pins U H s):Mod X.K X.mg X.base:=I.ok.mod
def Inv.p_(I:Inv X pins U H s):X.K.In s.heap:=I.ok.mod.kin.keeps I.bk
def Inv.lt(I:Inv X pins U H s):X.env.locals<s.heap.objs.size:=let⟨_,hn,_⟩:=I.loc;hn.lt
def Inv.sz(I:Inv X pins U H s):X.ajg.heap.objs.size<=s.heap.objs.size:=fB I.ok.above<|dG I.lt
def Inv.nofs(I:Inv X pins U H s)(h:s.heap.objs.size<=a):a∉X.fs:=λhb=>by
 let#[_,o,ho,_]:=I.ok.rF.mem hb;exact aC (bQ (aF ho)<|fB I.sz h)<|dm _
def Inv.E9(I:Inv X pins U H s):∀x c,X.env.cells.lookup x=M c->c≠X.env.locals:=λx c e z=>by
 let#[v,o,ho,hd]:=I.cell x c e;let#[m,#[o',es,ep,ho',hd',_],_]:=I.loc;rw[z,ho']at ho;cases ho;rw[hd']at hd;cases hd
def Inv.rF(I:Inv X pins U H s):s.heap.FunFrames X.base X.outer:=by
 have all:∀(l:L Env),(∀b∈frs l,b∈X.fs)->X.ajg.heap.FunFrames X.base l->s.heap.FunFrames X.base l:=by
  intro l;induction l with
  |nil=>intro _ _;trivial
  |cons env r ih=>
   intro hs hl;let#[hk,#[aac,o,hf,hn,ho,hd],hr]:=hl;have hL:=hs aac (by unfold frs;rw[nO,hf];exact aD);let#[sl,e]:=I.base.slot aac o ho (I.ok.frf.1 aac hL) hL λz=>I.ok.exfs aac z hL;exact#[hk,#[aac,_,hf,hn,e,hd],ih (λb hb=>hs b (by unfold frs;rw[nO,hf];exact az _ hb)) hr]
 exact all X.outer (λ_ hb=>hb) I.ok.rF
def Inv.stack(I:Inv X pins U H s):s.heap.FunFrames X.base X.stack:=by
 rcases I.ok.stk with e|⟨e,hf⟩
 .rw[e];exact I.rF
 .rw[e];let#[m,hn,_]:=I.loc;refine .cons (by rw[I.ok.kind];decide) hf hn ?_ I.rF;exact Heap.get?_none_of_le<|fB I.ok.bsz I.ok.above
def Inv.yN(I:Inv X pins U H s):∀b∈frs X.stack,b∈X.env.locals::X.fs:=λb hb=>by
 rcases I.ok.stk with e|⟨e,hf⟩
 .rw[e]at hb;exact az _ hb
 .rw[e]at hb;unfold frs at hb;rw[nO,hf]at hb;exact hb
def Inv.tb(I:Inv X pins U H s):Tb H:=I.ok.frf.2.mono I.base.tbls
def Inv.G9(I:Inv X pins U H s):∀b∈frs X.stack,H b=B:=λb hb=>by
 rcases aY.mp (I.yN b hb)with e|hb
 .rw[e];exact I.free
 .obtain⟨_,o,ho,_⟩:=I.ok.rF.mem hb;exact I.base.free b o ho (I.ok.frf.1 b hb) λz=>I.ok.exfs b z hb
def Inv.step{g':Array ES}{t':Nat}{d':RY}{ch:L Addr}(I:Inv X pins U H s)(hch:∀b∈ch,(b∈X.ex\/X.ajg.heap.objs.size<=b)/\b≠X.env.locals/\(∀x c,X.env.cells.lookup x=M c->c≠b)/\∀p∈X.pn++pins,p.1≠b)(keep:∀b o,b≠X.env.locals->b∉X.fs->b∉ch->s.heap.get? b=M o->H b=B->h'.get? b=M o)(slot:∀b o,b≠X.env.locals->b∈X.fs->b∉ch->s.heap.get? b=M o->H b=B->∃sl,h'.get? b=M { o with slots:=sl })(free:∀b o,b∉ch->s.heap.get? b=M o->H b=B->H' b=B)(there:∀b o,b∉ch->s.heap.get? b=M o->∃o',h'.get? b=M o')(tups:∀b xs,H b=M (.b xs)->H' b=M (.b xs))(aH:∀b o u,H b=M (.f o u)->H' b=M (.f o u))(tbls:∀b ps,H b=M (.g ps)->∃more,H' b=M (.g<|ps++more))(ns:∀m,s.heap.Ns X.env.locals m->h'.Ns X.env.locals m)(hok:gZ X.prog X.w H' h')(hg:nJ g'):Inv X pins U H' { s with heap:=h',gens:=g',drawn:=d',toks:=t' }:=by
 have neL:∀b o,X.ajg.heap.get? b=M o->b≠X.env.locals:=λb o e=>aZ<|bQ (aF e) I.ok.above;have neC:∀b o,X.ajg.heap.get? b=M o->b∉X.ex->b∉ch:=λb o e hx hb=>by
  rcases(hch b hb).1 with z|z
  .exact hx z
  .exact aC (bQ (aF e) z) (dm _)
 have cellK:∀x c,X.env.cells.lookup x=M c->∀v,s.heap.IsCell c v->h'.IsCell c v:=λx c e v ⟨o,ho,hd⟩=>by
  have nch:=λz=>(hch c z).2.2.1 x c e rfl;by_cases hc:c∈X.fs
  .obtain⟨sl,q⟩:=slot c o (I.E9 x c e) hc nch ho<|I.freeC x c e;exact#[_,q,hd]
  .exact#[o,keep c o (I.E9 x c e) hc nch ho<|I.freeC x c e,hd]
 refine#[I.ok,I.os,hg,#[λb o e n hb hx=>?_,λb o e n hb hx=>?_,λb o e n hx=>?_,λb o e hx=>?_,λb xs e=>tups b xs<|I.base.tups b xs e,λb o xs e=>aH b o xs<|I.base.aH b o xs e,λb ps e=>?_],?_,λx c e=>?_,?_,λx c e=>?_,λp hp=>?_,hok,I.len]
 .exact keep b o (neL b o e) hb (neC b o e hx) (I.base.keep b o e n hb hx) (I.base.free b o e n hx)
 .obtain⟨sl,e1⟩:=I.base.slot b o e n hb hx;let#[sl',e2]:=slot b _ (neL b o e) hb (neC b o e hx) e1<|I.base.free b o e n hx;exact#[sl',e2]
 .obtain⟨o',e1⟩:=I.base.there b o e hx;exact free b o' (neC b o e hx) e1<|I.base.free b o e n hx
 .obtain⟨o',e1⟩:=I.base.there b o e hx;exact there b o' (neC b o e hx) e1
 .obtain⟨m1,e1⟩:=I.base.tbls b ps e;let#[m2,e2]:=tbls b _ e1;exact#[m1++m2,by rw[e2,Cy]]
 .obtain⟨m,hn,hl⟩:=I.loc;refine#[m,ns m hn,λi x v e1 e2 e3=>?_];let#[u,r,l]:=hl i x v e1 e2 e3;refine#[u,r,?_];rcases l with l|⟨k,c,e,z⟩
  .exact .inl l
  .exact .inr #[k,c,e,cellK x c e _ z]
 .obtain⟨v,z⟩:=I.cell x c e;exact#[v,cellK x c e v z]
 .obtain⟨m,⟨o,_,_,ho,_⟩,_⟩:=I.loc;exact free _ o (λz=>(hch _ z).2.1 rfl) ho I.free
 .obtain⟨v,o,ho,hd⟩:=I.cell x c e;exact free c o (λz=>(hch c z).2.2.1 x c e rfl) ho<|I.freeC x c e
 .obtain⟨e,n,ne,nf,d⟩:=I.pin p hp;have nch:=λz=>(hch p.1 z).2.2.2 p hp rfl;exact#[keep p.1 p.2 ne nf nch e n,free p.1 p.2 nch e n,ne,nf,d]
def Inv.un{t':Nat}(I:Inv X pins U H s)(u:Un X.fs [] H H' s.heap h')(hok:gZ X.prog X.w H' h'):Inv X pins U H' { s with heap:=h',toks:=t' }:=by
 let#[m,#[o,es,ep,ho,r],_]:=id I.loc;let#[sl,hL]:=u.any ho I.free (by simp);exact I.step (g':=s.gens) (d':=s.drawn) (ch:=[]) (λ_ z=>nomatch z) (λb o _ hb _ e n=>u.keep b o e n hb<|by simp) (λb o _ hb _ e n=>u.slot b o e n hb<|by simp) (λb o _ e n=>u.free b o e n<|by simp) (λb o _ e=>u.there b o e<|by simp) u.tups u.aH u.tbls (λm' hm=>by
  let#[o',es',ep',ho',r']:=hm;rw[ho]at ho';cases ho';exact#[_,es',ep',hL,r']) hok I.bare
def Inv.call{g':Array ES}{t':Nat}{d':RY}{ch:L Addr}(I:Inv X pins U H s)(u:Un (frs X.stack) ch H H' s.heap h')(hok:gZ X.prog X.w H' h')(hg:nJ g')(hch:∀b∈ch,(b∈X.ex\/X.ajg.heap.objs.size<=b)/\b≠X.env.locals/\(∀x c,X.env.cells.lookup x=M c->c≠b)/\∀p∈X.pn++pins,p.1≠b):Inv X pins U H' { s with heap:=h',gens:=g',drawn:=d',toks:=t' }:=by
 let#[m,#[o,es,ep,ho,r],_]:=id I.loc;let#[sl,hL]:=u.any ho I.free λz=>(hch _ z).2.1 rfl;exact I.step (ch:=ch) hch (λb o hL hb hc e n=>u.keep b o e n (λz=>(aY.mp<|I.yN b z).elim hL hb) hc) (λb o _ _ hc e n=>u.any e n hc) (λb o hc e n=>u.free b o e n hc) (λb o hc e=>u.there b o e hc) u.tups u.aH u.tbls (λm' hm=>by
  let#[o',es',ep',ho',r']:=hm;rw[ho]at ho';cases ho';exact#[_,es',ep',hL,r']) hok hg
def Inv.turned{t':Nat}{it:Addr}(I:Inv X pins U H s)(k:∀b o,b≠it->s.heap.get? b=M o->h'.get? b=M o)(hn:H it=B)(hL:it≠X.env.locals)(h1:it∈X.ex\/X.ajg.heap.objs.size<=it)(h2:∀x c,X.env.cells.lookup x=M c->c≠it)(h3:∀p∈X.pn++pins,p.1≠it):Inv X pins U H { s with heap:=h',toks:=t' }:=by
 have nit:∀b u,H b=M u->b≠it:=λb u e z=>by lia
 refine I.step (g':=s.gens) (d':=s.drawn) (ch:=[it]) (λb hb=>?_) (λb o _ _ hc e _=>k b o (λz=>hc<|by simp[z]) e) (λb o _ _ hc e _=>#[o.slots,k b o (λz=>hc<|by simp[z]) e]) (λ_ _ _ _ n=>n)
  (λb o hc e=>#[o,k b o (λz=>hc<|by simp[z]) e]) (λ_ _ e=>e) (λ_ _ _ e=>e) (λb ps e=>#[#[],by rw[e];simp]) (λm hm=>?_) (λb u e=>?_) I.bare
 .have e:b=it:=by simpa using hb
  subst e;exact#[h1,hL,h2,h3]
 .obtain⟨o,es,ep,ho,r⟩:=hm;exact#[o,es,ep,k _ o (dc hL) ho,r]
 .refine(I.hok b u e).stay (λc v hc q=>k c v ?_ q) (λ_ q=>q) (λ_ _ q=>q) λ_ _ _ q=>q;rcases hc with z|z
  .rw[z];exact nit b u e
  .exact nit c _ z
def Inv.tok(I:Inv X pins U H s)(t:Nat):Inv X pins U H { s with toks:=t }:=I.un (h':=s.heap) (t':=t) Un.refl I.hok
def Inv.kept{t':Nat}(I:Inv X pins U H s)(k:∀b u,s.heap.get? b=M u->h'.get? b=M u):Inv X pins U H { s with heap:=h',toks:=t' }:=I.un (Un.kept k)<|I.hok.kept k
def Inv.laid{t':Nat}(I:Inv X pins U H s)(k:∀b u,s.heap.get? b=M u->h'.get? b=M u)(hp:s.heap.objs.size<=a)(new:fR X.prog X.w (upd H a o) h' a o):Inv X pins U (upd H a o) { s with heap:=h',toks:=t' }:=I.un (Un.laid k hp<|I.hok.fresh hp)<|I.hok.laid k hp new
def Inv.write{t':Nat}(I:Inv X pins U H s)(mu:Sv<|H x)(he:e=x\/H e=M (.e x))(k:∀b u,b≠e->s.heap.get? b=M u->h'.get? b=M u)(heo:∃u,h'.get? e=M u)(new:fR X.prog X.w (upd H x o) h' x o):Inv X pins U (upd H x o) { s with heap:=h',toks:=t' }:=I.un (Un.write mu he k heo)<|I.hok.write mu he k heo new
def Inv.C5(I:Inv X pins U H s)(h:∀p∈pins',s.heap.get? p.1=M p.2/\H p.1=B/\p.1≠X.env.locals/\p.1∉X.fs/\∀v,p.2.data≠.cell v):Inv X pins' U H s:=
 #[I.ok,I.os,I.bare,I.base,I.loc,I.cell,I.free,I.freeC,λp hp=>(bC.mp hp).elim (λz=>I.pin p<|cF _ z)<|h p,I.hok,I.len]
def Eg{N:L Str}(hN:N.Nodup){i j:Nat}{x:Str}(a:N[i]?=M x)(b:N[j]?=M x):i=j:=by
 let#[h1,e1]:=bL.mp a;let#[h2,e2]:=bL.mp b;exact(ET hN).mp (e1.trans e2.symm)
def IA{aab:RZ}{A:b7}{E:Z->aj->Prop}{i:Nat}{x:Str}{v:V}{u:Z}{Q:Unit->aj->Prop}(I:Inv X pins U H s)(hN:X.N.Nodup)(hi:X.N[i]?=M x)(hx:Loc X.env.scope x)(r:RelV v u)(h:∀s',Inv X pins (U.set i<|M v) H s'->(∃a,gp a s.heap s'.heap/\(a=X.env.locals\/X.env.cells.lookup x=M a))->Q () s')(hf:X.fn x=W\/X.env.scope.names.lookup x=M .local):aG aab A (JT X.env x u) Q E s:=by
 let#[m,hn,hl]:=id I.loc;have hcls:(X.env.scope.kind==.class||(X.env.scope.kind==.module&&X.env.locals != X.env.globals))=J:=by rw[I.ok.kind];rfl
 have ajG:i<zl U:=by rw[I.len];exact(bL.mp hi).1
 have E9:=I.E9;have tracked:∀{a:Addr}{h':Heap},(∃o,s.heap.get? a=M o/\H a=B)->gp a s.heap h'->gZ X.prog X.w H h':=λ{a h'} ha hs b ob e=>by
  let#[_,_,hfree]:=ha;refine(I.hok b ob e).stay (λc w' hc q=>(hs.2 c ?_).trans q) (λ_ q=>q) (λ_ _ q=>q) λ_ _ _ q=>q;rintro rfl;rcases hc with rfl|hc
  .rw[hfree]at e;cases e
  .rw[hfree]at hc;cases hc
 rcases hx with hk|hk
 .refine wpAny_storeName_local hk hn (λh' hn' hs=>?_) hcls;let#[oL,_,_,hoL,_]:=id hn;refine h _ #[I.ok,I.os,I.bare,#[λb o e n hb hx=>?_,λb o e n hb hx=>?_,I.base.free,λb o e hx=>?_,I.base.tups,I.base.aH,I.base.tbls],#[_,hn',λj y v' e1 e2 e3=>?_],λy c e=>?_,I.free,I.freeC,λp hp=>?_,tracked #[oL,hoL,I.free] hs,by simpa using I.len] #[_,hs,.inl rfl]
  .exact(hs.2 b<|aZ<|bQ (aF e) I.ok.above).trans (I.base.keep b o e n hb hx)
  .obtain⟨sl,e1⟩:=I.base.slot b o e n hb hx;exact#[sl,(hs.2 b<|aZ<|bQ (aF e) I.ok.above).trans e1]
  .obtain⟨o',e1⟩:=I.base.there b o e hx;exact#[o',(hs.2 b<|aZ<|bQ (aF e) I.ok.above).trans e1]
  .by_cases hj:j=i
   .subst hj;rw[hi]at e1;cases e1;rw[l7 ajG]at e2;cases e2;exact#[u,r,.inl #[hk,by simp]]
   .rw[cX<|dc hj]at e2;let#[u',r',q]:=hl j y v' e1 e2 e3;refine#[u',r',?_];rcases q with⟨k,e⟩|⟨k,c,e,z⟩
    .refine .inl #[k,?_];have:y≠x:=λe=>hj<|Eg hN e1<|e▸hi;simp[this,e]
    .exact .inr #[k,c,e,z.sameBut hs<|E9 y c e]
  .obtain⟨w',z⟩:=I.cell y c e;exact#[w',z.sameBut hs<|E9 y c e]
  .obtain⟨e,n,ne,nf,d⟩:=I.pin p hp;exact#[(hs.2 p.1 ne).trans e,n,ne,nf,d]
 .have hfn:X.fn x=W:=by
   rcases hf with z|z
   .exact z
   .rw[z]at hk;cases hk
  let#[c,hc]:=I.ok.has x<|.inl hk;let#[w',z]:=I.cell x c hc;refine wpAny_storeName_cell I.ok.kind hk hc z λh' hc' hs=>?_;let#[oc,hoc,hocd]:=id z;refine h { s with heap:=h' } #[I.ok,I.os,I.bare,#[λb o e n hb hx=>?_,λb o e n hb hx=>?_,I.base.free,λb o e hx=>?_,I.base.tups,I.base.aH,I.base.tbls],#[m,hn.sameBut hs<|dc<|E9 x c hc,λj y v' e1 e2 e3=>?_],λy c' e=>?_,I.free,I.freeC,λp hp=>?_,tracked #[oc,hoc,I.freeC x c hc] hs,by simpa using I.len] #[c,hs,.inr hc]
  .exact(hs.2 b<|aZ<|bQ (aF e)<|I.ok.cab x c hfn hc).trans (I.base.keep b o e n hb hx)
  .obtain⟨sl,e1⟩:=I.base.slot b o e n hb hx;exact#[sl,(hs.2 b<|aZ<|bQ (aF e)<|I.ok.cab x c hfn hc).trans e1]
  .obtain⟨o',e1⟩:=I.base.there b o e hx;exact#[o',(hs.2 b<|aZ<|bQ (aF e)<|I.ok.cab x c hfn hc).trans e1]
  .by_cases hj:j=i
   .subst hj;rw[hi]at e1;cases e1;rw[l7 ajG]at e2;cases e2;exact#[u,r,.inr #[.inl hk,c,hc,hc']]
   .rw[cX<|dc hj]at e2;let#[u',r',q]:=hl j y v' e1 e2 e3;refine#[u',r',?_];rcases q with q|⟨k,c',e,z'⟩
    .exact .inl q
    .refine .inr #[k,c',e,z'.sameBut hs ?_];rintro rfl;exact hj<|Eg hN e1<|I.ok.inj _ _ _ e hc▸hi
  .by_cases hcc:c'=c
   .subst hcc;exact#[_,hc']
   .obtain⟨w2,z2⟩:=I.cell y c' e;exact#[w2,z2.sameBut hs hcc]
  .obtain⟨e,n,ne,nf,d⟩:=I.pin p hp;refine#[(hs.2 p.1 ?_).trans e,n,ne,nf,d];intro q;rw[q,hoc]at e;have q':=cA e;exact d w' (by rw[<-q'];exact hocd)
def zP{E:Z->aj->Prop}{Q:Unit->aj->Prop}(I:Inv X pins U H s)(hN:X.N.Nodup)(hi:X.N[i]?=M x)(hx:Loc X.env.scope x)(r:RelV v u)(h:∀s',Inv X pins (U.set i<|M v) H s'->Q () s')(hf:X.fn x=W\/X.env.scope.names.lookup x=M .local):aG aab A (JT X.env x u) Q E s:=
 IA I hN hi hx r (λs' I' _=>h s' I') hf
def Inv.call'(I:Inv X pins U H s)(ho:s'.os=s.os)(u:Un (frs X.stack) ch H H' s.heap s'.heap)(hok:gZ X.prog X.w H' s'.heap)(hg:nJ s'.gens)(hch:∀b∈ch,(b∈X.ex\/X.ajg.heap.objs.size<=b)/\b≠X.env.locals/\(∀x c,X.env.cells.lookup x=M c->c≠b)/\∀p∈X.pn++pins,p.1≠b):Inv X pins U H' s':=by
 let#[h',g',d',t',o']:=s';have e:=ho;subst e;exact I.call (g':=g') (t':=t') (d':=d') u hok hg hch
end
abbrev XK:=Z->aah Addr->Hp->Prop
abbrev St:=L<|aah V
abbrev VK:=V->Hp->Prop
abbrev TE:=St->Hp->VK->Prop
abbrev TT:=St->Hp->(Bool->Hp->Prop)->Prop
abbrev TA:=St->Hp->(L V->Hp->Prop)->Prop
structure Ends where
 nx:St->Hp->Prop
 rt:VK
 bk:St->Hp->Prop:=λ_ _=>bu
 ct:St->Hp->Prop:=λ_ _=>bu
abbrev TS:=Ends->St->Hp->Prop
def EP(X:Cx)(pins:L<|Addr×Obj)(U:St)(Q:VK)(u:Z)(s':aj):Prop:=∃v H',Inv X pins U H' s'/\RelV v u/\Q v H'
def TP(X:Cx)(pins:L<|Addr×Obj)(U:St)(Q:Bool->Hp->Prop)(b:Bool)(s':aj):Prop:=∃H',Inv X pins U H' s'/\Q b H'
def AP(X:Cx)(pins:L<|Addr×Obj)(U:St)(Q:L V->Hp->Prop)(us:L Z)(s':aj):Prop:=∃vs H',Inv X pins U H' s'/\bO vs us/\Q vs H'
def SP(X:Cx)(pins:L<|Addr×Obj)(D:Ends)(f:Flow)(s':aj):Prop:=
 match f with
 |.next=>∃σ' H',Inv X pins σ' H' s'/\D.nx σ' H'
 |.brk=>∃σ' H',Inv X pins σ' H' s'/\D.bk σ' H'
 |.cont=>∃σ' H',Inv X pins σ' H' s'/\D.ct σ' H'
 |.ret u=>∃v σ' H',Inv X pins σ' H' s'/\RelV v u/\D.rt v H'
def PE(X:Cx)(e:Expr)(t:TE):Prop:=
 ∀(pins:L<|Addr×Obj) (s:aj) (U:St) (H:Hp) (Q:VK),Inv X pins U H s->t U H Q->aG (aJ X.prog X.w) X.A (eval e X.env) (EP X pins U Q) X.xe s
def PT(X:Cx)(e:Expr)(t:TT):Prop:=
 ∀(pins:L<|Addr×Obj) (s:aj) (U:St) (H:Hp) (Q:Bool->Hp->Prop),Inv X pins U H s->t U H Q->aG (aJ X.prog X.w) X.A (wH e X.env<|eval e X.env) (TP X pins U Q) X.xe s
def PW(X:Cx)(e:Expr)(t:TT):Prop:=
 ∀(whole:Sem Z) (pins:L<|Addr×Obj) (s:aj) (U:St) (H:Hp) (Q:Bool->Hp->Prop),Inv X pins U H s->t U H Q->aG (aJ X.prog X.w) X.A (wH e X.env whole) (TP X pins U Q) X.xe s
def PW.pt(h:PW X e t):PT X e t:=h _
def PA(X:Cx)(es:L Expr)(t:TA):Prop:=
 ∀(pos:Pos) (pins:L<|Addr×Obj) (s:aj) (U:St) (H:Hp) (Q:L V->Hp->Prop),Inv X pins U H s->t U H Q->aG (aJ X.prog X.w) X.A (vF<|qh pos<|eO es X.env) (AP X pins U Q) X.xe s
def PS(X:Cx)(st:Stmt)(t:TS):Prop:=
 ∀(pins:L<|Addr×Obj) (s:aj) (U:St) (H:Hp) (D:Ends),Inv X pins U H s->t D U H->aG (aJ X.prog X.w) X.A (exec st X.env) (SP X pins D) X.xe s
def vL(X:Cx)(st:L Stmt)(t:TS):Prop:=
 ∀(pins:L<|Addr×Obj) (s:aj) (U:St) (H:Hp) (D:Ends),Inv X pins U H s->t D U H->aG (aJ X.prog X.w) X.A (execs st X.env) (SP X pins D) X.xe s
def bG{α:Type}{t:Sem α}{Q Q':α->aj->Prop}{E:Z->aj->Prop}(h:aG aab A t Q E s)(hQ:∀a s,Q a s->Q' a s):aG aab A t Q' E s:=d9 h hQ λ_ _ x=>x
end L2
namespace L2
open PySem PySem.Spec PyProof.Rows
section
variable{X:Cx}
def bin{a b:Expr}(ha:PE X a ta)(hb:PE X b tb){R:V->V->Hp->Prop}(I:Inv X pins U H s)(h:ta U H λx H1=>tb U H1 λy H2=>R x y H2){α:Type}{Q:α->aj->Prop}{f:Z->Z->Sem α}(hf:∀v u s2 x y H2,Inv X pins U H2 s2->RelV x v->RelV y u->R x y H2->aG (aJ X.prog X.w) X.A (f v u) Q X.xe s2):aG (aJ X.prog X.w) X.A (eval a X.env) (λv aji=>aG (aJ X.prog X.w) X.A (eval b X.env) (λu ajj=>aG (aJ X.prog X.w) X.A (f v u) Q X.xe ajj) X.xe aji) X.xe s:=by
 refine bG (ha pins s U H _ I h) λv s1 ⟨x,H1,I1,r1,q1⟩=>?_;refine bG (hb pins s1 U H1 _ I1 q1) λu s2 ⟨y,H2,I2,r2,q2⟩=>?_;exact hf v u s2 x y H2 I2 r1 r2 q2
def ac0(i:Nat):TE:=λU H Q=>∃v,U[i]?=M (M v)/\Q v H
def tC(v:V):TE:=λ_ H Q=>Q v H
def Sx(hN:X.N[i]?=M x)(hv:Lo X.env.scope x)(hd:(x==("__debug__":Str))=J:=by decide)(hcd:(x==("__classdict__":Str))=J:=by decide):PE X (.Name x pos) (ac0 i):=by
 intro pins s U H Q I h;let#[v,e,h]:=h;let#[m,hn,hl]:=I.loc;let#[u,r,l]:=hl i x v hN e hv;have fin:EP X pins U Q u s:=#[v,H,I,r,h];rcases l with⟨hk,hm⟩|⟨hk,c,hc,hcell⟩
 .exact GN (Aw I.ok.kind hk hn hm fin) hd
 .rcases hk with hk|hk
  .exact GN (Bb I.ok.kind hk hc hcell fin) hd
  .exact GN (wpAny_loadName_free I.ok.kind hk hc hcell fin hcd) hd
def ac1{i j pos}:PE X (.Constant (.int i) j pos) (tC<|.b i):=λ_ _ _ H _ I h=>wpAny_Constant_int #[.b i,H,I.tok _,#[_,rfl],h]
def afN{b j pos}:PE X (.Constant (.bool b) j pos) (tC<|.c b):=λ_ _ _ H _ I h=>Constant_bool #[.c b,H,I,rfl,h]
def ac2{j pos}:PE X (.Constant .none j pos) (tC .d):=λ_ _ _ H _ I h=>Constant_none #[.d,H,I,rfl,h]
def ac3{x j pos}:PE X (.Constant (.str x) j pos) (tC<|.e x):=λ_ _ _ H _ I h=>Calls.Constant_str #[.e x,H,I.tok _,#[_,rfl],h]
def Gl(X:Cx)(x:Str):Prop:=X.env.kindOf x=M .globalImplicit
def qW{E:Z->aj->Prop}{Q:Z->aj->Prop}(I:Inv X pins U H s)(hg:Gl X x)(hm:X.mg x=M u)(h:Q u s)(hd:(x==("__debug__":Str))=J:=by decide):aG (aJ X.prog X.w) X.A (eval (.Name x pos) X.env) Q E s:=
 uV I.ok.kind hg (Calls.loadGlobal_global (by rw[I.ok.glob];exact I.mod.glob.keeps I.bk) hm h) hd
def iZ{E:Z->aj->Prop}{Q:Z->aj->Prop}(I:Inv X pins U H s)(hg:Gl X x)(hm:X.mg x=B)(hv:oS x=M u)(h:Q u s)(hn:x≠"__name__":=by decide)(hd:(x==("__debug__":Str))=J:=by decide):aG (aJ X.prog X.w) X.A (eval (.Name x pos) X.env) Q E s:=by
 let#[mb,h1,h2]:=I.mod.blt;exact uV I.ok.kind hg (Calls.loadGlobal_builtin (by rw[I.ok.glob];exact I.mod.glob.keeps I.bk) hm (by rw[I.ok.blt];exact h1.keeps I.bk) ((h2 x hn).trans hv) h) hd
def aaO(hg:Gl X x)(hm:X.mg x=M u)(r:RelV v u)(hd:(x==("__debug__":Str))=J:=by decide):PE X (.Name x pos) (tC v):=
 λ_ _ _ H _ I h=>qW I hg hm #[v,H,I,r,h] hd
variable{a b:Expr}{ta tb:TE}{pos:Pos}
variable{tA tB':TT}{rest:L Expr}
def tAnd(t u:TT):TT:=λU H Q=>t U H λc H1=>if c=W then u U H1 Q else Q J H1
def tOr(t u:TT):TT:=λU H Q=>t U H λc H1=>if c=W then Q W H1 else u U H1 Q
def tNot(t:TT):TT:=λU H Q=>t U H λc H1=>Q (!c) H1
def pw_and1(ha:PT X a tA):PW X (.BoolOp .And [a] pos) tA:=by
 intro wh pins s U H Q I h;refine R0<|bG (ha pins s U H Q I h) λc s1 e=>?_;cases c with
 |true=>exact isTrue_and_nil e
 |false=>exact e
def pw_or1(ha:PT X a tA):PW X (.BoolOp .Or [a] pos) tA:=by
 intro wh pins s U H Q I h;refine isTrue_or<|bG (ha pins s U H Q I h) λc s1 e=>?_;cases c with
 |false=>exact isTrue_or_nil e
 |true=>exact e
def pw_and(ha:PT X a tA)(hb:PW X (.BoolOp .And (b::rest) pos) tB'):PW X (.BoolOp .And (a::b::rest) pos) (tAnd tA tB'):=by
 intro wh pins s U H Q I h;refine R0<|bG (ha pins s U H _ I h) λc s1 ⟨H1,I1,q1⟩=>?_;cases c with
 |true=>exact hb wh pins s1 U H1 Q I1 q1
 |false=>exact#[H1,I1,q1]
def pw_or(ha:PT X a tA)(hb:PW X (.BoolOp .Or (b::rest) pos) tB'):PW X (.BoolOp .Or (a::b::rest) pos) (tOr tA tB'):=by
 intro wh pins s U H Q I h;refine isTrue_or<|bG (ha pins s U H _ I h) λc s1 ⟨H1,I1,q1⟩=>?_;cases c with
 |true=>exact#[H1,I1,q1]
 |false=>exact hb wh pins s1 U H1 Q I1 q1
def ac4(ha:PT X a tA):PT X (.UnaryOp .Not a pos) (tNot tA):=by
 intro pins s U H Q I h;exact isTrue_not<|ha pins s U H (λc H1=>Q (!c) H1) I h
def Sy{op}(h:PE X a t):PE X (.BoolOp op [a] pos) t:=λpins s U H Q I hw=>BoolOp_one<|h pins s U H Q I hw
def tIf(t:TT)(ta tb:TE):TE:=λU H Q=>t U H λc H1=>if c=W then ta U H1 Q else tb U H1 Q
def Wf{c:Expr}(hc:PT X c tA)(ha:PE X a ta)(hb:PE X b tb):PE X (.IfExp c a b pos) (tIf tA ta tb):=by
 intro pins s U H Q I h;refine wpAny_IfExp<|bG (hc pins s U H _ I h) λd s1 ⟨H1,I1,q1⟩=>?_;cases d with
 |true=>exact ha pins s1 U H1 Q I1 q1
 |false=>exact hb pins s1 U H1 Q I1 q1
end
end L2
namespace L2
open PySem PySem.Spec PyProof.Rows
def jg(K:ak)(H:Hp)(a:Addr)(xs:L V):Prop:=
 Rd H a (.a xs) \/
  ∃(o:Obj) (its:Array Z) (n:Nat),K.lookup a=M o/\o.cls=.type "list"/\o.dict=B/\o.data=.seq its n/\its.size<=ao/\bO xs its.toList
def sF(K:ak)(H:Hp)(a:Addr)(xs:L V):Prop:=
 Rd H a (.b xs) \/
  ∃(o:Obj) (its:Array Z) (n:Nat),K.lookup a=M o/\o.cls=.type "tuple"/\o.data=.seq its n/\its.size<=ao/\bO xs its.toList
noncomputable def absV:Z->aah V
|.none=>M .d
|.bool b=>M<|.c b
|.int i _=>M<|.b i
|.str x _=>M<|.e x
|.bytes b _=>M<|.h b
|.float b _=>M<|.g b
|.ref a=>M<|.a a
|.type n=>M<|.f n
|_=>B
def RelV.abs(r:RelV x u):absV u=M x:=by
 cases x with
 |d=>cases r;rfl
 |c _=>cases r;rfl
 |b _=>let#[t,rfl]:=r;rfl
 |e _=>let#[t,rfl]:=r;rfl
 |h _=>let#[t,rfl]:=r;rfl
 |g _=>let#[t,rfl]:=r;rfl
 |a _=>cases r;rfl
 |f _=>cases r;rfl
def RelV.inj(r:RelV x u)(q:RelV y u):x=y:=cA<|r.abs.symm.trans q.abs
theorem bO.inj{xs:L V}{us:L Z}(p:bO xs us):∀{ys:L V},bO ys us->xs=ys:=by
 induction p with
 |nil=>intro ys q;cases q;rfl
 |cons r _ ih=>
  intro ys q;let#[y,s,rfl,r',q']:=Paired.afL q;rw[r.inj r',ih q']
section
variable{X:Cx}{pins:L (Addr×Obj)}{U:St}{H:Hp}{s:aj}{a:Addr}{xs ys:L V}
def Inv.list(I:Inv X pins U H s)(h:jg X.K H a xs):∃its:L Z,bO xs its/\PlainL s.heap a its.toArray/\xs.length<=ao:=by
 rcases h with h|⟨o,its,n,hk,hc,hd,hs,hz,r⟩
 .obtain⟨z,its,n,r,e⟩:=h.ok I.hok;exact#[its,r,#[_,n,e,rfl,rfl,rfl],z]
 .refine#[its.toList,r,#[o,n,I.p_ a o hk,hc,hd,by simpa using hs],?_];have e:=r.length;simp only[bF]at e
  lia
def Inv.tuple(I:Inv X pins U H s)(h:sF X.K H a xs):∃its:L Z,bO xs its/\IsTup s.heap a its.toArray/\xs.length<=ao:=by
 rcases h with h|⟨o,its,n,hk,hc,hs,hz,r⟩
 .obtain⟨z,its,r,p⟩:=h.ok I.hok;exact#[its,r,p,z]
 .refine#[its.toList,r,#[o,I.p_ a o hk,hc,n,by simpa using hs],?_];have e:=r.length;simp only[bF]at e
  lia
def Inv.zQ(I:Inv X pins U H s)(h:jg X.K H a xs)(h':jg X.K H a ys):xs=ys:=by
 let#[its,r,#[o,n,e,_,_,d],_]:=I.list h;let#[its',r',#[o',n',e',_,_,d'],_]:=I.list h';rw[e]at e';cases e';rw[d]at d';injection d' with d1 _;have:its=its':=by simp_all
 subst this;exact r.inj r'
def Inv.IB(I:Inv X pins U H s)(h:sF X.K H a xs)(h':sF X.K H a ys):xs=ys:=by
 let#[its,r,#[o,e,_,n,d],_]:=I.tuple h;let#[its',r',#[o',e',_,n',d'],_]:=I.tuple h';rw[e]at e';cases e';rw[d]at d';injection d' with d1 _;have:its=its':=by simp_all
 subst this;exact r.inj r'
end
noncomputable abbrev Cx.nK(X:Cx)(E:Z->aj->Prop):Cx:={ X with xe:=E }
noncomputable abbrev Cx.E_(X:Cx):Cx:=X.nK λ_ _=>bu
def Cx.Ok.nK{X:Cx}(ok:X.Ok)(E:Z->aj->Prop):(X.nK E).Ok:=
 #[ok.mod,ok.kind,ok.glob,ok.blt,ok.above,ok.inj,ok.has,ok.cab,ok.hd,ok.frames,ok.stk,ok.exf,ok.bs,ok.bsz,ok.noex,ok.exfs,ok.rF,ok.frf]
def Cx.Ok.mE{X:Cx}{E:Z->aj->Prop}(ok:(X.nK E).Ok):X.Ok:=
 #[ok.mod,ok.kind,ok.glob,ok.blt,ok.above,ok.inj,ok.has,ok.cab,ok.hd,ok.frames,ok.stk,ok.exf,ok.bs,ok.bsz,ok.noex,ok.exfs,ok.rF,ok.frf]
section
variable{X:Cx}{pins:L (Addr×Obj)}{U:St}{H:Hp}{s:aj}{E:Z->aj->Prop}
def Inv.nK(I:Inv X pins U H s)(E:Z->aj->Prop):Inv (X.nK E) pins U H s:=#[I.ok.nK E,I.os,I.bare,I.base,I.loc,I.cell,I.free,I.freeC,I.pin,I.hok,I.len]
def Inv.mE(I:Inv (X.nK E) pins U H s):Inv X pins U H s:=#[I.ok.mE,I.os,I.bare,I.base,I.loc,I.cell,I.free,I.freeC,I.pin,I.hok,I.len]
def SP.mE(h:SP (X.nK E) pins D f s'):SP X pins D f s':=by
 cases f with
 |next=>let#[σ',H',I,q]:=h;exact#[σ',H',I.mE,q]
 |brk=>let#[σ',H',I,q]:=h;exact#[σ',H',I.mE,q]
 |cont=>let#[σ',H',I,q]:=h;exact#[σ',H',I.mE,q]
 |ret u=>let#[v,σ',H',I,r,q]:=h;exact#[v,σ',H',I.mE,r,q]
end
section
variable{X:Cx}{st:Stmt}{rest:L Stmt}{t u:TS}{e:Expr}{te:TE}{pos:Pos}
def afO:TS:=λD U H=>D.nx U H
def tSeq(t u:TS):TS:=λD U H=>t { D with nx:=u D } U H
def aaP:vL X [] afO:=λ_ _ U H _ I h=>nZ #[U,H,I,h]
def Wg(h1:PS X st t)(h2:vL X rest u):vL X (st::rest) (tSeq t u):=by
 intro pins s U H D I h;refine wJ<|bG (h1 pins s U H { D with nx:=u D } I h) λf s1 q=>?_;cases f with
 |next=>
  let#[σ',H',I',q]:=q;exact h2 pins s1 σ' H' D I' q
 |ret v=>exact q
 |brk=>exact q
 |cont=>exact q
def ac5:TS:=λD U H=>D.bk U H
def afP:TS:=λD U H=>D.ct U H
def Wh:PS X (.Break pos) ac5:=λ_ _ U H _ I h=>wpAny_Break #[U,H,I,h]
def NV:PS X (.Continue pos) afP:=λ_ _ U H _ I h=>wpAny_Continue #[U,H,I,h]
def Inv.quiet(I:Inv X pins U H s):Oq X.env=J:=by simp[Oq,I.ok.kind]
def afQ(te:TE):TS:=λD U H=>te U H λ_ H1=>D.nx U H1
def aaQ(he:PE X e te)(hs:uy e B pos.line X.env=pure J:=by rfl):PS X (.Expr e pos) (afQ te):=by
 intro pins s U H D I h;exact wpAny_Expr_any (bG (he pins s U H _ I h) λv s1 qq=>by let#[x,H1,I1,r1,q1]:=qq;exact#[U,H1,I1,q1]) I.quiet hs
def tRet(te:TE):TS:=λD U H=>te U H D.rt
def ac6(he:PE X e te):PS X (.Return (M e) pos) (tRet te):=by
 intro pins s U H D I h;exact wpAny_Return_some (bG (he pins s U H _ I h) λv s1 qq=>by let#[x,H1,I1,r1,q1]:=qq;exact#[x,U,H1,I1,r1,q1])
def tIfS(c:TT)(t u:TS):TS:=λD U H=>c U H λb H1=>if b=W then t D U H1 else u D U H1
def ZG{c:Expr}(hc:PT X c tc)(ha:vL X a t)(hb:vL X b u):PS X (.If c a b pos) (tIfS tc t u):=by
 intro pins s U H D I h;refine wpAny_If<|bG (hc pins s U H _ I h) λd s1 ⟨H1,I1,q1⟩=>?_;cases d with
 |true=>exact ha pins s1 U H1 D I1 q1
 |false=>exact hb pins s1 U H1 D I1 q1
end
abbrev TG:=V->St->Hp->(St->Hp->Prop)->Prop
abbrev Lp:=L V->St->Hp->(St->Hp->Prop)->Prop
def PG(X:Cx)(target:Expr)(t:TG):Prop:=
 ∀(pins:L<|Addr×Obj) (s:aj) (U:St) (H:Hp) (v:V) (u:Z) (Q:St->Hp->Prop),Inv X pins U H s->RelV v u->t v U H Q->
  aG (aJ X.prog X.w) X.A (zp target X.env u) (λ_ s'=>∃σ' H',Inv X pins σ' H' s'/\Q σ' H') X.xe s
def Fb(X:Cx)(ts:L Expr)(t:Lp):Prop:=
 ∀(pins:L<|Addr×Obj) (s:aj) (U:St) (H:Hp) (vs:L V) (us:L Z) (Q:St->Hp->Prop),Inv X pins U H s->bO vs us->t vs U H Q->
  aG (aJ X.prog X.w) X.A (assignInOrder ((jO ts X.env).map (·.2)) us) (λ_ s'=>∃σ' H',Inv X pins σ' H' s'/\Q σ' H') X.xe s
abbrev ac7:=V->V->V->Hp->(Hp->Prop)->Prop
def Wi(X:Cx)(t:ac7):Prop:=
 ∀(pins:L<|Addr×Obj) (s:aj) (U:St) (H:Hp) (o i v:V) (ov iv u:Z) (Q:Hp->Prop),Inv X pins U H s->RelV o ov->RelV i iv->RelV v u->t o i v H Q->
  aG (aJ X.prog X.w) X.A (Qe ov iv u) (λ_ s'=>∃H',Inv X pins U H' s'/\Q H') X.xe s
abbrev TIp:=V->V->Hp->VK->Prop
def PIp(X:Cx)(op:Ax)(t:TIp):Prop:=
 ∀(pins:L<|Addr×Obj) (s:aj) (U:St) (H:Hp) (x y:V) (v u:Z) (Q:VK),Inv X pins U H s->RelV x v->RelV y u->t x y H Q->
  aG (aJ X.prog X.w) X.A (Cz op v u) (EP X pins U Q) X.xe s
section
variable{X:Cx}{pos:Pos}
def afR(i:Nat):TG:=λv U H Q=>Q (U.set i<|M v) H
def OH(hN:X.N.Nodup)(hi:X.N[i]?=M x)(hx:Loc X.env.scope x)(hf:X.fn x=W\/X.env.scope.names.lookup x=M .local):PG X (.Name x pos) (afR i):=by
 intro pins s U H v u Q I r h;exact Dw<|zP I hN hi hx r (λs' I'=>#[_,H,I',h]) hf
def gNil:Lp:=λvs U H Q=>vs=[]/\Q U H
def afS(t:TG)(u:Lp):Lp:=λvs U H Q=>∃v r,vs=v::r/\t v U H fun σ' H'=>u r σ' H' Q
def aaR:Fb X [] gNil:=by
 intro pins s U H vs us Q I r h;let#[e,h]:=h;subst e;cases r;exact assignInOrder_nil #[U,H,I,h]
def Wj{e:Expr}(h1:PG X e t)(h2:Fb X es u)(hs:(jO (e::es) X.env).map (·.2)=zp e X.env::(jO es X.env).map (·.2):=by rfl):Fb X (e::es) (afS t u):=by
 intro pins s U H vs us Q I r h;let#[v,vr,e1,h]:=h;subst e1;cases r with
 |cons r rr=>
  rw[hs];refine assignInOrder_cons<|bG (h1 pins s U H _ _ _ I r h) λ_ s1 ⟨σ1,H1,I1,q1⟩=>?_;exact h2 pins s1 σ1 H1 _ _ Q I1 rr q1
def gTup(K:ak)(n:Nat)(t:Lp):TG:=λv U H Q=>∃a xs,v=.a a/\sF K H a xs/\zl xs=n/\t xs U H Q
def ac9(hc:X.calm=W)(h:Fb X es t)(hn:(jO es X.env).length=n:=by rfl)(hst:(jO es X.env).findIdx? (·.1)=B:=by rfl):PG X (.Tuple es k pos) (gTup X.K n t):=by
 intro pins s U H v u Q I r hw;let#[a,xs,e1,hq,hl,hw]:=hw;subst e1;cases r;let#[its,rv,ht,hz]:=I.tuple hq;refine assign_Tuple_tuple (I.ok.hd hc) ht (by simp[hn,<-hl,rv.length]) hst λh' hx=>?_;have I1:=I.kept (t':=s.toks) λb o e=>hx b o (aZ<|aF e) e;exact h pins _ U H xs _ Q I1 (by simpa using rv) hw
def gSub(to ti:TE)(t:ac7):TG:=λv U H Q=>to U H λo H1=>ti U H1 λi H2=>t o i v H2 λH3=>Q U H3
def ac_{o i:Expr}(ho:PE X o to)(hi:PE X i ti)(hs:Wi X t)(ha:∀v,zp (.Subscript o i pos) X.env v=(do
   let ov <-tL [v] (eval o X.env)
   let iv <-tL [v,ov] (eval i X.env)
   zq pos
   tL [v,ov,iv] (Qe ov iv v)
   release [v,ov,iv] []):=by intro _;rfl):PG X (.Subscript o i pos) (gSub to ti t):=by
 intro pins s U H v u Q I r h;rw[ha];refine ah<|cW<|bG (ho pins s U H _ I h) λov s1 ⟨x,H1,I1,r1,q1⟩=>?_;refine ah<|cW<|bG (hi pins s1 U H1 _ I1 q1) λiv s2 ⟨y,H2,I2,r2,q2⟩=>?_;refine ah<|qH<|ah<|cW<|bG (hs pins s2 U H2 x y v ov iv u _ I2 r1 r2 r q2) λ_ s3 ⟨H3,I3,q3⟩=>?_;exact wpAny_release #[U,H3,I3,q3]
def tAsg(te:TE)(g:TG):TS:=λD U H=>te U H λx H1=>g x U H1 D.nx
def Lq{tg e:Expr}(he:PE X e te)(hg:PG X tg g)(hs:uW [tg] e pos.line X.env=pure J:=by rfl)(hw:A6 [tg] e X.env=pure B:=by rfl)(h1:(jO [tg] X.env).map (·.2)=[zp tg X.env]:=by rfl):PS X (.Assign [tg] e pos) (tAsg te g):=by
 intro pins s U H D I h;refine Bc (bG (he pins s U H _ I h) λv s1 ⟨x,H1,I1,r1,q1⟩=>?_) hs hw;rw[h1];exact bG (hg pins s1 U H1 x v _ I1 r1 q1) λ_ s2 q=>q
def ada(i:Nat)(te:TE)(ti:TIp):TS:=λD U H=>∃x,U[i]?=M (M x)/\te U H λy H1=>ti x y H1 λz H2=>D.nx (U.set i<|M z) H2
def adb{i:Nat}(hN:X.N.Nodup)(hi:X.N[i]?=M x)(hx:Loc X.env.scope x)(he:PE X e te)(ho:PIp X op ti)(hf:X.fn x=W\/X.env.scope.names.lookup x=M .local):PS X (.AugAssign (.Name x pos') op e pos) (ada i te ti):=by
 intro pins s U H D I h;let#[v,e1,h]:=h;let#[m,hn,hl]:=I.loc;have vis:Lo X.env.scope x:=by rcases hx with k|k;exact .inl k;exact .inr<|.inl k
 let#[u,r,l]:=hl i x v hi e1 vis;refine wpAny_AugAssign_Name ?_;have go:aG (aJ X.prog X.w) X.A (eval e X.env) (λw ajj=>aG (aJ X.prog X.w) X.A (Cz op u w) (λr ajp=>aG (aJ X.prog X.w) X.A (JT X.env x r) (λ_=>SP X pins D .next) X.xe ajp) X.xe ajj) X.xe s:=by
  refine bG (he pins s U H _ I h) λw s1 ⟨y,H1,I1,r1,q1⟩=>?_;refine bG (ho pins s1 U H1 v y u w _ I1 r r1 q1) λz s2 ⟨zv,H2,I2,r2,q2⟩=>?_;exact zP I2 hN hi hx r2 (λs3 I3=>#[_,H2,I3,q2]) hf
 rcases l with⟨hk,hm⟩|⟨hk,c,hc,hcell⟩
 .exact Aw I.ok.kind hk hn hm go
 .rcases hk with hk|hk
  .exact Bb I.ok.kind hk hc hcell go
  .rcases hx with k|k
   .have:X.env.scope.names.lookup x=M .free:=hk;rw[k]at this;cases this
   .have:X.env.scope.names.lookup x=M .free:=hk;rw[k]at this;cases this
noncomputable def ipI(f:Int->Int->Int):TIp:=λx y H Q=>∃i j,x=.b i/\y=.b j/\Q (.b<|f i j) H
def ade:PIp X .Add (ipI λi j=>i+j):=by
 intro pins s U H x y v u Q I r1 r2 h;let#[i,j,e1,e2,q]:=h;subst e1;subst e2;let#[t,rfl]:=r1;let#[t',rfl]:=r2;exact iadd_int #[.b _,H,I.tok _,#[_,rfl],q]
end
section
variable{X:Cx}{pos:Pos}
def adf(c:TT)(tb:TS):TS:=λD U H=>∃aad:Nat->St->Hp->Prop,(∃m,aad m U H)/\∀m U H,aad m U H->
 c U H λb H1=>if b=W then ∃N:St->Hp->Prop,(∀σ' H',N σ' H'->∃m',m'<m/\aad m' σ' H')/\tb { D with nx:=N,ct:=N,bk:=D.nx } U H1 else D.nx U H1
def Wk{c:Expr}(hp:xN (aJ X.prog X.w) X.A X.env X.xe)(hc:PT X c tc)(hb:vL X body tb):PS X (.While c body [] pos) (adf tc tb):=by
 intro pins s U H D I h;let#[aad,#[m0,w0],turn]:=h;refine wpAny_While<|codeAny_whileLoop (λn s'=>∃σ' H',Inv X pins σ' H' s'/\aad n σ' H') ?_ m0 #[U,H,I,w0];rintro n s1 ⟨σ1,H1,I1,w1⟩;refine jX hp<|bG (hc pins s1 σ1 H1 _ I1<|turn n σ1 H1 w1) λb s2 ⟨H2,I2,q2⟩=>?_;cases b with
 |true=>
  let#[N,hN,q2]:=q2;rw[aQ rfl];refine jX hp<|bG (hb pins s2 σ1 H2 _ I2 q2) λf s3 q3=>?_;cases f with
  |next=>
   let#[σ3,H3,I3,n3]:=q3;let#[m',hm,w3]:=hN σ3 H3 n3;exact#[m',hm,σ3,H3,I3,w3]
  |cont=>
   let#[σ3,H3,I3,n3]:=q3;let#[m',hm,w3]:=hN σ3 H3 n3;exact#[m',hm,σ3,H3,I3,w3]
  |brk=>exact q3
  |ret v=>exact q3
 |false=>
  rw[aE aN];exact nZ #[σ1,H2,I2,q2]
end
structure It where
 go:Nat->Hp->Prop
 yld:Nat->Hp->V->Hp->Prop
 stop:Nat->Hp->Prop
def ou(X:Cx)(pins:L<|Addr×Obj)(H:Hp)(b:Addr):Prop:=
 H b=B/\b≠X.env.locals/\b∉X.fs/\(b∈X.ex\/X.ajg.heap.objs.size<=b)/\(∀x c,X.env.cells.lookup x=M c->c≠b)/\∀p∈X.pn++pins,p.1≠b
def Inv.vM(I:Inv X pins U H s)(hb:s.heap.objs.size<=b)(hn:H' b=B):ou X pins H' b:=by
 refine#[hn,gq<|bQ I.lt hb,I.nofs hb,.inr<|fB I.sz hb,λx c e z=>?_,λp hp z=>?_]
 .obtain⟨v,q⟩:=I.cell x c e;exact aC (bQ q.lt (by rw[z];exact hb))<|dm _
 .exact aC (bQ (aF (I.pin p hp).1) (by rw[z];exact hb)) (dm _)
structure Turn (P:br) (w:bE) (K:ak) (tg:Expr) (aae:It) (fp:L Addr) (it:Addr) (tn:Nat->Heap->Prop):Prop where
 mem:it∈fp
 obj:∀i h,tn i h->∀b∈fp,∃o,h.get? b=M o/\∀v,o.data≠.cell v
 keep:∀i h h',tn i h->(∀b∈fp,∀o,h.get? b=M o->h'.get? b=M o)->tn i h'
 item:∀(X:Cx),X.prog=P->X.w=w->X.K=K->X.calm=W->∀(i:Nat) (pins:L (Addr×Obj)) (s:aj) (U:St) (H:Hp) (E:Z->aj->Prop),Inv X pins U H s->(∀b∈fp,ou X pins H b)->tn i s.heap->aae.go i H->
  aG (aJ P w) X.A (uz (.ref it)) (λr s1=>∃u,r=M u /\
   aG (aJ P w) X.A (rX tg (.ref it) u) (λ_ s2=>∃x H',Inv X pins U H' s2/\RelV x u/\aae.yld i H x H'/\tn (i+1) s2.heap/\∀b∈fp,H' b=B) E s1) E s
 done:∀(X:Cx),X.prog=P->X.w=w->X.K=K->X.calm=W->∀(i:Nat) (pins:L (Addr×Obj)) (s:aj) (U:St) (H:Hp) (E:Z->aj->Prop),Inv X pins U H s->(∀b∈fp,ou X pins H b)->tn i s.heap->aae.stop i H->
  aG (aJ P w) X.A (uz (.ref it)) (λr s1=>r=B/\Inv X pins U H s1) E s
 self:∀(A:b7) (i:Nat) (s:aj) (Q:Z->aj->Prop) (E:Z->aj->Prop),tn i s.heap->Q (.ref it) s->aG (aJ P w) A (qi (.ref it)) Q E s
abbrev TI:=St->Hp->(It->Hp->Prop)->Prop
def PIE(X:Cx)(pins:L<|Addr×Obj)(U:St)(tg:Expr)(R:It->Hp->Prop)(itv:Z)(s2:aj):Prop:=
 ∃(it:Addr) (fp:L Addr) (tn:Nat->Heap->Prop) (aae:It) (H':Hp),itv=.ref it/\Inv X pins U H' s2/\Turn X.prog X.w X.K tg aae fp it tn/\tn 0 s2.heap/\(∀b∈fp,ou X pins H' b)/\R aae H'
def PI(X:Cx)(tg iter:Expr)(wi:TI):Prop:=
 ∀(pins:L<|Addr×Obj) (s:aj) (U:St) (H:Hp) (R:It->Hp->Prop),Inv X pins U H s->wi U H R->
  aG (aJ X.prog X.w) X.A (eval iter X.env) (λv s1=>aG (aJ X.prog X.w) X.A (qi v) (PIE X pins U tg R) X.xe s1) X.xe s
def KQ{E:Z->aj->Prop}{Q:Unit->aj->Prop}(ho:s.heap.get? it=M o)(hc:o.cls=.type n)(hd:o.data=.fields vs)(hn:["enumerate","zip","dict_itemiterator","dict_reverseitemiterator","odict_iterator","itertools.zip_longest","itertools.pairwise"].contains n=J)(hQ:Q () s):aG aab A (rX tg (.ref it) u) Q E s:=by
 cases tg<;>first
  |exact au hQ
  |(cases u<;>first
    |exact au hQ
    |(refine ah<|pJ ho ?_
      rw[hc,hd];show aG aab A (if(["enumerate","zip","dict_itemiterator","dict_reverseitemiterator","odict_iterator","itertools.zip_longest","itertools.pairwise"].contains n&&vs[0]?==M (bT _))=W then _ else _) Q E s;rw[aE<|by lia];exact au hQ))
noncomputable def Itl(K:ak)(a:Addr):It:=
 #[λi H=>∃xs x,jg K H a xs/\xs[i]?=M x,λi H x H'=>H'=H/\∀xs,jg K H a xs->xs[i]?=M x,λi H=>∃xs,jg K H a xs/\zl xs<=i]
noncomputable def Itt(K:ak)(a:Addr):It:=
 #[λi H=>∃xs x,sF K H a xs/\xs[i]?=M x,λi H x H'=>H'=H/\∀xs,sF K H a xs->xs[i]?=M x,λi H=>∃xs,sF K H a xs/\zl xs<=i]
noncomputable def ZH(lo:Int)(n:Nat):It:=#[λi _=>i<n,λi H x H'=>H'=H/\x=.b (lo+i),λi _=>n<=i]
def SD{w:bE}{K:ak}{tg:Expr}(a it:Addr):Turn P w K tg (Itl K a) [it] it (λi h=>h.IsListIter it a i) where
 mem:=by simp
 obj:=λi h st b hb=>by
  have e:b=it:=by simpa using hb
  subst e;let#[o,e,c,d]:=st;exact#[o,e,λv z=>by rw[d]at z;cases z]
 keep:=λi h h' st k=>st.at λo e=>k it (by simp) o e
 item:=by
  intro X hP hw hK hc i pins s U H E I hf st hg;subst hP hw hK;let#[xs,x,hq,hx]:=hg;let#[its,rv,p,hz]:=I.list hq;let#[u,hu,ru]:=rv.get hx;let#[f0,f1,f2,f3,f4,f5]:=hf it (by simp);refine yx st p.isList (x:=u) (by simpa using hu) λh' st' sb=>?_;have I1:=I.turned (t':=s.toks) (λb o hb e=>(sb.2 b hb).trans e) f0 f1 f3 f4 f5;let#[o,e,c,d]:=id st';exact#[u,rfl,KQ (s:={ s with heap:=h' }) e c d (by decide) #[x,H,I1,ru,#[rfl,λys hy=>by rw[I.zQ hy hq];exact hx],st',λb hb=>(hf b hb).1]]
 done:=by
  intro X hP hw hK hc i pins s U H E I hf st hg;subst hP hw hK;let#[xs,hq,hx]:=hg;let#[its,rv,p,hz]:=I.list hq;let#[f0,f1,f2,f3,f4,f5]:=hf it (by simp);have hl:=rv.length;exact zj (I.ok.hd hc) st p.isList (by simp;lia) λh' eb=>#[rfl,I.turned (t':=s.toks) (λb o hb e=>eb b o hb e) f0 f1 f3 f4 f5]
 self:=λ_ _ _ _ _ st h=>wpAny_pyIter_listiter st h
def Qp{w:bE}{K:ak}{tg:Expr}(a it:Addr):Turn P w K tg (Itt K a) [it] it (λi h=>h.IsTupleIter it a i) where
 mem:=by simp
 obj:=λi h st b hb=>by
  have e:b=it:=by simpa using hb
  subst e;let#[o,e,c,d]:=st;exact#[o,e,λv z=>by rw[d]at z;cases z]
 keep:=λi h h' st k=>st.at λo e=>k it (by simp) o e
 item:=by
  intro X hP hw hK hc i pins s U H E I hf st hg;subst hP hw hK;let#[xs,x,hq,hx]:=hg;let#[its,rv,p,hz]:=I.tuple hq;let#[u,hu,ru]:=rv.get hx;let#[f0,f1,f2,f3,f4,f5]:=hf it (by simp);refine wpAny_pyNext_tuple_item st (show s.heap.IsTuple a its.toArray from p) (x:=u) (by simpa using hu) λh' st' sb=>?_;have I1:=I.turned (t':=s.toks) (λb o hb e=>(sb.2 b hb).trans e) f0 f1 f3 f4 f5;let#[o,e,c,d]:=id st';exact#[u,rfl,KQ (s:={ s with heap:=h' }) e c d (by decide) #[x,H,I1,ru,#[rfl,λys hy=>by rw[I.IB hy hq];exact hx],st',λb hb=>(hf b hb).1]]
 done:=by
  intro X hP hw hK hc i pins s U H E I hf st hg;subst hP hw hK;let#[xs,hq,hx]:=hg;let#[its,rv,p,hz]:=I.tuple hq;let#[f0,f1,f2,f3,f4,f5]:=hf it (by simp);have hl:=rv.length;exact wpAny_pyNext_tuple_end (I.ok.hd hc) st (show s.heap.IsTuple a its.toArray from p) (by simp;lia) λh' eb=>#[rfl,I.turned (t':=s.toks) (λb o hb e=>eb b o hb e) f0 f1 f3 f4 f5]
 self:=λ_ _ _ _ _ st h=>wpAny_pyIter_tupleiter st h
def Qq{w:bE}{K:ak}{tg:Expr}(it:Addr)(lo:Int)(n:Nat):Turn P w K tg (ZH lo n) [it] it (λi h=>IsRangeIter h it (lo+(i:Nat)*1) ((n:Int)-(i:Nat)) 1) where
 mem:=by simp
 obj:=λi h st b hb=>by
  have e:b=it:=by simpa using hb
  subst e;exact#[_,st,λv z=>by
   have z':=z;cases z']
 keep:=λi h h' st k=>k it (by simp) _ st
 item:=by
  intro X hP hw hK hc i pins s U H E I hf st hg;subst hP hw hK;let#[f0,f1,f2,f3,f4,f5]:=hf it (by simp);have aad:=Walks.range (prog:=X.prog) (w:=X.w) (I.ok.hd hc) it lo 1 n;refine aad.item i s _ _ hg st λv h' tk hv st' kk=>?_;let#[t,rfl]:=hv;have I1:Inv X pins U H { s with heap:=h',toks:=tk }:=I.turned (λb o hb e=>kk b o (by simpa using hb) e) f0 f1 f3 f4 f5;refine#[_,rfl,KQ (s:={ s with heap:=h',toks:=tk }) (n:="range_iterator") st' rfl rfl (by decide) #[.b<|lo+i,H,I1,#[t,?_],#[rfl,rfl],st',λb hb=>(hf b hb).1]];rw[Ot]
 done:=by
  intro X hP hw hK hc i pins s U H E I hf st hg;subst hP hw hK;let#[f0,f1,f2,f3,f4,f5]:=hf it (by simp);exact wpAny_pyNext_range_end (I.ok.hd hc) st (by have:n<=i:=hg;lia) λh' eb=>#[rfl,I.turned (t':=s.toks) (λb o hb e=>eb b o hb e) f0 f1 f3 f4 f5]
 self:=λ_ _ _ _ _ st h=>wpAny_pyIter_rangeiter st h
end L2
namespace L2
open PySem PySem.Spec PyProof.Rows
section
variable{X:Cx}{tg:Expr}
def Wl{R:It->Hp->Prop}{E:Z->aj->Prop}{lo hi:Int}{t u v:Tok}{tk:Nat}(I:Inv X pins U H s)(h1:-(2 ^ 62)<=lo)(h2:lo<2 ^ 62)(h3:-(2 ^ 62)<=hi)(h4:hi<2 ^ 62)(q:R (ZH lo (hi-lo).toNat) H):aG (aJ X.prog X.w) X.A (qi<|.ref s.heap.objs.size) (PIE X pins U tg R) E { s with heap:=s.heap.push { cls:=.type "range",data:=.fields (List.toArray [.int lo t,.int hi u,.int 1 v]) },toks:=tk }:=by
 refine wpAny_pyIter_range (D_ ..) (JU h1 h2 h3 h4) ?_;have I1:Inv X pins U H { s with heap:=s.heap.push { cls:=.type "range",data:=.fields (List.toArray [.int lo t,.int hi u,.int 1 v]) },toks:=tk }:=I.kept λb o e=>aq _ e;refine#[(s.heap.push { cls:=.type "range",data:=.fields (List.toArray [.int lo t,.int hi u,.int 1 v]) }).objs.size,[(s.heap.push { cls:=.type "range",data:=.fields (List.toArray [.int lo t,.int hi u,.int 1 v]) }).objs.size],_,_,H,rfl,
  I1.kept (t':=tk) λb o e=>aq _ e,Qq _ lo (hi-lo).toNat,?_,λb hb=>?_,q]
 .have e1:lo+((0:Nat):Int)*1=lo:=by simp
  have e2:(((hi-lo).toNat:Nat):Int)-((0:Nat):Int)=lC lo hi 1:=by rw[A7];split<;>lia
  rw[e1,e2];exact aU _ rfl
 .have e:b=(s.heap.push { cls:=.type "range",data:=.fields (List.toArray [.int lo t,.int hi u,.int 1 v]) }).objs.size:=by simpa using hb
  subst e;exact I1.vM (aM _)<|I1.hok.fresh<|aM _
def tFor(wi:TI)(g:TG)(tb:TS):TS:=λD U H=>wi U H λaae H1=>∃aad:Nat->Nat->St->Hp->Prop,(∃m,aad 0 m U H1)/\∀i m U H,aad i m U H->
 (aae.stop i H/\D.nx U H)\/(aae.go i H/\∃N:St->Hp->Prop,(∀σ' H',N σ' H'->∃m',m'<m/\aad (i+1) m' σ' H')/\∀x H',aae.yld i H x H'->g x U H' fun σ2 H2=>tb { D with nx:=N,ct:=N,bk:=D.nx } σ2 H2)
noncomputable def Bm(fp:L Addr)(h:Heap):L (Addr×Obj):=fp.filterMap λb=>(h.get? b).map λo=>(b,o)
def vj(hb:b∈fp)(e:h.get? b=M o):(b,o)∈Bm fp h:=uB.mpr #[b,hb,by rw[e];rfl]
def SE(hp:p∈Bm fp h):p.1∈fp/\h.get? p.1=M p.2:=by
 let#[b,hb,e]:=uB.mp hp;cases q:h.get? b with
 |none=>rw[q]at e;cases e
 |some o=>
  rw[q]at e;have e':=cA e;subst e';exact#[hb,q]
def Inv.pinned(I:Inv X pins U H s)(hf:∀b∈fp,ou X pins H b)(ho:∀b∈fp,∃o,s.heap.get? b=M o/\∀v,o.data≠.cell v):Inv X (pins++Bm fp s.heap) U H s:=
 I.C5 λp hp=>(bC.mp hp).elim (λz=>I.pin p<|bw _ z) λz=>by
  let#[hb,e]:=SE z;let#[f0,f1,f2,_]:=hf p.1 hb;let#[o,e',d]:=ho p.1 hb;rw[e]at e';cases e';exact#[e,f0,f1,f2,d]
def Inv.zR(I:Inv X (pins++pl) U H s):Inv X pins U H s:=I.C5 λp hp=>I.pin p<|bw _<|cF _ hp
def adg(hp:xN (aJ X.prog X.w) X.A X.env X.xe)(hc:X.calm=W)(hi:PI X tg iter wi)(hg:PG X tg g)(hb:vL X body tb)(hs:∀x,mw iter X.env x=pure x:=by intro _;rfl):PS X (.For tg iter body [] pos) (tFor wi g tb):=by
 intro pins s U H D I h;refine wpAny_For (bG (hi pins s U H _ I h) λv s1 h1=>bG h1 λitv s2 h2=>?_) hs;let#[it,fp,tn,aae,H2,e,I2,T,st2,f2,aad,#[m0,w0],turn]:=h2;subst e;have stat:∀{H':Hp},(∀b∈fp,H' b=B)->∀b∈fp,ou X pins H' b:=λhn b hb=>#[hn b hb,(f2 b hb).2];refine codeAny_forLoop_any (λn s'=>∃i σ' H',Inv X pins σ' H' s'/\tn i s'.heap/\(∀b∈fp,H' b=B)/\aad i n σ' H') ?_ m0 #[0,U,H2,I2,st2,λb hb=>(f2 b hb).1,w0];rintro n s3 ⟨i,σ3,H3,I3,st3,fr3,w3⟩;rcases turn i n σ3 H3 w3 with⟨stop,qn⟩|⟨go,N,hN,step⟩
 .refine jX hp (bG (T.done X rfl rfl rfl hc i pins s3 σ3 H3 X.xe I3 (stat fr3) st3 stop) λr s4 ⟨hr,I4⟩=>?_);subst hr;exact nZ #[σ3,H3,I4,qn]
 .refine jX hp (bG (T.item X rfl rfl rfl hc i pins s3 σ3 H3 X.xe I3 (stat fr3) st3 go) λr s4 ⟨u,hr,h4⟩=>?_);subst hr;refine jX hp<|bG h4 λ_ s5 ⟨x,H5,I5,r5,y5,st5,fr5⟩=>?_;have I5':=I5.pinned (stat fr5)<|T.obj _ _ st5;refine jX hp<|bG (hg _ s5 σ3 H5 x u _ I5' r5<|step x H5 y5) λ_ s6 ⟨σ6,H6,I6,q6⟩=>?_;refine jX hp<|bG (hb _ s6 σ6 H6 _ I6 q6) λf s7 q7=>?_;have again:∀{σ7:St}{H7:Hp},Inv X (pins++Bm fp s5.heap) σ7 H7 s7->N σ7 H7->∃m,m<n/\∃i σ' H',Inv X pins σ' H' s7/\tn i s7.heap/\(∀b∈fp,H' b=B)/\aad i m σ' H':=λ{σ7 H7} I7 n7=>by
   let#[m',hm,w7]:=hN σ7 H7 n7;refine#[m',hm,i+1,σ7,H7,I7.zR,T.keep _ _ _ st5 λb hb o e=>(I7.pin (b,o)<|bw _<|bw _<|vj hb e).1,λb hb=>?_,w7];let#[o,e,d]:=T.obj _ _ st5 b hb;exact(I7.pin (b,o)<|bw _<|bw _<|vj hb e).2.1
  cases f with
  |next=>let#[σ7,H7,I7,n7]:=q7;exact again I7 n7
  |cont=>let#[σ7,H7,I7,n7]:=q7;exact again I7 n7
  |brk=>let#[σ7,H7,I7,q7]:=q7;exact#[σ7,H7,I7.zR,q7]
  |ret v=>let#[x7,σ7,H7,I7,r7,q7]:=q7;exact#[x7,σ7,H7,I7.zR,r7,q7]
end
end L2
namespace L2
open PySem PySem.Spec PyProof.Rows
abbrev R2:=V->V->Hp->VK->Prop
def mT(X:Cx)(f:Z->Z->Sem Z)(r:R2):Prop:=
 ∀(pins:L<|Addr×Obj) (s:aj) (U:St) (H:Hp) (x y:V) (v u:Z) (Q:VK),Inv X pins U H s->RelV x v->RelV y u->r x y H Q->
  aG (aJ X.prog X.w) X.A (f v u) (EP X pins U Q) X.xe s
def UnR(X:Cx)(f:Z->Sem Z)(r:V->Hp->VK->Prop):Prop:=
 ∀(pins:L<|Addr×Obj) (s:aj) (U:St) (H:Hp) (x:V) (v:Z) (Q:VK),Inv X pins U H s->RelV x v->r x H Q->
  aG (aJ X.prog X.w) X.A (f v) (EP X pins U Q) X.xe s
def o7(X:Cx)(f:Z)(r:L V->Hp->VK->Prop):Prop:=
 ∀(pins:L<|Addr×Obj) (s:aj) (U:St) (H:Hp) (xs:L V) (us:L Z) (Q:VK),Inv X pins U H s->bO xs us->r xs H Q->
  aG (aJ X.prog X.w) X.A (call f us) (EP X pins U Q) X.xe s
def TruR(X:Cx)(r:V->Hp->(Bool->Hp->Prop)->Prop):Prop:=
 ∀(pins:L<|Addr×Obj) (s:aj) (U:St) (H:Hp) (x:V) (v:Z) (Q:Bool->Hp->Prop),Inv X pins U H s->RelV x v->r x H Q->
  aG (aJ X.prog X.w) X.A (CA v) (TP X pins U Q) X.xe s
def tOp(r:R2)(ta tb:TE):TE:=λU H Q=>ta U H λx H1=>tb U H1 λy H2=>r x y H2 Q
noncomputable def rI(C:Int->Int->Prop)(g:Int->Int->V):R2:=λx y H Q=>∃i j,x=.b i/\y=.b j/\C i j/\Q (g i j) H
noncomputable def Lr(g:Int->Int->V):R2:=λx y H Q=>∃i j,x=.b i/\y=.b j/\Q (g i j) H
def rU(g:Int->V):V->Hp->VK->Prop:=λx H Q=>∃i,x=.b i/\Q (g i) H
section
variable{X:Cx}{a b c:Expr}{ta tb tc:TE}{pos:Pos}
def Wm(ha:PE X a ta)(hb:PE X b tb){R:V->V->Hp->Prop}(I:Inv X pins U H s)(h:ta U H λx H1=>tb U H1 λy H2=>R x y H2){Q:Z->aj->Prop}{f:Z->Z->Sem Z}(hf:∀v u s2 x y H2,Inv X pins U H2 s2->RelV x v->RelV y u->R x y H2->aG (aJ X.prog X.w) X.A (f v u) Q X.xe s2):aG (aJ X.prog X.w) X.A (eval a X.env) (λv aji=>aG (aJ X.prog X.w) X.A (eval b X.env) (λu ajj=>aG (aJ X.prog X.w) X.A (f v u) Q X.xe ajj) X.xe aji) X.xe s:=by
 refine bG (ha pins s U H _ I h) λv s1 ⟨x,H1,I1,r1,q1⟩=>?_;refine bG (hb pins s1 U H1 _ I1 q1) λu s2 ⟨y,H2,I2,r2,q2⟩=>?_;exact hf v u s2 x y H2 I2 r1 r2 q2
def afT(ho:mT X (jJ op) r)(ha:PE X a ta)(hb:PE X b tb):PE X (.BinOp a op b pos) (tOp r ta tb):=by
 intro pins s U H Q I h;exact wpAny_BinOp<|Wm ha hb I h λv u s2 x y H2 I2 rx ry q=>ho pins s2 U H2 x y v u Q I2 rx ry q
def Ls(ho:mT X (Cz op) r)(I:Inv X pins U H s)(rx:RelV x v)(ry:RelV y u)(q:r x y H Q):aG (aJ X.prog X.w) X.A (Cz op v u) (EP X pins U Q) X.xe s:=ho pins s U H x y v u Q I rx ry q
def ZI{f:Z->Z->Sem Z}{C:Int->Int->Prop}{g:Int->Int->Int}(rule:∀(i j:Int) (t u:Tok) (s:aj) (Q:Z->aj->Prop) (E:Z->aj->Prop),C i j->Q (.int (g i j) s.toks) { s with toks:=s.toks+1 }->aG (aJ X.prog X.w) X.A (f (.int i t)<|.int j u) Q E s):mT X f (rI C λi j=>.b<|g i j):=by
 intro pins s U H x y v u Q I rx ry h;let#[i,j,rfl,rfl,hc,q]:=h;let#[t,rfl]:=rx;let#[t',rfl]:=ry;exact rule i j t t' s _ _ hc #[.b<|g i j,H,I.tok _,#[_,rfl],q]
def adi{f:Z->Z->Sem Z}{g:Int->Int->Int}(rule:∀(i j:Int) (t u:Tok) (s:aj) (Q:Z->aj->Prop) (E:Z->aj->Prop),Q (.int (g i j) s.toks) { s with toks:=s.toks+1 }->aG (aJ X.prog X.w) X.A (f (.int i t)<|.int j u) Q E s):mT X f (Lr λi j=>.b<|g i j):=by
 intro pins s U H x y v u Q I rx ry h;let#[i,j,rfl,rfl,q]:=h;let#[t,rfl]:=rx;let#[t',rfl]:=ry;exact rule i j t t' s _ _ #[.b<|g i j,H,I.tok _,#[_,rfl],q]
def Wn{f:Z->Z->Sem Z}{g:Int->Int->Bool}(rule:∀(i j:Int) (t u:Tok) (s:aj) (Q:Z->aj->Prop) (E:Z->aj->Prop),Q (.bool<|g i j) s->aG (aJ X.prog X.w) X.A (f (.int i t)<|.int j u) Q E s):mT X f (Lr λi j=>.c<|g i j):=by
 intro pins s U H x y v u Q I rx ry h;let#[i,j,rfl,rfl,q]:=h;let#[t,rfl]:=rx;let#[t',rfl]:=ry;exact rule i j t t' s _ _ #[.c<|g i j,H,I,rfl,q]
abbrev uG(i j:Int):Prop:=0<j/\j<1073741824
def sU(i j:Int):Prop:=0<=j/\j<=1000000/\i.natAbs<2 ^ 64
abbrev sV(i j:Int):Prop:=(-(2 ^ 64)<i/\i<2 ^ 64)\/(-(2 ^ 64)<j/\j<2 ^ 64)
def sV.ok(h:sV i j):IntMulOk i j:=by
 rcases h with⟨h1,h2⟩|⟨h1,h2⟩
 .exact .of_left (Kq h1 h2)
 .exact .of_right (Kq h1 h2)
def adj:mT X (jJ .Add) (Lr λi j=>.b<|i+j):=adi λ_ _ _ _ _ _ _ q=>add_int q
def adk:mT X (jJ .Sub) (Lr λi j=>.b<|i-j):=adi λ_ _ _ _ _ _ _ q=>sub_int q
def adl:mT X (jJ .Mult) (rI sV λi j=>.b<|i*j):=ZI λ_ _ _ _ _ _ _ hc q=>mul_int q hc.ok
def aaS:mT X (jJ .FloorDiv) (rI uG λi j=>.b<|i / j):=ZI λi j _ _ _ _ _ hc q=>by
 have h1:=hc.1;have h2:=hc.2;exact floordiv_int (by lia) (by rw[Int.fdiv_eq_ediv_of_nonneg i<|by lia];exact q) (.inl (Ou<|by omega))
def adm:mT X (jJ .Mod) (rI (λ_ j=>0<j) λi j=>.b<|i%j):=ZI λi j _ _ _ _ _ hc q=>by
 have h1:=hc;exact mod_int' (by lia) (by rw[Int.fmod_eq_emod_of_nonneg i<|by lia];exact q)
def adn:mT X (jJ .Pow) (rI sU λi j=>.b<|i ^ j.toNat):=ZI λ_ _ _ _ _ _ _ hc q=>pow_int_small hc.1 hc.2.1 hc.2.2 q
def unI{f:Z->Sem Z}{g:Int->Int}(rule:∀(i:Int) (t:Tok) (s:aj) (Q:Z->aj->Prop) (E:Z->aj->Prop),Q (.int (g i) s.toks) { s with toks:=s.toks+1 }->aG (aJ X.prog X.w) X.A (f<|.int i t) Q E s):UnR X f (rU λi=>.b<|g i):=by
 intro pins s U H x v Q I rx h;let#[i,rfl,q]:=h;let#[t,rfl]:=rx;exact rule i t s _ _ #[.b<|g i,H,I.tok _,#[_,rfl],q]
def ado:UnR X (unaryOp .USub) (rU λi=>.b<|-i):=unI λ_ _ _ _ _ q=>neg_int q
end
section
variable{X:Cx}{a b c:Expr}{ta tb tc:TE}{pos:Pos}
def SG(I:Inv X pins U H s)(q:Q (.c k) H)(e:k=k'):EP X pins U Q (.bool k') s:=by
 subst e;exact#[.c k,H,I,rfl,q]
def afU:mT X (kh .Lt) (Lr λi j=>.c<|decide<|i<j):=Wn λ_ _ _ _ _ _ _ q=>lt_int q
def afV:mT X (kh .LtE) (Lr λi j=>.c<|decide<|i<=j):=Wn λ_ _ _ _ _ _ _ q=>le_int q
def afW:mT X (kh .Gt) (Lr λi j=>.c<|decide<|j<i):=Wn λ_ _ _ _ _ _ _ q=>gt_int q
def adp:mT X (kh .Is) (λx y H Q=>y=.d/\Q (.c<|decide<|x=.d) H):=by
 intro pins s U H x y v u Q I rx ry h;let#[rfl,q]:=h;cases ry;refine is_none_gen<|SG I q ?_;cases x<;>first
  |(cases rx;rfl)
  |(let#[t,rfl]:=rx;rfl)
def aaT:mT X (kh .IsNot) (λx y H Q=>y=.d/\Q (.c<|!decide (x=.d)) H):=by
 intro pins s U H x y v u Q I rx ry h;let#[rfl,q]:=h;cases ry;refine isnot_none_gen<|SG I q ?_;cases x<;>first
  |(cases rx;rfl)
  |(let#[t,rfl]:=rx;rfl)
def aaU(ho:mT X (kh op) r)(ha:PE X a ta)(hb:PE X b tb)(hm:A8 op b=J):PE X (.Compare a [op] [b] pos) (tOp r ta tb):=by
 intro pins s U H Q I h;exact wpAny_Compare1 (Wm ha hb I h λv u s2 x y H2 I2 rx ry q=>ho pins s2 U H2 x y v u Q I2 rx ry q) hm
def yO:(ao:Nat)<2 ^ 63:=by rw[cB];decide
def Qs:mT X (jJ .Add) (λx y H Q=>∃i j,x=.e i/\y=.e j/\i.length+j.length<=ao/\Q (.e<|i++j) H):=by
 intro pins s U H x y v u Q I rx ry h;let#[i,j,rfl,rfl,hz,q]:=h;let#[t,rfl]:=rx;let#[t',rfl]:=ry;exact add_str (λt' tk=>#[.e<|i++j,H,I.tok _,#[_,rfl],q]) hz
def vals1(r:bO [x] us):∃u,us=[u]/\RelV x u:=by
 let#[u,s,rfl,h,r]:=Paired.C4 r;exact#[u,by rw[Paired.Wc r],h]
def vals2(r:bO [x,y] us):∃u w',us=[u,w']/\RelV x u/\RelV y w':=by
 let#[u,s,rfl,h,r]:=Paired.C4 r;let#[w',rfl,h']:=vals1 r;exact#[u,w',rfl,h,h']
def SH(hc:X.calm=W):o7 X (.builtin "max") (λxs H Q=>∃i j,xs=[.b i,.b j]/\Q (.b (if j>i then j else i)) H):=by
 intro pins s U H xs us Q I r h;let#[i,j,rfl,q]:=h;let#[u,w',rfl,#[t,rfl],#[t',rfl]]:=vals2 r;refine max_two_ints (I.ok.hd hc) λh' tk k=>#[_,H,I.kept k,?_,q];by_cases hj:j>i
 .rw[aQ hj,aQ hj];exact#[_,rfl]
 .rw[aE hj,aE hj];exact#[_,rfl]
def SI:o7 X (.type "int") (λxs H Q=>(∃i,xs=[.b i]/\Q (.b i) H)\/∃k,xs=[.c k]/\Q (.b (if k then 1 else 0)) H):=by
 intro pins s U H xs us Q I r h;rcases h with⟨i,rfl,q⟩|⟨k,rfl,q⟩
 .obtain⟨u,rfl,t,rfl⟩:=vals1 r;exact call_int_int #[.b i,H,I,#[_,rfl],q]
 .obtain⟨u,rfl,r1⟩:=vals1 r;cases r1;exact call_int_bool #[.b (if k then 1 else 0),H,I.tok _,#[_,rfl],q]
end
end L2
namespace L2
open PySem PySem.Spec PyProof.Rows
structure ObjM (h:Heap) (x dx C:Addr) (mA:Str->aah Z):Prop where
 obj:h.get? x=M (GL C dx)
 ns:h.Ns1 dx mA
 ne:dx≠x
set_option tactic.hygienic true in
def SJ{h:Heap}{mA:Str->aah Z}(n:h.Ns1 dx mA):∃od,h.get? dx=M od/\∀name,Ig name od=M (mA name):=by
 let#[o,es,ep,ho,hd,hk,_,hm]:=n;refine#[o,ho,λname=>?_];have e:=hm name;unfold GQ findBy at e;rw[<-Array.find?_toList]at e;unfold Ig;rw[hd];dsimp only;split
 .rename_i y q;rw[q]at e;exact qQ M e
 .rename_i q;rw[q]at e;have a:es.toList.any (·.refKey)=J:=by
   rw[Dy];intro y hy;let#[z,t,hkey]:=hk y<|m_.mp hy;simp[Zt,hkey]
  have a':¬es.toList.any (·.refKey)=W:=by rw[a];exact aN
  rw[aE a'];exact qQ M e
noncomputable def Lu(f:Str)(v:V):L (Str×V)->L (Str×V)
|[]=>[(f,v)]
|(g,x)::r=>if g=f then(g,v)::r else(g,x)::Lu f v r
def sS.some_of(r:sS (M v) o):∃u,o=M u/\RelV v u:=by
 cases o with
 |none=>exact(show bu from r).elim
 |some u=>exact#[u,rfl,r]
structure Cls (K:ak) (C:Addr):Prop where
 pg:Zu K C VL=W
 hd:vd K C=W
 po:V9 K C=W
 sa:dg K (.ref C) "__setattr__"=M (M (.builtin "object.__setattr__"))
def yP(K:ak)(C:Addr)(f:Str):Prop:=dg K (.ref C) f=M B
end L2
namespace L2
open PySem PySem.Spec PyProof.Rows
structure kj (k:Nat) (A:b7):Prop where
 hd:A.handled=B
 dp:A.depth+3*k+5<Ih
 un:A.units+16*k+200<fy
def kj.mono(r:kj k A)(h:j<=k):kj j A:=#[r.hd,by have:=r.dp;lia,by have:=r.un;lia]
def kj.deeper(r:kj (k+1) A)(env:Env):kj k (A.deeper env):=
 #[r.hd,by have:=r.dp;show A.depth+1+3*k+5<_;lia,by have:=r.un;show A.units+3+16*k+200<_;lia]
def kj.depth(r:kj k A):A.depth<Ih:=by have:=r.dp;lia
def adq:TA:=λ_ H Q=>Q [] H
def afX(ta:TE)(tr:TA):TA:=λU H Q=>ta U H λx H1=>tr U H1 λxs H2=>Q (x::xs) H2
section
variable{X:Cx}{e:Expr}{es:L Expr}{te:TE}{t:TA}{pos:Pos}
def Fc:PA X [] adq:=λ_ _ _ _ H Q I h=>c6 #[[],H,I,.nil,h]
def C6(ha:PE X e te)(hr:PA X es t)(hs:eO (e::es) X.env=(J,eval e X.env)::eO es X.env:=by rfl):PA X (e::es) (afX te t):=by
 intro pos pins s U H Q I h;rw[hs];refine cj<|bG (ha pins s U H _ I h) λu s1 ⟨x,H1,I1,r1,q1⟩=>?_;exact bG (hr pos pins s1 U H1 _ I1 q1) λus s2 qq=>by let#[xs,H2,I2,r2,q2]:=qq;exact#[x::xs,H2,I2,.cons r1 r2,q2]
def tTup(t:TA):TE:=λU H Q=>t U H λxs H1=>zl xs<=ao/\∀p,H1 p=B->Q (.a p) (upd H1 p<|.b xs)
def tLst(t:TA):TE:=λU H Q=>t U H λxs H1=>zl xs<=ao/\∀p,H1 p=B->Q (.a p) (upd H1 p<|.a xs)
def ads{x1}(h:PA X es t):PE X (.Tuple es x1 pos) (tTup t):=by
 intro pins s U H Q I hq;refine Be (bG (h pos pins s U H _ I hq) λus s1 ⟨xs,H1,I1,r,z,q⟩=>#[by rw[<-r.length];exact z,?_]);have hf:=I1.hok.fresh<|aM _;refine#[.a s1.heap.objs.size,upd H1 s1.heap.objs.size<|.b xs,I1.laid (t':=s1.toks) (λb u e=>aq _ e) (aM _) ?_,rfl,q _ hf];exact#[z,us,r,#[_,aU _ rfl,rfl,_,rfl]]
def adt(h:PA X es t):PE X (.List es pos) (tLst t):=by
 intro pins s U H Q I hq;refine wpAny_List_spliced (bG (h pos pins s U H _ I hq) λus s1 ⟨xs,H1,I1,r,z,q⟩=>#[by rw[<-r.length];exact z,?_]);have hf:=I1.hok.fresh<|aM _;refine#[.a s1.heap.objs.size,upd H1 s1.heap.objs.size<|.a xs,I1.laid (t':=s1.toks) (λb u e=>aq _ e) (aM _) ?_,rfl,q _ hf];exact#[z,us,0,r,aU _ rfl]
end
abbrev Sp:=L V->Hp->VK->XK->Prop
abbrev Bp:=L Env->Hp->aj->XK->Z->aj->Prop
structure Lv (P:br) (w:bE) (K:ak) (mg:Str->aah Z) (base:Heap) (A:b7) (outer:L Env) (s:aj) (H:Hp):Prop where
 frames:A.frames=M outer
 mod:Mod K mg base
 bs:∀b o,base.get? b=M o->s.heap.get? b=M o/\H b=B
 bsz:base.objs.size<=s.heap.objs.size
 rF:s.heap.FunFrames base outer
 frf:(∀b∈frs outer,H b=B)/\Tb H
 hok:gZ P w H s.heap
 bare:nJ s.gens
def CE(outer:L Env)(P:br)(w:bE)(H:Hp)(s:aj)(Q:VK)(u:Z)(s':aj):Prop:=
 ∃v H',s'.os=s.os/\nJ s'.gens/\Un (frs outer) [] H H' s.heap s'.heap/\gZ P w H' s'.heap/\RelV v u/\Q v H'
def CR(CX:Bp)(outer:L Env)(P:br)(w:bE)(H:Hp)(s:aj)(Q:VK)(E:XK)(r:Cv)(s':aj):Prop:=
 match r with
 |.ok (.ret u)=>CE outer P w H s Q u s'
 |.ok _=>bu
 |.error e=>CX outer H s E e s'
structure jG (P:br) (w:bE) (K:ak) (mg:Str->aah Z) (base:Heap) (CX:Bp) (k:Nat) (f:Addr) (fd:eS) (ps:L Str) (sp:Sp):Prop where
 len:∀vs H Q E,sp vs H Q E->zl vs=zl ps
 run:∀(A:b7) (outer:L Env) (s:aj) (H:Hp) (args:Args) (us:L Z) (vs:L V) (Q:VK) (E:XK),kj k A->Lv P w K mg base A outer s H->Dr s fd args (ps.zip us)->bO vs us->sp vs H Q E->
  jW (aJ P w) A (.call (.ref f) args) (CR CX outer P w H s Q E) s
def jG.mono{w:bE}{K:ak}{mg:Str->aah Z}{base:Heap}{CX:Bp}{j k:Nat}{f:Addr}{fd:eS}{ps:L Str}{sp:Sp}(F:jG P w K mg base CX j f fd ps sp)(h:j<=k):jG P w K mg base CX k f fd ps sp:=#[F.len,λA outer s H args us vs Q E hr=>F.run A outer s H args us vs Q E<|hr.mono h]
def jG.imp{w:bE}{K:ak}{mg:Str->aah Z}{base:Heap}{CX:Bp}{k:Nat}{f:Addr}{fd:eS}{ps:L Str}{sp sp':Sp}(F:jG P w K mg base CX k f fd ps sp)(h:∀vs H Q E,sp' vs H Q E->sp vs H Q E):jG P w K mg base CX k f fd ps sp':=
 #[λvs H Q E q=>F.len vs H Q E<|h _ _ _ _ q,λA outer s H args us vs Q E hr he hb hv hs=>F.run A outer s H args us vs Q E hr he hb hv<|h _ _ _ _ hs]
section
variable{X:Cx}{pins:L (Addr×Obj)}{U:St}{H:Hp}{s s':aj}
def Inv.Wo(I:Inv X pins U H s):Lv X.prog X.w X.K X.mg X.base X.A X.stack s H:=
 #[I.ok.frames,I.ok.mod,I.bs,fB I.ok.bsz I.sz,I.stack,#[I.G9,I.tb],I.hok,I.bare]
def Inv.after(I:Inv X pins U H s)(h:CE X.stack X.prog X.w H s Q u s'):EP X pins U Q u s':=by
 let#[v,H',os,bare,un,hok,r,q]:=h;let#[hh,g,d,t,os']:=s';obtain rfl:os'=s.os:=os;exact#[v,H',I.call (h':=hh) (g':=g) (d':=d) (t':=t) (ch:=[]) un hok bare (λb z=>aC z<|by simp),r,q]
end
def ZJ(sp:Sp)(dvs:L V)(E:XK)(t:TA):TE:=λU H Q=>t U H λvs H1=>sp (vs++dvs) H1 Q E
def Binds(K:ak)(fd:eS)(ps:L Str)(ds:L Z):Prop:=
 ∀(s:aj) (us:L Z),K.In s.heap->zl (us++ds)=zl ps->Dr s fd #[us,[]] (ps.zip<|us++ds)
def Binds.all{K:ak}(h:∀us:L Z,zl us=zl ps->Ay fd #[us,[]]=pure (ps.zip us)):Binds K fd ps []:=λs us _ hl=>by
 rw[dS]at hl ⊢;exact .of_eq<|h us hl
def Bq(CX:Bp)(X:Cx)(E:XK):Prop:=∀(pins:L<|Addr×Obj) (U:St) (H:Hp) (s:aj) (e:Z) (s':aj),Inv X pins U H s->CX X.stack H s E e s'->X.xe e s'
section
variable{X:Cx}{CX:Bp}{k:Nat}{f C:Addr}{fd:eS}{ps:L Str}{sp:Sp}{dvs:L V}{ds:L Z}{E:XK}{x m:Str}{p pos apos:Pos}{e o:Expr}{es:L Expr}{ta:TE}{t:TA}
def SK(F:jG X.prog X.w X.K X.mg X.base CX k f fd ps sp)(hr:kj k X.A)(hb:Binds X.K fd ps ds)(hd:bO dvs ds)(hx:Bq CX X E)(I:Inv X pins U H s)(r:bO vs us)(h:sp (vs++dvs) H Q E):aG (aJ X.prog X.w) X.A (call (.ref f) us) (EP X pins U Q) X.xe s:=by
 have r2:=r.append hd;have hl:(us++ds).length=ps.length:=by rw[<-r2.length];exact F.len _ _ _ _ h
 refine nc<|iR (F.run X.A X.stack s H #[us,[]] (us++ds) (vs++dvs) Q E hr I.Wo (hb s us I.p_ hl) r2 h) λr s' hq=>?_;cases r with
 |error e=>exact hx pins U H s e s' I hq
 |ok fl=>
  cases fl with
  |ret u=>exact I.after hq
  |next=>cases hq
  |brk=>cases hq
  |cont=>cases hq
def aaV(F:jG X.prog X.w X.K X.mg X.base CX k f fd ps sp)(hr:kj k X.A)(hg:Gl X x)(hm:X.mg x=M (.ref f))(hk:dW X.K (.ref f)=W)(hb:Binds X.K fd ps ds)(hd:bO dvs ds)(hx:Bq CX X E)(ha:PA X (e::es) t)(hdb:(x==("__debug__":Str))=J:=by decide)(he:eO (e::es) X.env=(J,eval e X.env)::eO es X.env:=by rfl)(hpl:(qh pos<|eO es X.env).any (·.1)=J:=by rfl):PE X (.Call (.Name x p) (e::es) [] pos) (ZJ sp dvs E t):=by
 intro pins s U H Q I h;refine cC<|qW I hg hm ?_ hdb;refine uC (h₀:=X.base) I.ok.mod.kin hk (bG (ha pos pins s U H _ I h) λus s1 ⟨vs,H1,I1,r,q⟩=>#[I1.p_,?_]) he hpl;exact SK F hr hb hd hx I1 r q
def Wp(F:jG X.prog X.w X.K X.mg X.base CX k f fd ps sp)(hr:kj k X.A)(hg:Gl X x)(hm:X.mg x=M (.ref f))(hk:dW X.K (.ref f)=W)(hb:Binds X.K fd ps ds)(hd:bO dvs ds)(hx:Bq CX X E)(hdb:(x==("__debug__":Str))=J:=by decide):PE X (.Call (.Name x p) [] [] pos) (ZJ sp dvs E adq):=by
 intro pins s U H Q I h;refine cC<|qW I hg hm ?_ hdb;exact Bg I.p_ hk<|SK (us:=[]) F hr hb hd hx I .nil h
structure Mk (K:ak) (C f:Addr):Prop where
 makes:GS K C=W
 init:dg K (.ref C) "__init__"=M (M (.ref f))
 fn:Nm K (.ref f)=W
 kp:dW K (.ref C)=W
end
structure o8 (N P:L Str) (sc:iM):Prop where
 kind:sc.kind=.function
 co:sc.isCoroutine=J
 gen:sc.isGenerator=J
 nd:N.Nodup
 pre:N.take (zl P)=P
 par:∀x∈P,sc.names.lookup x=M .local\/sc.names.lookup x=M .cell
 nofree:∀y∈sc.names,y.2≠.free
theorem IC{kindOf:Str->aah jn}:∀{binds:L<|Str×Z}{m:Str->aah Z},(∀v,(x,v)∉binds)->Dt kindOf binds m x=m x
|[],_,_=>rfl
|(n,v)::r,m,h=>by
 unfold Dt;rw[IC λw hw=>h w<|az _ hw];split
 .grind
 .rfl
theorem ID{kindOf:Str->aah jn}:∀{binds:L<|Str×Z}{m:Str->aah Z},(∀v,(x,v)∉binds)->Du kindOf binds m x=m x
|[],_,_=>rfl
|(n,v)::r,m,h=>by
 unfold Du;rw[ID λw hw=>h w<|az _ hw];split
 .rfl
 .grind
theorem IE{kindOf:Str->aah jn}:∀{P:L Str}{vs:L Z}{i:Nat}{m:Str->aah Z},P.Nodup->P[i]?=M x->vs[i]?=M v->kindOf x=M .local->
 Dt kindOf (P.zip vs) m x=M v
|[],_,_,_,_,h,_,_=>by simp at h
|_::_,[],_,_,_,_,h,_=>by simp at h
|p::P,w::vs,0,m,nd,h1,h2,hk=>by
 simp at h1 h2;subst h1;subst h2;show Dt kindOf ((p,w)::P.zip vs) m p=_;unfold Dt;rw[IC λv hv=>(cL.mp nd).1 (rY hv).1,aQ hk];simp
|p::P,w::vs,i+1,m,nd,h1,h2,hk=>by
 unfold Dt;exact IE (i:=i) (cL.mp nd).2 (by simpa using h1) (by simpa using h2) hk
theorem IF{kindOf:Str->aah jn}:∀{P:L Str}{vs:L Z}{i:Nat}{m:Str->aah Z},P.Nodup->P[i]?=M x->vs[i]?=M v->kindOf x≠M .local->
 Du kindOf (P.zip vs) m x=M v
|[],_,_,_,_,h,_,_=>by simp at h
|_::_,[],_,_,_,_,h,_=>by simp at h
|p::P,w::vs,0,m,nd,h1,h2,hk=>by
 simp at h1 h2;subst h1;subst h2;show Du kindOf ((p,w)::P.zip vs) m p=_;unfold Du;rw[ID λv hv=>(cL.mp nd).1 (rY hv).1,aE hk];simp
|p::P,w::vs,i+1,m,nd,h1,h2,hk=>by
 unfold Du;exact IF (i:=i) (cL.mp nd).2 (by simpa using h1) (by simpa using h2) hk
noncomputable def start(N:L Str)(vs:L V):St:=vs.map M++bl (zl N-zl vs) B
noncomputable def mV(CX:Bp)(P:br)(w:bE)(K:ak)(mg:Str->aah Z)(base:Heap)(N:L Str)(qual:Str)(scope:iM)(f:Addr)(cd:Z)(A:b7)(outer:L Env)(s:aj)(H:Hp)(E:XK):Cx where
 prog:=P
 w:=w
 K:=K
 mg:=mg
 base:=base
 A:=A.deeper (oU qual scope s.heap.objs.size f cd)
 N:=N
 ajg:=s
 ajr:=H
 env:=oU qual scope s.heap.objs.size f cd
 outer:=outer
 stack:=oU qual scope s.heap.objs.size f cd::outer
 ex:=[]
 calm:=W
 fn:=λ_=>W
 pn:=[]
 xe:=λe s'=>aG (aJ P w) (A.deeper<|oU qual scope s.heap.objs.size f cd) (leaving (oU qual scope s.heap.objs.size f cd) e) (λ_ s''=>CX outer H s E e s'') (λe' s''=>CX outer H s E e' s'') s'
def Lw{sc:iM}(h:sc.names.lookup x=M .cell):∃c,(fV n sc.names []).lookup x=M c:=by
 have q:=qj sc.names n []<|.inl h;exact wK.mp q
def IG{P:br}{w:bE}{K:ak}{mg:Str->aah Z}{base:Heap}{N ps:L Str}{qual:Str}{scope:iM}{f:Addr}{cd:Z}{A:b7}{outer:L Env}{s s1:aj}{H:Hp}{E:XK}{us:L Z}{vs:L V}(S:o8 N ps scope)(hd:A.handled=B)(e0:Lv P w K mg base A outer s H)(hl:zl vs=zl ps)(r:bO vs us)(x:InCallC s s.heap.objs.size (Dt (oU qual scope s.heap.objs.size f cd).kindOf (ps.zip us) λ_=>B) (fV (s.heap.objs.size+1) scope.names []) (Du (oU qual scope s.heap.objs.size f cd).kindOf (ps.zip us) λ_=>B) s1):Inv (mV CX P w K mg base N qual scope f cd A outer s H E) [] (start N vs) H s1:=by
 have hpl:zl ps<=zl N:=by have:=qQ Ov S.pre;rw[fC]at this;lia
 let#[h1,tk,rfl,hk]:=x.done;have noA:∀b:Addr,b∉(mV CX P w K mg base N qual scope f cd A outer s H E).ex:=λb z=>aC (show b∈([]:L Addr)from z) (by simp);refine#[#[e0.mod,S.kind,rfl,rfl,aM _,λy z c h1 h2=>?_,λy hy=>?_,λy c _ h=>?_,λ_=>hd,Around.frames_deeper e0.frames,.inr #[rfl,rfl],λb z=>aC z<|noA b,e0.bs,e0.bsz,λb _ _=>noA b,λb z=>aC z<|noA b,e0.rF,e0.frf],
  rfl,e0.bare,Un.kept hk,#[_,x.toInCall.ns,λi y v h1 h2 h3=>?_],λy c h=>#[_,x.cell y c h],e0.hok.fresh<|aM _,λy c h=>?_,λp hp=>aC (show p∈([]:L<|Addr×Obj)from hp) (by simp),e0.hok.kept hk,?_]
 .exact name_of_addr x.apart (fW h1) (fW h2)
 .rcases hy with hy|hy
  .exact Lw hy
  .exact aC rfl (S.nofree _<|fW hy)
 .exact dG (x.above y c<|fW h)
 .have hi:i<zl vs:=by
   unfold start at h2;by_cases hi:i<zl vs
   .exact hi
   .rw[eU<|by simpa using hi]at h2;rw[xh]at h2;split at h2<;>cases h2
  have ha:vs[i]?=M v:=by
   unfold start at h2;rw[fc (by simpa using hi),bz]at h2;cases e:vs[i]? with
   |none=>rw[e]at h2;cases h2
   |some a=>rw[e]at h2;cases h2;rfl
  let#[u,hu,rv]:=r.get ha;have hp:ps[i]?=M y:=by
   rw[<-S.pre,wL<|by lia];exact h1
  have ndP:ps.Nodup:=by rw[<-S.pre];exact S.nd.sublist<|List.take_sublist _ _
  refine#[u,rv,?_];rcases S.par y (jo hp)with k|k
  .exact .inl #[k,IE ndP hp hu k]
  .obtain⟨c,e⟩:=Lw (n:=s.heap.objs.size+1) k;refine .inr #[.inl k,c,e,?_];have q:=x.cell y c e;rw[IF ndP hp hu (by show scope.names.lookup y≠_;rw[k];decide)]at q;exact q
 .exact e0.hok.fresh (dG<|x.above y c<|fW h)
 .unfold start;show _=zl N;rw[aW,ai,mO]
  lia
def afY{P:br}{w:bE}{K:ak}{mg:Str->aah Z}{base:Heap}{k:Nat}{f:Addr}{name qual:Str}{params:JV}{body:L Stmt}{scope:iM}{dV kV doc pm cdv ct oc:Z}{an od:aah Addr}{osl:Array<|aah Z}{N ps:L Str}{sp:Sp}(lk:K.lookup f=M #[oc,od,.func<|gv name qual params body scope dV kV doc pm an cdv ct,osl])(hcd:mP K cdv qual=W)(S:o8 N ps scope)(len:∀vs H Q E,sp vs H Q E->zl vs=zl ps)(hbody:∀(A:b7) (outer:L Env) (s:aj) (H:Hp) (vs:L V) (Q:VK) (E:XK),kj k (A.deeper<|oU qual scope s.heap.objs.size f cdv)->sp vs H Q E->
   ∃t,vL (mV CX P w K mg base N qual scope f cdv A outer s H E) body t/\t { nx:=λ_ H'=>Q .d H',rt:=Q } (start N vs) H):
  jG P w K mg base CX (k+1) f (gv name qual params body scope dV kV doc pm an cdv ct) ps sp:=by
 refine#[len,λA outer s H args us vs Q E hr e0 hb r hsp=>?_];have hl:=len _ _ _ _ hsp;have KX:=e0.mod.kin.keeps λb o e=>(e0.bs b o e).1;have lim:=e0.mod.nolimit.keeps λb o e=>(e0.bs b o e).1;have hkind:∀y∈ps.zip us,scope.names.lookup y.1=M .local\/(scope.names.lookup y.1=M .cell/\((fV (s.heap.objs.size+1) scope.names []).lookup y.1).isSome=W):=λ⟨n,v⟩ hy=>by
  rcases S.par n (rY hy).1 with q|q
  .exact .inl q
  .exact .inr #[q,qj _ _ _<|.inl q]
 refine zu hr.depth (KX _ _ lk) rfl S.co S.gen rfl (CB KX hcd)<|hb _ _ _ _ ?_;refine uX S.kind hkind λenv he s1 x=>?_;subst he;refine#[lim.keeps x.toInCall.keep,Nn ?_];let#[t,ht,hq]:=hbody A outer s H vs Q E (hr.deeper _) hsp;have I:Inv (mV CX P w K mg base N qual scope f cdv A outer s H E) [] (start N vs) H s1:=IG S hr.hd e0 hl r x;refine d9 (ht [] s1 (start N vs) H _ I hq) (λfl s' hs=>?_) λe s' hs=>hs;have fin:∀{σ':St}{H':Hp}{v:V}{u:Z},Inv (mV CX P w K mg base N qual scope f cdv A outer s H E) [] σ' H' s'->RelV v u->Q v H'->CE outer P w H s Q u s':=
  λ{σ' H' v u} aae rv q=>#[v,H',aae.os,aae.bare,aae.base,aae.hok,rv,q]
 cases fl with
 |ret u=>
  let#[v,σ',H',aae,rv,q]:=hs;exact fin aae rv q
 |next=>
  let#[σ',H',aae,q]:=hs;exact fin (v:=V.d) (u:=fH) aae rfl q
 |brk=>
  let#[_,_,_,q]:=hs;exact bU q
 |cont=>
  let#[_,_,_,q]:=hs;exact bU q
end L2
end
section
namespace HT
open PySem PyProof.Rows
section
variable{prog:br}{w:bE}{A:b7}{E:Z->aj->Prop}{s:aj}
def aaW{Q:Z->aj->Prop}(ht:IsTup s.heap t vs.toArray)(hb:IsTup s.heap b ws.toArray)(hv:vs≠[])(h1:ws=[]->Q (.ref t) s)(h2:ws≠[]->Q (.ref s.heap.objs.size) { s with heap:=s.heap.push { cls:=.type "tuple",data:=.seq (vs++ws).toArray } })(hsz:zl vs+zl ws<=ao):aG (aJ prog w) A (jJ .Add (.ref t)<|.ref b) Q E s:=by
 let#[#[cls,dd,data,sl],ho,hc,n,hd]:=id ht;let#[#[cls2,dd2,data2,sl2],ho2,hc2,n2,hd2]:=id hb;simp only at hc hd hc2 hd2;subst hc hd hc2 hd2;have e:vs.toArray++ws.toArray=(vs++ws).toArray:=by simp
 by_cases hw:ws=[]
 .exact Np #[_,ho,rfl] #[_,ho2,rfl] EU Kr yz xj (wM _ _)
   (tuple_addW1 t b vs.toArray ws.toArray n n2 dd dd2 sl sl2 (by simpa using hv)<|by simp[hw]) #[ho,ho2,h1 hw]
 .refine Np #[_,ho,rfl] #[_,ho2,rfl] EU Kr yz xj (wM _ _)
   (tuple_addW2 t b vs.toArray ws.toArray n n2 dd dd2 sl sl2 (by simpa using hv) (by simpa using hw) (by rw[aT,aT];exact hsz)) #[ho,ho2,?_]
  rw[e];exact h2 hw
noncomputable def nR(n d:Nat):aah Int->Nat
|none=>d
|some v=>if v<0 then(v+(n:Int)).toNat else min v.toNat n
theorem Ly(n d:Nat):nR n d B=d:=rfl
theorem OJ(n d k:Nat):nR n d (M (k:Int))=min k n:=by rfl
def adu(n d:Nat)(hd:d<=n)(o:aah Int):nR n d o<=n:=by
 cases o with
 |none=>exact hd
 |some v=>
  show(if v<0 then(v+(n:Int)).toNat else min v.toNat n)<=n;by_cases hv:v<0
  .rw[aQ hv];lia
  .rw[aE hv];exact Nat.min_le_right _ _
end
end HT
namespace L2
open PySem PySem.Spec PyProof.Rows
abbrev TO:=St->Hp->(aah Int->Hp->Prop)->Prop
def PO(X:Cx)(e:aah Expr)(t:TO):Prop:=
 ∀(pins:L<|Addr×Obj) (s:aj) (U:St) (H:Hp) (Q:aah Int->Hp->Prop),Inv X pins U H s->t U H Q->
  aG (aJ X.prog X.w) X.A (evalPart e X.env) (λu s'=>∃o H',Inv X pins U H' s'/\VM u o/\Q o H') X.xe s
noncomputable def aaX:TO:=λ_ H Q=>Q B H
def intsAre_of:∀{us:L Z},bO (ns.map V.b) us->zw us ns:=by
 induction ns with
 |nil=>intro us r;rw[gw]at r;cases r;exact .nil
 |cons n ns ih=>
  intro us r;rw[bB]at r;cases r with
  |cons r1 r2=>
   let#[t,e]:=r1;subst e;exact .cons n t<|ih r2
section
variable{X:Cx}{e:Expr}{te:TE}{lo hi:aah Expr}{tl th:TO}{pos p2:Pos}
def aaY:PO X B aaX:=by
 intro pins s U H Q I h;rw[Ks];exact au #[B,H,I,.none,h]
def SlR(X:Cx)(r:V->aah Int->aah Int->Hp->VK->Prop):Prop:=
 ∀(pins:L<|Addr×Obj) (s:aj) (U:St) (H:Hp) (x:V) (v vl vu:Z) (lo hi:aah Int) (sl:Addr) (Q:VK),Inv X pins U H s->RelV x v->s.heap.IsSliceOf sl vl vu .none->VM vl lo->VM vu hi->r x lo hi H Q->
  ∃T id,vz (.type T) "__getitem__"=pure (M<|.builtin id)/\s.TypeIs v T/\aG (aJ X.prog X.w) X.A (Dv v<|.ref sl) (EP X pins U Q) X.xe s
def tSl(r:V->aah Int->aah Int->Hp->VK->Prop)(te:TE)(tl th:TO):TE:=λU H Q=>te U H λx H1=>tl U H1 λl H2=>th U H2 λu H3=>r x l u H3 Q
def Wq{r:V->aah Int->aah Int->Hp->VK->Prop}(hr:SlR X r)(he:PE X e te)(hl:PO X lo tl)(hu:PO X hi th):PE X (.Subscript e (.Slice lo hi B p2) pos) (tSl r te tl th):=by
 intro pins s U H Q I h;refine R1<|bG (he pins s U H _ I h) λv s1 ⟨x,H1,I1,r1,q1⟩=>?_;refine wpAny_Slice<|bG (hl pins s1 U H1 _ I1 q1) λvl s2 ⟨l,H2,I2,pl,q2⟩=>bG (hu pins s2 U H2 _ I2 q2) λvu s3 ⟨u,H3,I3,pu,q3⟩=>?_;rw[Ks];refine au ?_;have I4:Inv X pins U H3 { s3 with heap:=s3.heap.push { cls:=.type "slice",data:=.fields (List.toArray [vl,vu,.none]) } }:=I3.kept (t':=s3.toks) λb ob q=>aq _ q;let#[T,id,hT,ht,hg]:=hr pins { s3 with heap:=s3.heap.push { cls:=.type "slice",data:=.fields (List.toArray [vl,vu,.none]) } } U H3 x v vl vu l u s3.heap.objs.size Q I4 r1 (VN ..) pl pu q3;exact tail_any (ops:=[.ref s3.heap.objs.size,v]) ht hT hg<|by rfl
noncomputable def Qt(xs:L V)(lo hi:aah Int):L V:=(xs.drop<|HT.nR (zl xs) 0 lo).take<|HT.nR (zl xs) (zl xs) hi-HT.nR (zl xs) 0 lo
def NW(xs:L V)(lo hi:aah Int):zl (Qt xs lo hi)<=zl xs:=by
 unfold Qt;rw[fC,eV]
 lia
def afZ(K:ak):R2:=λx y H Q=>∃a b xs ys,x=.a a/\y=.a b/\sF K H a xs/\sF K H b ys/\xs≠[]/\zl xs+zl ys<=ao /\
 (ys=[]->Q (.a a) H)/\(ys≠[]->∀p,H p=B->Q (.a p) (upd H p<|.b<|xs++ys))
def bO.G_(r:bO xs us):us=[]↔xs=[]:=by
 cases r with
 |nil=>simp
 |cons _ _=>simp
def aaZ:mT X (jJ .Add) (afZ X.K):=by
 intro pins s U H x y v u Q I rx ry h;let#[a,b,xs,ys,rfl,rfl,ha,hb,hx,hz,q1,q2]:=h;cases rx;cases ry;let#[its,r1,p1,_]:=I.tuple ha;let#[its2,r2,p2,_]:=I.tuple hb;refine HT.aaW p1 p2 (λz=>hx<|r1.G_.mp z) (λz=>#[.a a,H,I,rfl,q1<|r2.G_.mp z]) (λz=>?_) (by rw[<-r1.length,<-r2.length];exact hz);refine#[.a s.heap.objs.size,_,I.laid (t':=s.toks) (o:=.b<|xs++ys) (λb ob q=>aq _ q) (aM _) ?_,rfl,q2 (λw=>z<|r2.G_.mpr w) _<|I.hok.fresh<|aM _];exact#[by rw[aW];exact hz,_,r1.append r2,IsTup.new _ _]
end
end L2
namespace L2
open PySem PySem.Spec PyProof.Rows
noncomputable def nS(n:Nat)(i:Int):aah Nat:=if 0<=i then(if i<n then M i.toNat else B)else if -(n:Int)<=i then M (i+n).toNat else B
def fq{α:Type}(xs:L α)(i:Int):aah α:=(nS (zl xs) i).bind λj=>xs[j]?
def OL(h:nS n i=M j):seqIndex? i n=M j/\j<n/\-(n:Int)<=i/\i<n:=by
 unfold nS at h;by_cases h0:0<=i
 .rw[aQ h0]at h;by_cases h1:i<n
  .rw[aQ h1]at h;have e:=cA h;exact#[by rw[Ea h0 h1,e],by omega,by lia,h1]
  .rw[aE h1]at h;cases h
 .rw[aE h0]at h;by_cases h1:-(n:Int)<=i
  .rw[aQ h1]at h;have e:=cA h;exact#[by rw[CC (by lia) h1,e],by lia,h1,by lia]
  .rw[aE h1]at h;cases h
def vC{α:Type}{xs:L α}{i:Int}{v:α}(h:fq xs i=M v):∃j,seqIndex? i (zl xs)=M j/\xs[j]?=M v/\j<zl xs/\-(zl xs:Int)<=i/\i<zl xs:=by
 unfold fq at h;cases e:nS (zl xs) i with
 |none=>rw[e]at h;cases h
 |some j=>
  rw[e]at h;let#[h1,h2,h3,h4]:=OL e;exact#[j,h1,h,h2,h3,h4]
def Hf{α:Type}{xs:L α}{j:Nat}{v:α}(h:xs[j]?=M v):fq xs (j:Int)=M v:=by
 have hj:=(bL.mp h).1;have e:nS (zl xs) (j:Int)=M j:=by
  unfold nS;rw[aQ<|by lia,aQ<|by lia];simp
 unfold fq;rw[e];exact h
def zS{α:Type}(xs:L α)(v:α):fq (xs++[v]) (-1)=M v:=by
 have hl:zl (xs++[v])=zl xs+1:=by simp
 have e:nS (zl<|xs++[v]) (-1)=M (zl xs):=by
  unfold nS;rw[hl,aE<|by decide,aQ<|by lia];congr 1
  lia
 unfold fq;rw[e];simp
def OM(b:Expr):Prop:=∀o i,Eb b J o i=operate [o,i] (Dv o i)
def ON(X:Cx)(r:R2):Prop:=
 ∀(value slice:Expr) (pins:L<|Addr×Obj) (s:aj) (U:St) (H:Hp) (x y:V) (v u:Z) (Q:VK),Inv X pins U H s->RelV x v->RelV y u->r x y H Q->
  Eb slice J v u=operate [v,u] (Dv v u)->aG (aJ X.prog X.w) X.A (Ku value slice v u) (EP X pins U Q) X.xe s
section
variable{X:Cx}{a b:Expr}{ta tb:TE}{pos:Pos}
def af0(hr:ON X r)(ha:PE X a ta)(hb:PE X b tb)(hs:OM b):PE X (.Subscript a b pos) (tOp r ta tb):=by
 intro pins s U H Q I h;exact R1<|Wm ha hb I h λv u s2 x y H2 I2 rx ry q=>hr a b pins s2 U H2 x y v u Q I2 rx ry q<|hs _ _
def rIxL(K:ak):R2:=λx y H Q=>∃p xs i v,x=.a p/\y=.b i/\jg K H p xs/\fq xs i=M v/\Q v H
def rIxT(K:ak):R2:=λx y H Q=>∃p xs i v,x=.a p/\y=.b i/\sF K H p xs/\fq xs i=M v/\Q v H
def adw:R2:=λx y H Q=>∃z i c,x=.e z/\y=.b i/\z.length<=ao/\fq z.cps.toList i=M c/\Q (.e ⟨#[c]⟩) H
def aa0:ON X (rIxL X.K):=by
 intro value slice pins s U H x y v u Q I rx ry h hs;let#[p,xs,i,z,rfl,rfl,hq,he,q]:=h;cases rx;let#[t,rfl]:=ry;let#[its,r,pl,hz]:=I.list hq;let#[j,h1,h2,h3,h4,h5]:=vC he;let#[w,ew,rw']:=r.get h2;have hl:=r.length;have hn:=yO;have fin:EP X pins U Q w s:=#[z,H,I,rw',q];by_cases h0:0<=i
 .have hj:i.toNat=j:=by
   rw[Ea h0 h5]at h1;exact cA h1
  exact item_listR pl.isList h0 (by lia) (by rw[hj];simpa using ew) fin hs
 .have hj:(i+(its.toArray.size:Int)).toNat=j:=by
   rw[CC (by lia) h4]at h1;rw[aT,<-hl];exact cA h1
  exact yC (x:=w) pl.isList.typeIs Dz.lookup
   (wpAny_getItem_list_neg (Q:=λr s'=>r=w/\EP X pins U Q r s') pl.isList (by lia) (by rw[aT]<;>lia) (by lia) (by rw[hj];simpa using ew) #[rfl,fin]) hs
def adx:ON X (rIxT X.K):=by
 intro value slice pins s U H x y v u Q I rx ry h hs;let#[p,xs,i,z,rfl,rfl,hq,he,q]:=h;cases rx;let#[t,rfl]:=ry;let#[its,r,pl,hz]:=I.tuple hq;let#[j,h1,h2,h3,h4,h5]:=vC he;let#[w,ew,rw']:=r.get h2;have hl:=r.length;have hn:=yO;have fin:EP X pins U Q w s:=#[z,H,I,rw',q];exact yC (x:=w) pl.typeIs CD.lookup
  (getItem_tuple (j:=j) (Q:=λr s'=>r=w/\EP X pins U Q r s') pl (by lia) (by lia) (by simp_all) (by simpa using ew) #[rfl,fin]) hs
def ady:ON X adw:=by
 intro value slice pins s U H x y v u Q I rx ry h hs;let#[z,i,c,rfl,rfl,hz,he,q]:=h;let#[t,rfl]:=rx;let#[t',rfl]:=ry;let#[j,h1,h2,h3,h4,h5]:=vC he;have hl:z.cps.toList.length=z.length:=by rfl
 rw[hl]at h1 h4 h5;have hn:=yO;exact tail_any (GU s z t) EV.lookup (getItem_str (c:=c) (by
  have e1:decide (i < -(2 ^ 63:Int))=J:=aK (by lia);have e2:decide (i≥2 ^ 63)=J:=aK (by lia);rw[e1,e2,A9]) (by rw[h1];simpa using h2) #[.e ⟨#[c]⟩,H,I.tok _,#[_,rfl],q]) hs
def Qu(its:L Z)(n j:Nat)(u:Z):fJ (·.setIfInBounds j u) { cls:=.type "list",data:=.seq its.toArray n }={ cls:=.type "list",data:=.seq (its.set j u).toArray n }:=by
 simp[fJ]
def Inv.lst{pins:L<|Addr×Obj}{U:St}{H:Hp}{s:aj}{p:Addr}{xs:L V}(I:Inv X pins U H s)(h:H p=M (.a xs)):∃(its:L Z) (n:Nat),bO xs its/\s.heap.get? p=M { cls:=.type "list",data:=.seq its.toArray n }/\zl xs<=ao:=by
 let#[z,its,n,r,e]:=I.hok p _ h;exact#[its,n,r,e,z]
def Inv.adz{U:St}{H:Hp}{s:aj}{p:Addr}{xs ys:L V}{its its':L Z}{n n':Nat}{f:Obj->Obj}(I:Inv X pins U H s)(h:H p=M (.a xs))(ho:s.heap.get? p=M { cls:=.type "list",data:=.seq its.toArray n })(hf:f { cls:=.type "list",data:=.seq its.toArray n }={ cls:=.type "list",data:=.seq its'.toArray n' })(r:bO ys its')(hz:zl ys<=ao)(t:Nat):Inv X pins U (upd H p<|.a ys) { s with heap:=s.heap.update p f,toks:=t }:=by
 have e:(s.heap.update p f).get? p=M { cls:=.type "list",data:=.seq its'.toArray n' }:=by
  rw[dN f ho (by rw[hf]<;>rfl),hf]
 refine I.write (x:=p) (e:=p) (by rw[h];trivial) (.inl rfl) (λb u hb q=>(bM _ _<|dc hb).trans q) #[_,e] ?_;exact#[hz,its',n',r,e]
def af1:V->V->V->Hp->(Hp->Prop)->Prop:=λo i v H Q=>∃p xs k j,o=.a p/\i=.b k/\H p=M (.a xs)/\nS (zl xs) k=M j/\Q (upd H p<|.a<|xs.set j v)
def set_list:Wi X af1:=by
 intro pins s U H o i v ov iv u Q I ro ri rv h;let#[p,xs,k,j,rfl,rfl,hp,hj,q]:=h;cases ro;let#[t,rfl]:=ri;let#[its,n,r,ho,hz]:=I.lst hp;let#[h1,h2,h3,h4]:=OL hj;have hl:=r.length;have hn:=yO;have I':Inv X pins U (upd H p<|.a<|xs.set j v) { s with heap:=s.heap.update p (fJ (·.setIfInBounds j u)) }:=
  I.adz hp ho (Qu its n j u) (r.set rv j) (by rw[n5];exact hz) s.toks
 by_cases h0:0<=k
 .have hk:k.toNat=j:=by
   rw[Ea h0 h4]at h1;exact cA h1
  exact Zv ho h0 (by lia) (by rw[aT,<-hl];exact h4) (by rw[hk];exact#[_,I',q])
 .have hk:(k+(its.toArray.size:Int)).toNat=j:=by
   rw[CC (by lia) h3]at h1;rw[aT,<-hl];exact cA h1
  exact VO ho (by lia) (by rw[aT,<-hl];exact h3) (by lia) (by rw[hk];exact#[_,I',q])
def Lz(lo hi:aah Int)(n:Nat):(tZ lo hi B n).1=((HT.nR n 0 lo:Nat):Int)/\(tZ lo hi B n).2.1=((HT.nR n n hi:Nat):Int)/\(tZ lo hi B n).2.2=1:=by
 refine#[?_,?_,rfl]
 .cases lo with
  |none=>rfl
  |some i=>
   simp only[tZ,HT.nR,EW,show(1:Int)>0 by decide,ki];by_cases h:i<0
   .simp only[h,ki]<;>lia
   .simp only[h,kQ]<;>lia
 .cases hi with
  |none=>rfl
  |some i=>
   simp only[tZ,HT.nR,EW,show(1:Int)>0 by decide,ki];by_cases h:i<0
   .simp only[h,ki]<;>lia
   .simp only[h,kQ]<;>lia
def J0(its:L Z)(lo hi:aah Int):slicePick its.toArray lo hi B=((its.drop<|HT.nR (zl its) 0 lo).take<|HT.nR (zl its) (zl its) hi-HT.nR (zl its) 0 lo).toArray:=by
 let#[h1,h2,h3]:=Lz lo hi its.toArray.size;unfold slicePick;rw[h1,h2,h3];simp only[sliceRange_one,pick_run,aT]<;>rfl
def rSlL(K:ak):V->aah Int->aah Int->Hp->VK->Prop:=λx lo hi H Q=>∃a xs,x=.a a/\jg K H a xs/\∀p,H p=B->Q (.a p) (upd H p<|.a<|Qt xs lo hi)
def aa1:SlR X (rSlL X.K):=by
 intro pins s U H x v vl vu lo hi sl Q I rx hs pl pu h;let#[a,xs,rfl,hx,q]:=h;cases rx;let#[its,r,ht,hz]:=I.list hx;have hlen:=r.length;refine#["list",_,Dz.lookup,ht.isList.typeIs,?_];refine wpAny_getItem_list_slice ht.isList hs pl pu .none (by simp) ?_ (by simp_all);rw[J0,<-hlen];refine#[.a s.heap.objs.size,_,I.laid (t':=s.toks) (o:=.a<|Qt xs lo hi) (λb ob q=>aq _ q) (aM _) ?_,rfl,q _<|I.hok.fresh<|aM _];exact#[fB (NW xs lo hi) hz,_,0,(r.drop<|HT.nR xs.length 0 lo).take<|HT.nR xs.length xs.length hi-HT.nR xs.length 0 lo,aU _ rfl]
def LA:o7 X (.builtin "len") (λxs H Q=>∃p ys,xs=[.a p]/\(jg X.K H p ys\/sF X.K H p ys)/\Q (.b ys.length) H):=by
 intro pins s U H xs us Q I r h;let#[p,ys,rfl,hq,q]:=h;let#[u,rfl,rx]:=vals1 r;cases rx;have hn:=yO;rcases hq with hq|hq
 .obtain⟨its,r',pl,hz⟩:=I.list hq;have hlen:=r'.length;exact Calls.call_len_list pl.isList (by simp only[aT]<;>lia) #[.b ys.length,H,I.tok _,#[s.toks+1,by rw[aT,hlen]],q]
 .obtain⟨its,r',pl,hz⟩:=I.tuple hq;have hlen:=r'.length;exact len_tuple pl (by simp only[aT]<;>lia) #[.b ys.length,H,I.tok _,#[s.toks+1,by rw[aT,hlen]],q]
def LB:o7 X (.builtin "len") (λxs H Q=>∃z,xs=[.e z]/\z.length<=ao/\Q (.b z.length) H):=by
 intro pins s U H xs us Q I r h;let#[z,rfl,hz,q]:=h;let#[u,rfl,t,rfl]:=vals1 r;have hn:=yO;exact len_str (by lia) #[.b z.length,H,I.tok _,#[_,rfl],q]
def LC:o7 X (.type "list") (λxs H Q=>∃p ys,xs=[.a p]/\(jg X.K H p ys\/sF X.K H p ys)/\∀l,H l=B->Q (.a l) (upd H l<|.a ys)):=by
 intro pins s U H xs us Q I r h;let#[p,ys,rfl,hq,q]:=h;let#[u,rfl,rx]:=vals1 r;cases rx;have fin:∀(its:L Z),bO ys its->ys.length<=ao->∀(h':Heap) (c':Nat),(∀b o',s.heap.get? b=M o'->h'.get? b=M o')->
   h'.get? s.heap.objs.size=M { cls:=.type "list",dict:=B,data:=.seq its.toArray c',slots:=#[] }->EP X pins U Q (.ref s.heap.objs.size) { s with heap:=h' }:=λits r' hz h' c' kp e=>
  #[.a s.heap.objs.size,_,I.laid (t':=s.toks) kp (aM _) (show fR X.prog X.w _ h' _ (.a ys)from#[hz,its,c',r',e]),rfl,q _<|I.hok.fresh<|aM _]
 rcases hq with hq|hq
 .obtain⟨its,r',pl,hz⟩:=I.list hq;have hlen:=r'.length;let#[o,ho,hc,n,hd]:=pl.isList;exact Kv p (.inl rfl) ho hc hd (λh' c' kp e=>fin its r' hz h' c' kp e) (by simp only[aT]<;>lia)
 .obtain⟨its,r',pl,hz⟩:=I.tuple hq;have hlen:=r'.length;let#[o,ho,hc,n,hd]:=pl;exact Kv p (.inr rfl) ho hc hd (λh' c' kp e=>fin its r' hz h' c' kp e) (by simp only[aT]<;>lia)
def J2:o7 X (.type "tuple") (λxs H Q=>∃p ys,xs=[.a p]/\((jg X.K H p ys/\∀l,H l=B->Q (.a l) (upd H l<|.b ys))\/(sF X.K H p ys/\Q (.a p) H))):=by
 intro pins s U H xs us Q I r h;let#[p,ys,rfl,h]:=h;let#[u,rfl,rx]:=vals1 r;cases rx;rcases h with⟨hq,q⟩|⟨hq,q⟩
 .obtain⟨its,r',pl,hz⟩:=I.list hq;have hlen:=r'.length;refine call_tuple_list pl.isList (λh' kp=>?_) (by grind);have I1:=I.kept (t':=s.toks) kp;have I2:Inv X pins U (upd H h'.objs.size<|.b ys) { s with heap:=h'.push { cls:=.type "tuple",data:=.seq its.toArray } }:=
   I1.laid (t':=s.toks) (λb o e=>aq _ e) (aM _) (show fR X.prog X.w _ _ _ (.b ys)from#[hz,its,r',IsTup.new _ _])
  exact#[.a h'.objs.size,_,I2,rfl,q _<|I1.hok.fresh<|aM _]
 .obtain⟨its,r',pl,hz⟩:=I.tuple hq;exact call_tuple_same pl #[.a p,H,I,rfl,q]
def Br(K:ak)(T:String)(x:V)(H:Hp):Prop:=match x with
|.e _=>T="str"
|.b _=>T="int"
|.a p=>(T="list"/\∃xs,jg K H p xs)\/(T="tuple"/\∃o,K.lookup p=M o/\o.cls=.type "tuple"/\o.dict=B) \/
  (T="dict"/\((∃kvs,H p=M (.c kvs))\/∃kvs,H p=M (.d kvs)))\/(T="set"/\∃S n,H p=M (.i S n))
|_=>bu
def SM(I:Inv X pins U H s)(r:RelV x v)(ty:Br X.K T x H):s.TypeIs v T/\∀a,v=.ref a->∃ob,s.heap.get? a=M ob/\ob.dict=B:=by
 cases x with
 |e z=>
  let#[t,rfl]:=r;cases(show T="str" from ty);exact#[GU s z t,λ_ e=>nomatch e]
 |b i=>
  let#[t,rfl]:=r;cases(show T="int" from ty);exact#[GV s i t,λ_ e=>nomatch e]
 |a p=>
  cases r;rcases ty with⟨rfl,xs,hq⟩|⟨rfl,o,hk,hc,hd⟩|⟨rfl,hk⟩|⟨rfl,S,n,hk⟩
  .obtain⟨its,_,pl,_⟩:=I.list hq;refine#[pl.isList.typeIs,λa e=>?_];cases e;let#[o,n,e,c,hd,_]:=pl;exact#[o,e,hd]
  .refine#[#[o,I.p_ p o hk,hc],λa e=>?_];cases e;exact#[o,I.p_ _ o hk,hd]
  .have z:∃o,s.heap.get? p=M o/\o.ExactDict:=by
    rcases hk with⟨kvs,hk⟩|⟨kvs,hk⟩
    .obtain⟨_,_,_,_,o,_,_,e,ex,_⟩:=I.hok p _ hk;exact#[o,e,ex]
    .obtain⟨_,_,_,_,o,_,_,e,ex,_⟩:=I.hok p _ hk;exact#[o,e,ex]
   let#[o,e,ex]:=z;refine#[#[o,e,ex.1],λa e2=>?_];cases e2;exact#[o,e,ex.2.1]
  .obtain⟨o,_,_,_,e,ex,_⟩:=I.hok p _ hk;refine#[#[o,e,ex.1],λa e2=>?_];cases e2;exact#[o,e,ex.2.1]
 |_=>cases ty
variable{o e:Expr}{es:L Expr}{to:TE}{t:TA}{name:Str}{apos cpos:Pos}{T id:String}{r:V->L V->Hp->VK->Prop}
end
end L2
namespace L2
open PySem PySem.Spec PyProof.Rows
def SN(X:Cx)(id:String)(r:V->L V->Hp->VK->Prop):Prop:=
 ∀(pins:L<|Addr×Obj) (s:aj) (U:St) (H:Hp) (x:V) (xs:L V) (v:Z) (us:L Z) (Q:VK),Inv X pins U H s->RelV x v->bO xs us->r x xs H Q->
  aG (aJ X.prog X.w) X.A (call (.builtin id) (v::us)) (EP X pins U Q) X.xe s
def bO.one{x:V}{us:L Z}(r:bO [x] us):∃u,us=[u]/\RelV x u:=vals1 r
theorem bO.eraseIdx:∀{xs:L V}{us:L Z} (i:Nat),bO xs us->bO (xs.eraseIdx i) (us.eraseIdx i)
|_,_,_,.nil=>.nil
|_,_,0,.cons _ t=>t
|_,_,i+1,.cons r t=>.cons r<|bO.eraseIdx i t
def bO.reverse(h:bO xs us):bO xs.reverse us.reverse:=by
 induction h with
 |nil=>exact .nil
 |cons r t ih=>rw[iH,iH];exact bO.append ih #v[r]
theorem bO.rep(h:bO xs us):∀k:Nat,bO (bl k xs).flatten (bl k us).flatten
|0=>.nil
|k+1=>by
 rw[eN,eN,gJ,gJ];exact bO.append h<|bO.rep h k
theorem II{α:Type}:∀(l:L α) (i:Nat),zl (l.eraseIdx i)<=zl l
|[],_=>aM _
|_::_,0=>jN _
|_::r,i+1=>EX<|II r i
theorem foldl_rep(its:L Z):∀(k:Nat) (acc:L Z),
 Az (λx1 x2=>x1++x2) acc.toArray (bl k its.toArray)=(acc++(bl k its).flatten).toArray
|0,acc=>by simp
|k+1,acc=>by
 have e:acc.toArray++its.toArray=(acc++its).toArray:=by simp
 have e2:(acc++its)++(bl k its).flatten=acc++(bl (k+1) its).flatten:=by grind
 rw[<-e2,<-foldl_rep its k (acc++its),<-e,eN,rZ]
section
variable{X:Cx}{pins:L (Addr×Obj)}{U:St}{H:Hp}{s:aj}{l b:Addr}{xs ys zs:L V}
def Inv.Qv{its its':L Z}{f:Array Z->Array Z}{t':Nat}(I:Inv X pins U H s)(hH:H l=M (.a xs))(e:s.heap.get? l=M { cls:=.type "list",data:=.seq its.toArray n })(hf:f its.toArray=its'.toArray)(hv:bO ys its')(hz:zl ys<=ao):Inv X pins U (upd H l<|.a ys) { s with heap:=s.heap.update l<|fJ f,toks:=t' }:=by
 have q:=EY e f;rw[hf]at q;refine I.write (x:=l) (e:=l) (by rw[hH];exact trivial) (.inl rfl) (λb' u hb hu=>(bM s.heap (fJ f)<|dc hb).trans hu) #[_,q] ?_;exact#[hz,its',_,hv,q]
def Inv.adA{t':Nat}(I:Inv X pins U H s)(hv:bO ys its)(hz:zl ys<=ao):Inv X pins U (upd H s.heap.objs.size<|.a ys) { s with heap:=s.heap.push { cls:=.type "list",data:=.seq its.toArray },toks:=t' }:=
 I.laid (λ_ _ q=>aq _ q) (aM _) #[hz,its,0,hv,aU _ rfl]
def Inv.fresh(I:Inv X pins U H s):H s.heap.objs.size=B:=I.hok.fresh<|aM _
def Inv.LD(I:Inv X pins U H s)(hH:H l=M (.a xs)):xs.length<=ao/\∃(its:L Z) (n:Nat),bO xs its/\xs.length=its.length/\s.heap.get? l=M { cls:=.type "list",data:=.seq its.toArray n }:=by
 let#[z,its,n,r,e]:=I.hok l _ hH;exact#[z,its,n,r,r.length,e]
def LF(h:n<=ao):oV n=J:=by
 exact aK<|by lia
end
section
variable{X:Cx}
def OO:V->L V->Hp->VK->Prop:=λx vs H Q=>∃l xs y,x=.a l/\vs=[y]/\H l=M (.a xs)/\zl xs<ao/\Q .d (upd H l<|.a<|xs++[y])
def SO:SN X "list.append" OO:=by
 intro pins s U H x vs v us Q I rx rv h;let#[l,xs,y,rfl,rfl,hH,hz,q]:=h;cases rx;let#[u,rfl,ru]:=rv.one;let#[z,its,n,r,hl,e]:=I.LD hH;refine lR F.slot_list_append #[_,e,rfl] F.entry_list_append (F.args_list_append_2 _ _) (DA l its.toArray n u<|by simp_all) #[e,?_];refine#[.d,_,I.Qv (its':=its++[u]) hH e (by simp) (r.append #v[ru]) ?_,rfl,q];rw[aW,g9]
 lia
def OP:V->L V->Hp->VK->Prop:=λx vs H Q=>∃l b xs zs,x=.a l/\vs=[.a b]/\H l=M (.a xs)/\H b=M (.a zs)/\zl xs+zl zs<=ao/\Q .d (upd H l<|.a<|xs++zs)
def SQ:SN X "list.extend" OP:=by
 intro pins s U H x vs v us Q I rx rv h;let#[l,b,xs,zs,rfl,rfl,hH,hB,hz,q]:=h;cases rx;let#[u,rfl,ru]:=rv.one;cases ru;let#[z,its,n,r,hl,e]:=I.LD hH;let#[z2,its2,n2,r2,hl2,e2]:=I.LD hB;have hsz:its.toArray.size+its2.toArray.size<=ao:=by grind
 have hlong:¬(!its.toArray.isEmpty&&oV (its.toArray.size+its2.toArray.size))=W:=by
  rw[LF hsz,pK];exact aN
 refine lR F.slot_list_extend #[_,e,rfl] F.entry_list_extend (F.args_list_extend_2 _ _)
  (EZ l its.toArray n b its2.toArray n2 hlong (by lia)<|by lia) #[e,e2,?_]
 refine#[.d,_,I.Qv (its':=its++its2) hH e (by simp) (r.append r2) ?_,rfl,q];rw[aW];omega
def len_rep{α:Type}(xs:L α)(k:Nat):zl (bl k xs).flatten=k*zl xs:=by simp
end
end L2
end
section
namespace L2
open PySem PySem.Spec PyProof.Rows
section
variable{κ:Type} [dz κ]
noncomputable def gc(kvs:L<|κ×V)(k:κ):aah V:=(kvs.find? λkv=>decide<|kv.1=k).map (·.2)
noncomputable def putK(kvs:L<|κ×V)(k:κ)(v:V):L (κ×V):=
 if(kvs.any λkv=>decide<|kv.1=k)=W then kvs.map (λkv=>if kv.1=k then(kv.1,v)else kv)else kvs++[(k,v)]
def Eh{p:κ×V}(e:p.1=k):gc (p::r) k=M p.2:=by simp[gc,iN,e]
def Ei{p:κ×V}(e:¬p.1=k):gc (p::r) k=gc r k:=by simp[gc,iN,e]
theorem Ej(k:κ):∀kvs:L<|κ×V,(kvs.any λkv=>decide<|kv.1=k)=(gc kvs k).isSome
|[]=>rfl
|p::r=>by
 rw[qI];by_cases e:p.1=k
 .simp only[Eh e,aA e,Bool.true_or,CF]
 .rw[Ei e,aK e,Kw];exact Ej k r
def xY(kvs:L<|κ×V)(k:κ)(v:V):zl (putK kvs k v)<=zl kvs+1:=by
 unfold putK;split
 .simp
 .simp
def Wr{kvs:L<|κ×V}(v:V)(h:gc kvs k=B):putK kvs k v=kvs++[(k,v)]:=by
 unfold putK;rw[Ej,h];exact aE<|by decide
def sS.t7(r:sS o u):o.isSome=u.isSome:=by
 cases o with
 |none=>cases u with
  |none=>rfl
  |some _=>exact(show bu from r).elim
 |some _=>cases u with
  |none=>exact(show bu from r).elim
  |some _=>rfl
def sS.getD(r:sS o u)(rd:RelV d d'):RelV (o.getD d) (u.getD d'):=by
 cases o with
 |none=>cases u with
  |none=>exact rd
  |some _=>exact(show bu from r).elim
 |some _=>cases u with
  |none=>exact(show bu from r).elim
  |some _=>exact r
def KV.val{kvs:L<|κ×V}(r:KV kvs vs)(k:κ):sS (gc kvs k) (vG vs k):=by
 induction r with
 |nil=>exact iT
 |@cons p q ps qs h t ih=>
  let#[h1,h2]:=h;by_cases e:p.1=k
  .have e':=h1.symm.trans e;have b:vG (q::qs) k=M q.2:=by simp[vG,iN,e']
   rw[Eh e,b];exact h2
  .have e':¬q.1=k:=λz=>e<|h1.trans z;have b:vG (q::qs) k=vG qs k:=by simp[vG,iN,e']
   rw[Ei e,b];exact ih
def KV.any(r:KV kvs vs)(k:κ):(kvs.any λkv=>decide<|kv.1=k)=vs.any λkv=>decide (kv.1=k):=by
 induction r with
 |nil=>rfl
 |cons h t ih=>simp_all
def KV.repl(r:KV kvs vs)(k:κ)(ry:RelV y u):KV (kvs.map λkv=>if kv.1=k then(kv.1,y)else kv) (vs.map λkv=>if kv.1=k then(kv.1,u)else kv):=by
 induction r with
 |nil=>exact .nil
 |@cons p q ps qs h t ih=>
  rw[bB,bB];refine .cons ?_ ih;let#[h1,h2]:=h;by_cases e:p.1=k
  .rw[aQ e,aQ<|h1.symm.trans e];exact#[h1,ry]
  .rw[aE e,aE λz=>e<|h1.trans z];exact#[h1,h2]
def KV.put(r:KV kvs vs)(k:κ)(ry:RelV y u):KV (putK kvs k y) (zh vs k u):=by
 unfold putK zh;rw[r.any k];by_cases e:(vs.any λkv=>decide<|kv.1=k)=W
 .rw[aQ e,aQ e];exact r.repl k ry
 .rw[aE e,aE e];exact Paired.snoc r #[rfl,ry]
def KV.length(r:KV kvs vs):zl kvs=zl vs:=Paired.length r
end
def vm(r:RelV (kV k) u):(fM P w).is k u=W:=by
 cases k with
 |inl i=>let#[t,e]:=(show ∃t,u=JR i t from r);subst e;exact DN P w i t
 |inr x=>let#[t,e]:=(show ∃t,u=JS x t from r);subst e;exact DO P w x t
theorem IJ:∀{ks:L Key}{us:L Z},bO (ks.map kV) us->ItemsAre (fM P w) ks us
|[],_,r=>by rw[gw]at r;cases r;exact .nil
|k::ks,_,r=>by
 rw[bB]at r;cases r with
 |cons h t=>exact .cons (vm h)<|IJ t
abbrev KT(H:Hp):L (L Key×V)->L (L Key×Addr×Z)->Prop:=Paired λp q=>p.1=q.1/\H q.2.1=M (.b<|p.1.map kV)/\RelV p.2 q.2.2
def KT.val{H:Hp}(r:KT H kvs xs)(k:L Key):sS (gc kvs k) ((xO xs k).map (·.2)):=by
 induction r with
 |nil=>exact iT
 |@cons p q ps qs h t ih=>
  let#[h1,_,h2]:=h;by_cases e:p.1=k
  .have e':=h1.symm.trans e;have b:xO (q::qs) k=M q.2:=by simp[xO,iN,e']
   rw[Eh e,b];exact h2
  .have e':¬q.1=k:=λz=>e<|h1.trans z;have b:xO (q::qs) k=xO qs k:=by simp[xO,iN,e']
   rw[Ei e,b];exact ih
def KT.repl(r:KT H kvs xs)(k:L Key)(ry:RelV y u):KT H (kvs.map λkv=>if kv.1=k then(kv.1,y)else kv) (xs.map<|putAt k u):=by
 induction r with
 |nil=>exact .nil
 |@cons p q ps qs h t ih=>
  rw[bB,bB];refine .cons ?_ ih;let#[h1,h2,h3]:=h;unfold putAt;by_cases e:p.1=k
  .rw[aQ e,aQ<|h1.symm.trans e];exact#[h1,h2,ry]
  .rw[aE e,aE λz=>e<|h1.trans z];exact#[h1,h2,h3]
def KT.put(r:KT H kvs xs)(k:L Key)(hb:H b=M (.b<|k.map kV))(ry:RelV y u):KT H (putK kvs k y) (storedH xs k b u):=by
 have e:(kvs.any λkv=>decide<|kv.1=k)=(xO xs k).isSome:=by
  rw[Ej,(r.val k).t7,ve]
 unfold putK storedH;rw[e];by_cases q:(xO xs k).isSome=W
 .rw[aQ q,aQ q];exact r.repl k ry
 .rw[aE q,aE q];exact Paired.snoc r #[rfl,hb,ry]
def KT.keeps(r:KT H kvs xs)(ht:∀b ys,H b=M (.b ys)->H' b=M (.b ys)):KT H' kvs xs:=
 Paired.Wd r λ_ _ z=>#[z.1,ht _ _ z.2.1,z.2.2]
section
variable{P:br}{w:bE}{H:Hp}{h:Heap}{a:Addr}
def Qw(ok:gZ P w H h)(e:Rd H a u):fR P w H h a u:=e.ok ok
def zT(ok:gZ P w H h)(e:Rd H a<|.c kvs):zl kvs<=ao/\(a==iS)=J/\∃vs,KV kvs vs/\h.DictOf (fM P w) a vs:=
 show fR P w H h a (.c kvs)from Qw ok e
def ZK(ok:gZ P w H h)(e:H a=M (.c kvs)):zl kvs<=ao/\(a==iS)=J/\∃vs,KV kvs vs/\h.DictOf (fM P w) a vs:=zT ok<|.inl e
def vN(ok:gZ P w H h)(e:H a=M (.b<|ks.map kV)):(rC<|fM P w).is h ks a:=by
 let#[_,its,r,o,h1,h2,n,h3]:=(show fR P w H h a (.b<|ks.map kV)from ok a _ e);exact#[o,its.toArray,n,h1,h2,h3,by simpa using IJ r]
def C7(ok:gZ P w H h)(e:Rd H a<|.d kvs):zl kvs<=ao/\(a==iS)=J /\
  ∃xs,KT H kvs xs/\h.DictOfH (rC<|fM P w) a xs:=by
 let#[z,y,xs,r,o,es,ep,h1,h2,h3,h4,h5]:=(show fR P w H h a (.d kvs)from Qw ok e);refine#[z,y,xs,r,o,es,ep,h1,h2,h3,h4,λx hx=>?_,h5];have all:∀{l:L<|L Key×V}{m:L<|L Key×Addr×Z},KT H l m->∀x∈m,(rC<|fM P w).is h x.1 x.2.1:=by
  intro l m q;induction q with
  |nil=>grind
  |@cons p q ps qs hq t ih=>
   intro x hx;rcases aY.mp hx with e|hx
   .subst e;exact vN ok (by rw[<-hq.1];exact hq.2.1)
   .exact ih x hx
 exact all r x hx
def af2(ok:gZ P w H h)(e:H a=M (.d kvs)):zl kvs<=ao/\(a==iS)=J /\
  ∃xs,KT H kvs xs/\h.DictOfH (rC<|fM P w) a xs:=C7 ok<|.inl e
end
def Bs(H:Hp)(a:Addr)(y:V)(r:aah V):Prop:=
 (∃kvs k,Rd H a (.c kvs)/\y=kV k/\r=gc kvs k)\/∃kvs k b,Rd H a (.d kvs)/\y=.a b/\H b=M (.b<|k.map kV)/\r=gc kvs k
def DPut(H:Hp)(a:Addr)(y v:V)(H':Hp):Prop:=
 (∃kvs k,H a=M (.c kvs)/\y=kV k/\zl kvs<ao/\H'=upd H a (.c<|putK kvs k v)) \/
 ∃kvs k b,H a=M (.d kvs)/\y=.a b/\H b=M (.b<|k.map kV)/\zl kvs<ao/\H'=upd H a (.d<|putK kvs k v)
section
variable{X:Cx}{pins:L (Addr×Obj)}{U:St}{H:Hp}{s:aj}{a:Addr}{y v:V}{u r:Z}{o:aah V}{A:b7}{E:Z->aj->Prop}
def Inv.big(I:Inv X pins U H s):iS<s.heap.objs.size:=by
 have h:=(I.mod.glob.keeps I.bk).lt;exact gx (by decide) h
def SR{Q:Z->aj->Prop}(hu:A.units+1<fy)(I:Inv X pins U H s)(g:Bs H a y<|M v)(ry:RelV y u)(h:∀w' s',Inv X pins U H s'->RelV v w'->Q w' s'):aG (aJ X.prog X.w) A (Dv (.ref a) u) Q E s:=by
 rcases g with⟨kvs,k,e,ey,l⟩|⟨kvs,k,b,e,ey,eb,l⟩
 .subst ey;let#[z,hd,vs,rel,dd]:=zT I.hok e;let#[w',hw,rw']:=sS.some_of (v:=v) (o:=vG vs k) (by rw[l];exact rel.val k);exact wpAny_getItem_of (vm ry) dd.mapOf hw<|h w' _ (I.tok _) rw'
 .subst ey;cases(show u=bH b from ry);let#[z,hd,xs,rel,dd]:=C7 I.hok e;let#[w',hw,rw']:=sS.some_of (v:=v) (o:=(xO xs k).map (·.2)) (by rw[l];exact rel.val k);let#[p,hp,hp2]:=fj.mp hw;refine wpAny_getItem_heap (lS hu) (vN I.hok eb) dd hp ?_;rw[hp2];exact h w' _ (I.tok _) rw'
def adB{Q:Z->aj->Prop}(hu:A.units+1<fy)(I:Inv X pins U H s)(g:Bs H a y o)(ry:RelV y u)(h:∀s',Inv X pins U H s'->Q (.bool o.isSome) s'):aG (aJ X.prog X.w) A (kh .In u<|.ref a) Q E s:=by
 rcases g with⟨kvs,k,e,ey,l⟩|⟨kvs,k,b,e,ey,eb,l⟩
 .subst ey;let#[z,hd,vs,rel,dd]:=zT I.hok e;refine wpAny_in_of (vm ry) hd dd.mapOf ?_;rw[<-(rel.val k).t7,<-l];exact h _<|I.tok _
 .subst ey;cases(show u=bH b from ry);let#[z,hd,xs,rel,dd]:=C7 I.hok e;refine wpAny_in_heap (lS hu) (vN I.hok eb) hd dd ?_;have q:=(rel.val k).t7;rw[ve]at q;rw[<-q,<-l];exact h _<|I.tok _
def OQ{Q:Z->aj->Prop}(hu:A.units+1<fy)(I:Inv X pins U H s)(g:Bs H a y o)(ry:RelV y u)(h:∀s',Inv X pins U H s'->Q (.bool<|!o.isSome) s'):aG (aJ X.prog X.w) A (kh .NotIn u<|.ref a) Q E s:=by
 rcases g with⟨kvs,k,e,ey,l⟩|⟨kvs,k,b,e,ey,eb,l⟩
 .subst ey;let#[z,hd,vs,rel,dd]:=zT I.hok e;refine wpAny_notIn_of (vm ry) hd dd.mapOf ?_;rw[<-(rel.val k).t7,<-l];exact h _<|I.tok _
 .subst ey;cases(show u=bH b from ry);let#[z,hd,xs,rel,dd]:=C7 I.hok e;refine wpAny_notIn_heap (lS hu) (vN I.hok eb) hd dd ?_;have q:=(rel.val k).t7;rw[ve]at q;rw[<-q,<-l];exact h _<|I.tok _
def Hg{t':Nat}(I:Inv X pins U H s)(mu:Sv<|H a)(hs:gp a s.heap h')(he:∃q,h'.get? a=M q)(new:fR X.prog X.w (upd H a ob) h' a ob):Inv X pins U (upd H a ob) { s with heap:=h',toks:=t' }:=
 I.write (x:=a) (e:=a) mu (.inl rfl) (λb q hb z=>(hs.2 b hb).trans z) he new
def SS(z:zl kvs<=ao)(hd:(a==iS)=J)(rel:KV kvs vs)(dd:h'.DictOf (fM P w) a vs):fR P w H' h' a (.c kvs):=#[z,hd,vs,rel,dd]
def IK{Q:Unit->aj->Prop}(hu:A.units+1<fy)(I:Inv X pins U H s)(g:DPut H a y v H')(ry:RelV y u)(rv:RelV v r)(h:∀s',Inv X pins U H' s'->Q () s'):aG (aJ X.prog X.w) A (Qe (.ref a) u r) Q E s:=by
 rcases g with⟨kvs,k,e,ey,l,eH⟩|⟨kvs,k,b,e,ey,eb,l,eH⟩
 .subst ey eH;let#[z,hd,vs,rel,dd]:=ZK I.hok e;have hz:vs.length<=ao:=by rw[<-rel.length];exact z
  have hl:(putK kvs k v).length<=ao:=by have:=xY kvs k v;lia
  refine wpAny_setItem_pairs (hsz:=hz) (vm ry) dd λh' dd' hs=>h _ ?_;have he:∃q,h'.get? a=M q:=let⟨q,_,_,hq,_⟩:=dd';#[q,hq]
  exact Hg I (by rw[e];exact iT) hs he<|SS hl hd (rel.put k rv) dd'
 .subst ey eH;cases(show u=bH b from ry);let#[z,hd,xs,rel,dd]:=af2 I.hok e;have hz:xs.length<=ao:=by rw[<-Paired.length rel];exact z
  have hl:(putK kvs k v).length<=ao:=by have:=xY kvs k v;lia
  refine wpAny_setItem_heap (hsz:=hz) (lS hu) (vN I.hok eb) dd λh' dd' hs=>h _ ?_;let#[q,es,ep,hq,h2,h3,h4,_,h5]:=dd';refine Hg I (by rw[e];exact iT) hs #[q,hq] #[hl,hd,_,(rel.put k eb rv).keeps λc ys ec=>?_,q,es,ep,hq,h2,h3,h4,h5];rw[bq<|afM ec e λz=>nomatch z];exact ec
end
def NX(I:Inv X pins U H s)(g:Bs H a y o):s.TypeIs (.ref a) "dict":=by
 rcases g with⟨kvs,k,e,_,_⟩|⟨kvs,k,b,e,_,_,_⟩
 .obtain⟨_,_,vs,_,dd⟩:=zT I.hok e;exact dd.typeIs
 .obtain⟨_,_,xs,_,dd⟩:=C7 I.hok e;exact dd.typeIs
def Ws(h:Heap)(hb:iS<h.objs.size):fR P w H (h.push { cls:=.type "dict",data:=.dict #[] }) h.objs.size (.c []):=
 #[c7 _,fX.mpr<|dc<|aZ hb,[],.nil,GK h]
def Wt(h:Heap)(hb:iS<h.objs.size):fR P w H (h.push { cls:=.type "dict",data:=.dict #[] }) h.objs.size (.d []):=
 #[c7 _,fX.mpr<|dc<|aZ hb,[],.nil,_,#[],0,aU _ rfl,#[rfl,rfl,rfl],rfl,rfl,gz]
def adC:TE:=λ_ H Q=>∀p,H p=B->Q (.a p) (upd H p<|.c [])
def adD:TE:=λ_ H Q=>∀p,H p=B->Q (.a p) (upd H p<|.d [])
section
variable{X:Cx}{pos:Pos}
def Wu:PE X (.Dict [] [] pos) adC:=λpins s U H Q I h=>
 E1 #[.a s.heap.objs.size,_,I.laid (a:=s.heap.objs.size) (o:=.c []) (t':=s.toks) (λ_ _ q=>aq _ q) (aM _)<|Ws s.heap I.big,rfl,h _<|I.hok.fresh<|aM _]
def Wv:PE X (.Dict [] [] pos) adD:=λpins s U H Q I h=>
 E1 #[.a s.heap.objs.size,_,I.laid (a:=s.heap.objs.size) (o:=.d []) (t':=s.toks) (λ_ _ q=>aq _ q) (aM _)<|Wt s.heap I.big,rfl,h _<|I.hok.fresh<|aM _]
end
def t8(kvs more:L<|Key×V):L (Key×V):=more.foldl (λacc kv=>putK acc kv.1 kv.2) kvs
def KV.merge:∀{more:L<|Key×V}{rs:L<|Key×Z}{kvs:L<|Key×V}{vs:L<|Key×Z},KV more rs->KV kvs vs->KV (t8 kvs more) (merged vs rs):=by
 intro more rs kvs vs r;induction r generalizing kvs vs with
 |nil=>intro q;exact q
 |@cons p q ps qs h t ih=>
  intro r0;have e:KV (putK kvs p.1 p.2) (zh vs q.1 q.2):=by
   have:=r0.put p.1 h.2;rw[<-h.1];exact this
  exact ih e
section
variable{X:Cx}{pins:L (Addr×Obj)}{U:St}{H:Hp}{s:aj}{a:Addr}{y d:V}{u r:Z}{o:aah V}{A:b7}{E:Z->aj->Prop}
def adE{Q:Z->aj->Prop}(hu:A.units+1<fy)(I:Inv X pins U H s)(g:Bs H a y o)(ry:RelV y u)(rd:RelV d r)(h:∀w' s',Inv X pins U H s'->RelV (o.getD d) w'->Q w' s'):aG (aJ X.prog X.w) A (call (.builtin "dict.get") [.ref a,u,r]) Q E s:=by
 rcases g with⟨kvs,k,e,ey,l⟩|⟨kvs,k,b,e,ey,eb,l⟩
 .subst ey;let#[z,hd,vs,rel,dd]:=zT I.hok e;refine wN zx dd.typeIs yD (xm _ _ _) (meets_dict_get_default (fM X.prog X.w) a (vm ry) hd r) #[_,dd.mapOf,h _ _ (I.tok _) ?_];rw[l];exact(rel.val k).getD rd
 .subst ey;cases(show u=bH b from ry);let#[z,hd,xs,rel,dd]:=C7 I.hok e;refine wN zx dd.typeIs yD (xm _ _ _) (meetsH_dict_get_default (rC<|fM X.prog X.w) a b hd r) #[lS hu,k,xs,vN I.hok eb,dd,h _ _ (I.tok _) ?_];rw[l];exact(rel.val k).getD rd
end
end L2
end
section
namespace Att
open PySem PySem.W PySem.Calls PyProof.Rows
def Fd:∀(ns:L Int) (vs:L Z),WellAll P h vs (ns.map VP)->zw vs ns:=by
 intro ns;induction ns with
 |nil=>
  intro vs w;rw[gw]at w;cases w;exact .nil
 |cons n ns ih=>
  intro vs w;rw[bB]at w;cases w with
  |cons a b=>
   cases a;exact .cons _ _<|ih _ b
def SV{l:Qf}(hn:l.most=M n)(hpre:l.row.toRowW.claim.pre args=W)(hwl:WellAll P h vals args):∃a vs ns,vals=[bH a]/\args=[WData.list<|ns.map VP]/\h.get? a=M { cls:=.type "list",data:=.seq vs.toArray }/\zw vs ns/\zl ns<=n:=by
 have hsh:=(R3 hpre).1;have hc:=(R3 hpre).2;let#[d,r,rfl,h1,h2]:=hasAllW_cons hsh;obtain rfl:=hasAllW_nil h2;let#[xs,rfl,h3]:=hasW_list h1;let#[ns,rfl]:=items_int h3;have hlen:zl ns<=n:=by
  have h4:(WTm.not<|.lt (.lit<|.int (n:Int))<|.len<|.arg 0).holds [] { args:=[.list<|ns.map .int] }=W:=by
   have h4:=(holds_andW hc).1;rw[hn]at h4;exact h4
  have h5:=condW_of h4<|w_not<|w_lt w_lit<|w_len_list<|w_arg rfl;rw[ai]at h5;refine Nat.le_of_not_lt λq=>?_;have q':(n:Int)<((zl ns:Nat):Int):=by omega
  (rw[aA q']at h5;exact aC h5<|by decide)
 cases hwl with
 |cons w1 w2=>
  cases w2;cases w1 with
  |list ho hall=>exact#[_,_,ns,rfl,rfl,ho,Fd ns _ hall,hlen]
def SW(l:Qf)(args:L WData):l.row.toRowW.claim.post args (.bool W) args=W:=
 postW_of (r:=l.row.toRowW) (X:=(W==W))
  (show R4 [] (.bool W) .bool=W by first|rfl|decide|simp[R4,WShape.arms,WShape.armsAll])
  (show(WTm.eq .res<|.lit<|.bool W).value [] { args:=args,res:=M<|.bool W,after:=args }=M (.bool<|W==W)from w_eq_bool (w_res rfl) w_lit) rfl
def NY{l:Qf}{XP:(Str->aah Z)->Heap->Prop}{YP:bE->Heap->Prop}(hn:l.most=M n)(hdf:d.params.defaults=[])(call:∀(w:bE) (ajg aji:aj) (mg mb:Str->aah Z) (fa:Addr) (o:Obj) (pm cd doc:Z) (a:Addr) (vs:L Z) (ns:L Int),
   Ground q loose [] XP w ajg mg mb aji.heap->YP w aji.heap->
   aji.heap.get? fa=M o->o.data=.func (docDef d.name d.params d.body d.scope pm cd doc)->aji.heap.CodeRec cd d.name->mg d.name=M (.ref fa)->
   aji.heap.get? a=M { cls:=.type "list",data:=.seq vs.toArray }->zw vs ns->zl ns<=n->aji.gens=#[]->
   jW (aJ l.prog w) vH (.call (.ref fa) #[[.ref a],[]]) (λr s'=>r=.ok (.ret<|.bool W)/\OldK aji.heap s'.heap/\s'.os=aji.os/\nJ s'.gens) aji):
  WalkO q loose XP YP l.row.toRowW d [] (λf vs=>GW f vs):=by
 intro w ajg aji mg mb G aja fa o pm cd doc dV kV ho hd hcd hD hmg hg args vals as hpre hlay hrd hwl hlo;obtain rfl:dV=.none:=Dflts.none hD hdf;obtain rfl:kV=.none:=Dflts.noKw hD;let#[a,vs,ns,rfl,rfl,hobj,hints,hlen]:=SV hn hpre hwl;refine enter_call<|iR (call w ajg aji mg mb fa o pm cd doc a vs ns G aja ho (fd_plain hd) hcd hmg hobj hints hlen hg) λr s' hq=>?_;let#[rfl,h2,h3,h4]:=hq;exact#[.inl #[.bool W,.bool W,[],rfl,λ_=>rfl,.bool W,SW l _,λ_=>#[V_,λ_ hm=>(nomatch hm)]],h2,h3,h4]
end Att
namespace L2
open PySem PySem.Spec PyProof.Rows
theorem IL:∀{vs:L Z}{ns:L Int},zw vs ns->bO (ns.map V.b) vs
|_,_,.nil=>.nil
|_,_,.cons n t h=>.cons #[t,rfl]<|IL h
noncomputable def sW(b:Addr):aah HO:=(sE.lookup b).map λq=>.g #[.str q 0]
def Ww(H:Hp):Prop:=∀b,(H b=B\/∃o xs,H b=M (.f o<|.a xs))\/∃q,sE.lookup b=M q/\H b=M (.g #[.str q 0])
def adF(K:ak)(h:Heap):Prop:=∀b q,sE.lookup b=M q->K.lookup b=B/\h.get? b=M { cls:=.none,data:=.fields #[] }/\isCodeTable h b
def SX(hn:(sE.map (·.1)).Nodup)(hp:p∈sE):sE.lookup p.1=M p.2:=by
 generalize sE=l at hn hp;induction l with
 |nil=>cases hp
 |cons x l ih=>
  rw[bB,cL]at hn;rcases aY.mp hp with rfl|hp
  .rw[eW];simp
  .have ne:(p.1==x.1)=J:=by
    rw[fX];intro z;exact hn.1 (by rw[<-z];exact List.mem_map_of_mem hp)
   rw[eW,ne];exact ih hn.2 hp
def Wx{w:bE}{K:ak}{mg mb:Str->aah Z}{CX:Bp}{k:Nat}{fa a:Addr}{fd:eS}{x:Str}{sp:Sp}{aji:aj}{vs:L Z}{ns:L Int}(KX:K.In aji.heap)(hns:aji.heap.Ns d8 mg)(hb:aji.heap.Ns pH mb)(hbb:∀x:Str,x≠"__name__"->mb x=oS x)(hlim:aji.heap.NoLimit)(hbm:∃bm ob,mg "__builtins__"=M (.ref bm)/\bm≠pH/\aji.heap.get? bm=M ob/\ob.cls=.type "module"/\ob.dict=M pH/\ob.data=.plain)(hg:aji.gens=#[])(ha:aji.heap.get? a=M { cls:=.type "list",data:=.seq vs.toArray })(hi:zw vs ns)(hl:ns.length<=ao)(hr:kj k vH)(F:∀base:Heap,K.In base->base.Ns d8 mg->jG P w K mg base CX k fa fd [x] sp)(hbind:∀(s:aj) (u:Z),Dr s fd #[[u],[]] [(x,u)])(hsp:∀H:Hp,Ww H->jg K H a (ns.map V.b)->sp [.a a] H (λv _=>v=.c W) λ_ _ _=>bu)(hCX:∀H e s',CX [] H aji (λ_ _ _=>bu) e s'->bu)(hn:(sE.map (·.1)).Nodup)(ht:adF K aji.heap):jW (aJ P w) vH (.call (.ref fa) #[[.ref a],[]]) (λr s'=>r=.ok (.ret<|.bool W)/\OldK aji.heap s'.heap/\s'.os=aji.os/\nJ s'.gens) aji:=by
 have rv:=IL hi;have xZ:=hi.length;have core:∀H:Hp,Ww H->jg K H a (ns.map V.b)->gZ P w H aji.heap->(∀b,H b≠B->b=a\/∃q,sE.lookup b=M q)->(H a≠B->K.lookup a=B)->Tb H->
   jW (aJ P w) vH (.call (.ref fa) #[[.ref a],[]]) (λr s'=>r=.ok (.ret<|.bool W)/\OldK aji.heap s'.heap/\s'.os=aji.os/\nJ s'.gens) aji:=by
  intro H hO hS hok hA hK hTb;have base_of:∀{b:Addr}{o:Obj},aji.heap.get? b=M o->H b=B->(zO aji.heap H).get? b=M o:=λe n=>We e n;have noA:∀{b:Addr}{o:Obj}{es:Array CH}{ep:Nat},aji.heap.get? b=M o->o.data=.dict es ep->H b=B:=λ{b o es ep} e d=>by
   cases q:H b with
   |none=>rfl
   |some u=>
    rcases hA b (by rw[q];simp)with e'|⟨z,e'⟩
    rotate_left 1
    .rw[(ht b z e').2.1]at e;cases e;cases d
    subst e';rw[ha]at e;cases e;have d':=d;cases d'
  have nsK:∀{b:Addr}{m:Str->aah Z},aji.heap.Ns b m->(zO aji.heap H).Ns b m:=λ{b m} ⟨o,es,ep,e,d,r⟩=>#[o,es,ep,base_of e<|noA e d,d,r];have hKb:K.In (zO aji.heap H):=λb o e=>base_of (KX b o e) (by
   cases q:H b with
   |none=>rfl
   |some u=>
    rcases hA b (by rw[q];simp)with e'|⟨z,e'⟩
    rotate_left 1
    .rw[(ht b z e').1]at e;cases e
    subst e';rw[hK (by rw[q];simp)]at e;cases e)
  have hM:Mod K mg (zO aji.heap H):=#[hKb,nsK hns,#[mb,nsK hb,hbb],let⟨mc,h1,h2⟩:=hlim;#[mc,nsK h1,h2],let⟨bm,ob,b1,b2,b3,b4,b5,b6⟩:=hbm;#[bm,ob,b1,b2,base_of b3 (by
   cases q:H bm with
   |none=>rfl
   |some u=>
    rcases hA bm (by rw[q];simp)with e'|⟨z,e'⟩
    .rw[e',ha]at b3;cases b3;cases b6
    .rw[(ht bm z e').2.1]at b3;cases b3;cases b6),b4,b5,b6]]
  have e0:Lv P w K mg (zO aji.heap H) vH [] aji H:=#[rfl,hM,λb o e=>aaM e,CJ<|Sw _ _,trivial,#[λb hb=>aC (show b∈([]:L Addr)from hb) (by simp),hTb],hok,.of_eq hg];refine iR ((F _ hKb<|nsK hns).run vH [] aji H #[[.ref a],[]] [.ref a] [.a a] _ _ hr e0 (hbind aji<|.ref a) #v[rfl]<|hsp H hO hS) λr s' h=>?_;cases r with
  |error e=>exact(hCX H e s' h).elim
  |ok fl=>
   cases fl with
   |next=>cases h
   |brk=>cases h
   |cont=>cases h
   |ret u=>
    let#[v,H',os,bare,un,hok',r',q]:=h;have q':v=.c W:=q;subst q';obtain rfl:u=RU W:=r';refine#[rfl,#[λb o e=>?_,λb o e=>un.there b o e<|by simp],os,bare];cases q:H b with
    |none=>exact .inl (un.keep b o e q (by intro z;exact aC (show b∈([]:L Addr)from z)<|by simp)<|by simp)
    |some u=>
     rcases hO b with(z|⟨ob,xs,z⟩)|⟨y,y1,z⟩
     .rw[q]at z;cases z
     .have z2:=un.aH b ob _ z;let#[e1,_]:=hok b _ z;let#[e2,_]:=hok' b _ z2;rw[e]at e1;cases e1;exact .inl e2
     .obtain⟨more,z2⟩:=un.tbls b _ z;let#[qs,e2,_]:=(show ZE H' s'.heap b _ from hok' b _ z2);let#[_,e1,e3]:=ht b y y1;rw[e1]at e;cases e;exact .inr (.inl #[e3,rfl,#[],qs,rfl,by rw[e2];simp])
 have hT:∀b,sW b≠B->∃q,sE.lookup b=M q:=λb z=>by
  cases q:sE.lookup b with
  |none=>exact aC (by unfold sW;rw[q];rfl) z
  |some y=>exact#[y,rfl]
 have hokT:∀{H:Hp} (b:Addr) (u:HO),sW b=M u->fR P w H aji.heap b u:=λb u z=>by
  cases q:sE.lookup b with
  |none=>unfold sW at z;rw[q]at z;cases z
  |some y=>
   unfold sW at z;rw[q]at z;cases z;exact#[#[],(ht b y q).2.1,trivial,λ_ _ e=>nomatch e]
 have tbT:Tb sW:=λp hp=>#[#[],by unfold sW;rw[SX hn hp];simp];have noTa:sE.lookup a=B:=by
  cases q:sE.lookup a with
  |none=>rfl
  |some y=>have e:=(ht a y q).2.1;rw[ha]at e;cases e
 cases hk:K.lookup a with
 |some o=>
  have e:=KX a o hk;rw[ha]at e;cases e;refine core sW (λb=>?o) (.inr #[_,vs.toArray,_,hk,rfl,rfl,rfl,by rw[aT,xZ];exact hl,by simpa using rv]) (λb u z=>hokT b u z) (λb z=>.inr<|hT b z) (λz=>(hT a z).elim λq e=>(ht a q e).1) tbT;cases q:sE.lookup b with
  |none=>exact .inl (.inl (by unfold sW;rw[q];rfl))
  |some z=>exact .inr #[z,rfl,by unfold sW;rw[q];rfl]
 |none=>
  refine core (λb=>if b=a then M (.f { cls:=.type "list",data:=.seq vs.toArray }<|.a<|ns.map V.b)else sW b) (λb=>?_) (.inl<|.inr #[{ cls:=.type "list",data:=.seq vs.toArray },aQ rfl]) (λb u z=>?_) (λb z=>?_) (λ_=>hk) λp hp=>?_
  .by_cases hb:b=a
   .exact .inl (.inr #[_,_,aQ hb])
   .cases q:sE.lookup b with
    |none=>exact .inl (.inl ((aE hb).trans (by unfold sW;rw[q];rfl)))
    |some y=>exact .inr #[y,rfl,(aE hb).trans (by unfold sW;rw[q];rfl)]
  .by_cases hb:b=a
   .have z':=(aQ hb).symm.trans z;cases z';subst hb;exact#[ha,by rw[ai];exact hl,vs,_,rv,ha]
   .exact hokT b u ((aE hb).symm.trans z)
  .by_cases hb:b=a
   .exact .inl hb
   .exact .inr (hT b λy=>z<|(aE hb).trans y)
  .obtain⟨m,e⟩:=tbT p hp;exact#[m,(aE λz=>by rw[<-z,SX hn hp]at noTa;cases noTa).trans e]
end L2
namespace L2
open PySem PySem.Spec PyProof.Rows
def aa2{l:GX}{XP:(Str->aah Z)->Heap->Prop}{YP:bE->Heap->Prop}{K:VQ->ak}{CX:bE->Bp}{sp:bE->Sp}(hn:l.most=M n)(hn2:n<=ao)(hdf:d.params.defaults=[])(hr:kj k vH)(hY:∀(w:bE) (h:Heap),YP w h->(K w.params).In h)(F:∀(w:bE) (mg:Str->aah Z) (fa:Addr) (h:Heap),(K w.params).In h->h.Ns d8 mg->mg d.name=M (.ref fa)->
   ∃fd:eS,(∀(s:aj) (u:Z),Dr s fd #[[u],[]] [(x,u)]) /\
    ∀base:Heap,(K w.params).In base->base.Ns d8 mg->jG l.prog w (K w.params) mg base (CX w) k fa fd [x] (sp w))(hsp:∀(w:bE) (H:Hp) (a:Addr) (ns:L Int),zl ns<=n->Ww H->jg (K w.params) H a (ns.map V.b)->sp w [.a a] H (λv _=>v=.c W) λ_ _ _=>bu)(hCX:∀(w:bE) (H:Hp) (s:aj) (e:Z) (s':aj),CX w [] H s (λ_ _ _=>bu) e s'->bu)(hnd:(sE.map (·.1)).Nodup:=by decide)(hTb:∀(w:bE) (h:Heap),YP w h->adF (K w.params) h:=by intro _ _ _ _ _ z;cases z):
  Ky q loose XP YP l.row.toRowW d [] (λf vs=>GW f vs):=by
 refine Att.NY hn hdf λw ajg aji mg mb fa o pm cd doc a vs ns G aja ho hd hcd hmg hobj hints hlen hg=>?_;have KX:=hY w _ aja;let#[fd,hb,hF]:=F w mg fa _ KX G.T.g hmg;exact Wx KX G.T.g G.T.b G.T.builtins G.T.nolimit G.T.bmain hg hobj hints (fB hlen hn2) hr hF hb (λH hO hS=>hsp w H a ns hlen hO hS) (λH e s'=>hCX w H aji e s') hnd<|hTb w _ aja
end L2
namespace L2
open PySem PySem.Spec PyProof.Rows
def o9(s:Stmt):JV:=match s with
|.FunctionDef _ a _ _ _ _ _ _ _ _=>a
|_=>{ posonlyargs:=[],args:=[],vararg:=B,kwonlyargs:=[],kw_defaults:=[],kwarg:=B,defaults:=[] }
def jr(s:Stmt):L Stmt:=match s with
|.FunctionDef _ _ b _ _ _ _ _ _ _=>b
|_=>[]
def cQ(s:Stmt):iM:=match s with
|.FunctionDef _ _ _ _ _ _ sc _ _ _=>sc
|_=>{ kind:=.function,names:=[],isGenerator:=J,isCoroutine:=J }
noncomputable abbrev IM:Bp:=λ_ _ _ _ _ _=>bu
noncomputable abbrev E0:XK:=λ_ _ _=>bu
structure vO (K:ak) (x qual:Str) (st:Stmt) (f:Addr) (fd:eS):Prop where
 ex:∃(oc:Z) (od:aah Addr) (kV doc pm:Z) (an:aah Addr) (cdv ct:Z) (osl:Array (aah Z)),
  fd=gv x qual (o9 st) (jr st) (cQ st) .none kV doc pm an cdv ct/\K.lookup f=M #[oc,od,.func fd,osl]/\mP K cdv qual=W
 kp:dW K (.ref f)=W
section
variable{P:br}{w:bE}{K:ak}{mg:Str->aah Z}{base:Heap}
def vO.binds{st:Stmt}{f:Addr}{fd:eS}{ps:L Str}(F:vO K x qual st f fd)(h:∀(kV doc pm:Z) (an:aah Addr) (cdv ct:Z) (us:L Z),zl us=zl ps->Ay (gv x qual (o9 st) (jr st) (cQ st) .none kV doc pm an cdv ct) #[us,[]]=pure (ps.zip us)):Binds K fd ps []:=by
 let#[oc,od,kV,doc,pm,an,cdv,ct,osl,rfl,lk,hcd]:=F.ex;exact .all<|h kV doc pm an cdv ct
def fun_mk{st:Stmt}{f:Addr}{oc:Z}{od an:aah Addr}{osl:Array<|aah Z}{kV doc pm cdv ct:Z}(l:K.lookup f=M #[oc,od,.func<|gv x qual (o9 st) (jr st) (cQ st) .none kV doc pm an cdv ct,osl])(c:mP K cdv qual=W)(k:dW K (.ref f)=W):vO K x qual st f (gv x qual (o9 st) (jr st) (cQ st) .none kV doc pm an cdv ct):=#[#[oc,od,kV,doc,pm,an,cdv,ct,osl,rfl,l,c],k]
end
section
variable{X:Cx}
def pv(i:Nat)(hN:X.N[i]?=M x:=by rfl)(hv:Lo X.env.scope x:=by first|exact Or.inl rfl|exact VR (Or.inl rfl)|exact VR<|VR rfl)(hd:(x==("__debug__":Str))=J:=by decide)(hcd:(x==("__classdict__":Str))=J:=by decide):PE X (.Name x pos) (ac0 i):=Sx hN hv hd hcd
end
def bh(H H':Hp):Prop:=∀b o,H b=M o->H' b=M o
def bh.refl(H:Hp):bh H H:=λ_ _ h=>h
def bh.trans(a:bh H H1)(b:bh H1 H2):bh H H2:=λc o h=>b c o<|a c o h
end L2
end
section
namespace L2
open PySem PySem.W PySem.Calls PyProof.Rows
noncomputable def vP{α:Type}(lt:Nat->Nat->Bool):KasT α->α
|.ret a=>a
|.ask i j k=>vP lt<|k<|lt i j
def KBd(n:Nat){α:Type}(aaf:α->Prop):KasT α->Prop
|.ret a=>aaf a
|.ask i j k=>i<n/\j<n/\∀b,KBd n aaf<|k b
theorem SY{α:Type}{cmp:Nat->Nat->(Bool->aj->Prop)->aj->Prop}{lt:Nat->Nat->Bool}{aaf:α->Prop}(hc:∀i j (C:Bool->aj->Prop),i<n->j<n->C (lt i j) s->cmp i j C s):∀(t:KasT α) (Q:α->aj->Prop),KBd n aaf t->(aaf (vP lt t)->Q (vP lt t) s)->t.kasWp cmp Q s
|.ret _,_,hb,h=>h hb
|.ask i j k,Q,hb,h=>hc i j _ hb.1 hb.2.1<|SY hc (k<|lt i j) Q (hb.2.2 _) h
theorem Fe{α:Type}{aaf:α->Prop}(lt:Nat->Nat->Bool):∀(t:KasT α),KBd n aaf t->aaf (vP lt t)
|.ret _,h=>h
|.ask i j k,h=>Fe lt (k<|lt i j)<|h.2.2<|lt i j
theorem KBd.bind{α β:Type}{aaf:α->Prop}{C:β->Prop}{f:α->KasT β}(hf:∀a,aaf a->KBd n C (f a)):∀(t:KasT α),KBd n aaf t->KBd n C (t.bind f)
|.ret a,h=>hf a h
|.ask i j k,h=>#[h.1,h.2.1,λb=>KBd.bind hf (k b)<|h.2.2 b]
def mh(n:Nat)(p:Array Nat):Prop:=0<n/\p.Perm (bg n).toArray
def mh.DR(h:mh n p)(k:Nat):p.getD k 0<n:=by
 by_cases hk:k<p.size
 .have e:p.getD k 0=p[k]:=by simp[R5,hk]
  rw[e];have hm:=h.2.mem_iff.mp<|Array.getElem_mem hk;simpa using hm
 .have e:p.getD k 0=0:=by simp[R5,hk]
  rw[e];exact h.1
def mh.rev(h:mh n p)(i j:Nat):mh n (kas_rev p i j):=#[h.1,(mirror_perm p i j _).trans h.2]
def mh.bub(h:mh n p)(k d:Nat):mh n (bubble p k d):=#[h.1,(bubble_perm p k d).trans h.2]
theorem LG(h:mh n p):∀(f m:Nat),KBd n (λ_=>True)<|kas_asc p f m
|0,_=>trivial
|f+1,m=>#[h.DR _,h.DR _,λb=>by
 cases b with
 |true=>exact trivial
 |false=>exact LG h f<|m+1]
theorem C8:∀(f:Nat) (p:Array Nat) (m q:Nat),mh n p->KBd n (λr=>mh n r.1) (kas_desc f p m q)
|0,p,_,_,h=>h
|f+1,p,m,q,h=>#[h.DR _,h.DR _,λb=>by
 cases b with
 |true=>
  split
  .exact C8 f _ _ _ (h.rev _ _)
  .exact C8 f _ _ _ h
 |false=>
  refine#[h.DR _,h.DR _,λd=>?_];cases d with
  |true=>exact h
  |false=>exact C8 f _ _ _ h]
def LH(h:mh n p)(m nrem:Nat):KBd n (λr=>mh n r.2) (kas_tail3 m nrem p):=
 KBd.bind (C:=λ(r:Nat×Array Nat)=>mh n r.2) (f:=λa=>.ret (a,kas_rev p 0 m)) (λa _=>h.rev 0 m) _ (LG (h.rev 0 m) _ _)
def DS(h:mh n p)(m nrem:Nat):KBd n (λr=>mh n r.2) (kas_descPart m nrem p):=
 KBd.bind (λr hr=>by
  split
  .exact LH (mh.rev hr _ _) _ _
  .exact LH hr _ _) _ (C8 _ _ _ _ h)
def Wy(h:mh n p)(nrem:Nat):KBd n (λr=>mh n r.2) (kas_count nrem p):=
 KBd.bind (λm _=>by
  split
  .exact h
  .split
   .refine#[h.DR _,h.DR _,λc=>?_];cases c with
    |true=>exact h
    |false=>exact DS (h.rev _ _) _ _
   .exact DS h _ _) _ (LG h _ _)
theorem Ek(h:mh n p)(k:Nat):∀(f l r:Nat),KBd n (λ_=>True)<|kas_place p k f l r
|0,_,_=>trivial
|f+1,l,r=>by
 show KBd n _ (if l≥r then _ else _);split
 .exact trivial
 .refine#[h.DR _,h.DR _,λc=>?_];cases c with
  |true=>exact Ek h k f _ _
  |false=>exact Ek h k f _ _
theorem S0:∀(f:Nat) (p:Array Nat) (k:Nat),mh n p->KBd n (mh n) (kas_bin f p k)
|0,_,_,h=>h
|f+1,p,k,h=>KBd.bind (λl _=>S0 f _ _<|h.bub _ _) _<|Ek h k _ _ _
def yQ(h:0<n):KBd n (mh n) (qR n):=
 KBd.bind (λr hr=>by
  split
  .exact S0 _ _ _ hr
  .exact hr) _ (Wy #[h,aaE _] _)
def rG(n:Nat)(lt:Nat->Nat->Bool):L Nat:=if n<2 then bg n else(vP lt<|qR n).toList
noncomputable def ltK:Key->Key->Bool
|.inl i,.inl j=>decide<|i<j
|.inr x,.inr y=>decide<|x.cps.toList<y.cps.toList
|_,_=>J
def vQ:L Key->L Key->Bool
|p::ps,q::qs=>if p=q then vQ ps qs else ltK p q
|_,_=>J
noncomputable def kq:L Key->L Key->Bool
|[],[]=>W
|.inl _::ps,.inl _::qs=>kq ps qs
|.inr _::ps,.inr _::qs=>kq ps qs
|_,_=>J
def o_{α:Type}[JW α](key:α->L Key)(xs:L α):L α:=(rG (zl xs) λi j=>vQ (key<|xs.getD i default)<|key<|xs.getD j default).map λi=>xs.getD i default
section
variable{prog:br}{w:bE}{A:b7}{E:Z->aj->Prop}{s:aj}{b:Bool}{Q:Bool->aj->Prop}
theorem adG:∀{ks qs:L Key}{us ws:L Z} (i:Nat),bO (ks.map kV) us->bO (qs.map kV) ws->kq ks qs=W->Q (vQ ks qs) s->KatLex prog w A b J Q (us.zip ws) i s:=by
 intro ks;induction ks with
 |nil=>
  intro qs us ws i hu hv hs h;cases qs with
  |nil=>
   obtain rfl:=Paired.Wc hu;exact h
  |cons q qs=>cases hs
 |cons k ks ih=>
  intro qs us ws i hu hv hs h;cases qs with
  |nil=>cases k<;>cases hs
  |cons q qs=>
   let#[u,us,rfl,hu,ru]:=Paired.C4 hu;let#[v,ws,rfl,hv,rv]:=Paired.C4 hv;cases k with
   |inl x=>
    cases q with
    |inr y=>cases hs
    |inl y=>
     let#[t,rfl]:=hu;let#[t',rfl]:=hv;refine kat_cons<|ER<|kat_go (λe=>?_) λe=>?_
     .have e:=jP.mp e;subst e;refine kat_yes<|ih (i+1) ru rv hs ?_;have:vQ (.inl x::ks) (.inl x::qs)=vQ ks qs:=aQ rfl;rw[this]at h;exact h
     .have hn:x≠y:=by intro z;rw[z]at e;simp at e
      have:vQ (.inl x::ks) (.inl y::qs)=decide (x<y):=aE λz=>hn<|Ow z;rw[this]at h;refine kat_no ?_;cases hb:(b&&i==0)with
      |true=>exact oneLt_int h
      |false=>exact kat_one _ _<|lt_int h
   |inr x=>
    cases q with
    |inl y=>cases hs
    |inr y=>
     let#[t,rfl]:=hu;let#[t',rfl]:=hv;refine kat_cons<|eqBool_str<|kat_go (λe=>?_) λe=>?_
     .have e:=jP.mp e;subst e;refine kat_yes<|ih (i+1) ru rv hs ?_;have:vQ (.inr x::ks) (.inr x::qs)=vQ ks qs:=aQ rfl;rw[this]at h;exact h
     .have hn:x≠y:=by intro z;rw[z]at e;simp at e
      have:vQ (.inr x::ks) (.inr y::qs)=decide (x.cps.toList<y.cps.toList):=aE λz=>hn<|yE z;rw[this]at h;refine kat_no ?_;cases hb:(b&&i==0)with
      |true=>exact oneLt_str h
      |false=>exact kat_one _ _<|lt_str h
end
def qL(h:Heap)(v:Z)(ks:L Key):Prop:=∃(t:Addr) (o:Obj) (us:L Z) (k:Nat),v=.ref t/\h.get? t=M o/\o.cls=.type "tuple"/\o.data=.seq us.toArray k/\bO (ks.map kV) us
theorem DT{α β:Type}{R:α->β->Prop}{d:α}{e:β}{xs:L α}{ys:L β}(p:Paired R xs ys):∀i,i<zl xs->R (xs.getD i d) (ys.getD i e):=by
 induction p with
 |nil=>exact λi h=>aC h<|gU i
 |cons r _ ih=>
  intro i h;cases i with
  |zero=>exact r
  |succ i=>exact ih i<|Nat.lt_of_succ_lt_succ h
def getD_mem{α:Type}{d:α}{xs:L α}{i:Nat}(h:i<zl xs):xs.getD i d∈xs:=by simp_all
theorem LI{ks:L Key}:∀{qs:L Key},kq ks qs=W->zl ks=zl qs:=by
 induction ks with
 |nil=>intro qs h;cases qs with
  |nil=>rfl
  |cons q qs=>cases h
 |cons k ks ih=>intro qs h;cases qs with
  |nil=>cases k<;>cases h
  |cons q qs=>cases k<;>cases q<;>first|exact qQ (·+1) (ih (qs:=qs) h)|(cases h)
section
variable{prog:br}{w:bE}{A:b7}{E:Z->aj->Prop}{s:aj}
def aa3{Q:Bool->aj->Prop}(hv:qL s.heap v ks)(hu:qL s.heap u qs)(hs:kq ks qs=W)(h:Q (vQ ks qs) s):aG (aJ prog w) A (keyLt' (tuples' b) v u) Q E s:=by
 let#[t,o,us,n,rfl,h1,h2,h3,h4]:=hv;let#[t',o',us',n',rfl,k1,k2,k3,k4]:=hu;refine kat_lt h1 h3 k1 k3 ?_;have e:decide (us.toArray.size<us'.toArray.size)=J:=by
  have e1:=h4.length;have e2:=k4.length;rw[ai]at e1 e2;have:=LI hs;simp
  lia
 rw[e];exact adG 0 h4 k4 hs h
noncomputable def lX:L Key->Z
|.inl _::_=>.type "int"
|_=>.type "str"
def Qx(h:kq ks qs=W)(hn:ks≠[]):lX ks=lX qs:=by
 cases ks with
 |nil=>exact aC rfl hn
 |cons k ks=>
  cases qs with
  |nil=>cases k<;>cases h
  |cons q qs=>cases k<;>cases q<;>first|rfl|(cases h)
theorem Qy{vs:L Z}{kss:L<|L Key}(p:Paired (qL h) vs kss):(∀ks∈kss,ks≠[]/\lX ks=T)->∃fs:L Z,KatTups h vs fs/\zl fs=zl vs/\∀f∈fs,Looks aab h (VS f) T:=by
 induction p with
 |nil=>exact λ_=>#[[],trivial,rfl,λ_ z=>by cases z]
 |@cons _ ks _ _ x _ ih=>
  intro hk;let#[t,o,us,n,e,h1,h2,h3,h4]:=x;let#[fs,k1,k2,k3]:=ih λks hks=>hk ks<|az _ hks;let#[hne,hT]:=hk ks aD;subst e;cases ks with
  |nil=>exact aC rfl hne
  |cons k ks=>
   let#[u0,us,rfl,hu,ru]:=Paired.C4 h4
   .cases k with
    |inl i=>
     let#[tk,rfl]:=hu;refine#[.int i tk::fs,#[#[t,o,_,n,rfl,h1,h2,h3,by simp],k1],by simp[k2],λf hf=>?_];rcases aY.mp hf with rfl|hf
     .rw[<-hT];exact Kz rfl
     .exact k3 f hf
    |inr x=>
     let#[tk,rfl]:=hu;refine#[.str x tk::fs,#[#[t,o,_,n,rfl,h1,h2,h3,by simp],k1],by simp[k2],λf hf=>?_];rcases aY.mp hf with rfl|hf
     .rw[<-hT];exact Kz rfl
     .exact k3 f hf
def lY(vs:L Z)(lt:Nat->Nat->Bool):L Z:=(rG (zl vs) lt).map λi=>vs.getD i fH
def S1(prog:br)(w:bE)(A:b7)(vs:L Z)(lt:Nat->Nat->Bool)(h:Heap):Prop:=
 ∃κ,∀s:aj,s.heap=h->(∀(E:Z->aj->Prop) (Q:SortKind->aj->Prop),Q κ s->aG (aJ prog w) A (keyKind' vs.toArray) Q E s)/\∀i j C,i<zl vs->j<zl vs->C (lt i j) s->kas_ask prog w A κ vs i j C s
def LJ(kss:L<|L Key)(i j:Nat):Bool:=vQ (kss.getD i [])<|kss.getD j []
def Em{h:Heap}{vs:L Z}{kss:L<|L Key}(ht:Paired (qL h) vs kss)(h1:∀ks∈kss,ks≠[])(hs:∀ks∈kss,∀qs∈kss,kq ks qs=W)(h2:2<=zl vs):S1 prog w A vs (LJ kss) h:=by
 have hT2:∀ks:L Key,(lX ks==lX ks)=W:=by simp
 have hlen:=(Paired.length ht).symm;have hpos:0<zl kss:=by lia
 let#[fs,f1,f2,f3]:=Qy ht λks hks=>#[h1 ks hks,Qx (hs ks hks _<|getD_mem hpos)<|h1 ks hks];refine#[tuples'<|lX (kss.getD 0 []) != Value.type "tuple",λs e=>?_];subst e;exact#[λE Q q=>kat_kind f1 (by lia) f3 (hT2 _) q,λi j C hi hj hC=>aa3 (DT ht i hi) (DT ht j hj) (hs _ (getD_mem<|by lia) _ (getD_mem<|by lia)) hC]
def vR{lt:Nat->Nat->Bool}{P:PySem.Fin->aj->Prop}(ho:s.heap.get? a=M (iE "list" vs.toArray n))(hC:∀h',(∀b o,b≠a->s.heap.get? b=M o->h'.get? b=M o)->2<=zl vs->S1 prog w A vs lt h')(h64:zl vs<64)(h:∀h' c,(∀b o,b≠a->s.heap.get? b=M o->h'.get? b=M o)->h'.get? a=M (iE "list" (lY vs lt).toArray c)->P (.done<|.ret .none) { s with heap:=h' }):aG (aJ prog w) A (mK.«list.sort» #[[.ref a],[]]) P E s:=by
 have ha:=aF ho;obtain⟨e1,ho1⟩:∃e1,(s.heap.update a<|fJ λ_=>(#[]:Array Z)).get? a=M (iE "list" #[] e1):=#[_,GY ho λ_=>#[]];have hk1:∀b o,b≠a->s.heap.get? b=M o->(((s.heap.update a<|fJ λ_=>(#[]:Array Z)).push<|iE "tuple" vs.toArray 0).push<|iE "list" #[] 0).get? b=M o:=λb o hb e=>
  aq _ (aq _ (by rw[Bh _ _ _ _ hb];exact e))
 have ho3:(((s.heap.update a<|fJ λ_=>(#[]:Array Z)).push<|iE "tuple" vs.toArray 0).push<|iE "list" #[] 0).get? a=M (iE "list" #[] e1):=aq _<|aq _ ho1;rw[list_sort_plain];refine ah<|listItems_at ho rfl ?_;refine ah (KA ho rfl ?_ (by rw[aT,cB];lia)<|c7 _);refine ah<|Ox ho1 rfl ?_;refine ah (Ii ?_ (by show zl vs<=_;rw[cB];lia));refine ah<|uY ?_<|c7 _;refine cW ?_;dsimp only;generalize hH:((s.heap.update a<|fJ λ_=>(#[]:Array Z)).push<|iE "tuple" vs.toArray 0).push (iE "list" #[] 0)=H3 at hk1 ho3 ⊢;have fin:∀(st:SortSt),(R6 st).map (·.2)=(lY vs lt).toArray->Nq st=B->zl (lY vs lt)=zl vs->
   aG (aJ prog w) A (do
    let touched:=(<-seqEpoch a) != e1
    xo (.ref a) λ_=>(R6 st).map (·.2)
    if let M e:=Nq st then rule "list.sort.comparison-raised";throw e
    if touched then rule "list.sort.modified";raiseError "ValueError" "list modified during sort"
    ret .none) P E { s with heap:=H3 }:=by
  intro st har hf hol;obtain⟨c2,hc2⟩:∃c2,(H3.update a<|fJ λ_=>(lY vs lt).toArray).get? a=M (iE "list" (lY vs lt).toArray c2):=#[_,GY ho3 λ_=>(lY vs lt).toArray];refine ah<|Ox (s:={ s with heap:=H3 }) ho3 rfl ?_;refine ah<|KA (s:={ s with heap:=H3 }) ho3 rfl ?_ (c7 _) ?_
  .rw[hf,har];simp only[DB,cJ,kQ];refine au<|h _ c2 (λb o hb e=>?_) hc2;rw[Bh _ _ _ _ hb];exact hk1 b o hb e
  .show((R6 st).map (·.2)).size<=_;rw[har,aT,hol,cB];lia
 by_cases h2:zl vs<2
 .have hn2:vs.toArray.size<2:=by rw[aT];exact h2
  rw[aQ hn2,aQ hn2];have eo:lY vs lt=vs:=by
   unfold lY rG;rw[aQ h2];apply ng
   .simp
   .intro i a1 a2;simp[bS,aB a2]
  refine ah<|au ?_;refine ah<|au ?_;refine fin (SortSt.mk' _ _ _ _ _) ?_ rfl (by rw[eo]);rw[eo];show((vs.toArray.zip vs.toArray).map (·.2))=vs.toArray;apply Array.toList_inj.mp;simp[List.map_snd_zip]
 .have hn2:¬vs.toArray.size<2:=by rw[aT];exact h2
  have h2':2<=zl vs:=by lia
  rw[aE hn2,aE hn2];have hP:mh (zl vs) (vP lt<|qR<|zl vs):=Fe _ _ (yQ<|by lia);have eo:lY vs lt=(vP lt<|qR<|zl vs).toList.map λi=>vs.getD i fH:=by
   unfold lY rG;rw[aE h2]
  have hol:zl (lY vs lt)=zl vs:=by
   rw[eo,ai,bF,hP.2.size_eq];simp
  let#[κ,hκ]:=hC H3 hk1 h2';let#[q1,q2]:=hκ { s with heap:=H3 } rfl;refine ah<|q1 _ _ ?_;refine ah (d9 (kat_run (s:={ s with heap:=H3 }) (Q:=λst' s'=>s'={ s with heap:=H3 }/\(R6 st').map (·.2)=(lY vs lt).toArray/\Nq st'=B)
   (G:=λp s'=>p=vP lt (qR<|zl vs)/\s'={ s with heap:=H3 }) rfl h2' h64
   (λp st' s' _ har hf hg=>#[hg.2,by rw[kat_snds rfl har,hg.1,eo],hf])
   (SY (aaf:=mh<|zl vs) (lt:=lt) (n:=zl vs) q2 _ _ (yQ<|by lia) λ_=>#[rfl,rfl])) ?_ λ_ _ e=>e)
  rintro⟨⟨⟩,st'⟩ s' ⟨rfl,b1,b2⟩;exact fin st' b1 b2 hol
def S7{lt:Nat->Nat->Bool}{Q:Z->aj->Prop}(hC:∀h',(∀b o,s.heap.get? b=M o->h'.get? b=M o)->2<=zl vs->S1 prog w A.in1.in1 vs lt h')(h64:zl vs<64)(hc:∀R:L Z->aj->Prop,(∀h1 tk,(∀b o,s.heap.get? b=M o->h1.get? b=M o)->s.heap.objs.size<=h1.objs.size->R vs { s with heap:=h1,toks:=tk })->aG (aJ prog w) A.in1 (vI<|.ref l) R (λ_ _=>bu) s)(h:∀h' a c tk,(∀b o,s.heap.get? b=M o->h'.get? b=M o)->s.heap.objs.size<=a->h'.get? a=M (iE "list" (lY vs lt).toArray c)->Q (.ref a) { s with heap:=h',toks:=tk }):aG (aJ prog w) A (call (.builtin "sorted") [.ref l]) Q E s:=by
 refine n6 Ec CK CL (CM _) ?_;refine ah<|au ?_;refine ah<|d9 (hc _ λg1 tk k1 hz=>?_) (λ_ _ x=>x) λ_ _ x=>x.elim
 .dsimp only;refine ah (uY ?_ (by rw[cB];lia));have hoL:(g1.push<|iE "list" vs.toArray 0).get? g1.objs.size=M (iE "list" vs.toArray 0):=aU _ rfl;have keep:∀b o,s.heap.get? b=M o->(g1.push<|iE "list" vs.toArray 0).get? b=M o:=λb o e=>aq _<|k1 b o e;refine ah<|cW<|gi zy #[_,hoL,rfl] xP ?body<|zz _
  case body=>
   refine vR hoL (λh' k'=>hC h' λb o e=>k' b o (aZ<|bQ (aF e) hz)<|keep b o e) h64 λh' c k' e'=>?_;refine#[_,rfl,au #[_,rfl,h h' _ c tk (λb o e=>k' b o ?_<|keep b o e) hz e']];have:=aF e;exact aZ<|bQ this hz
def qL.keep'(x:qL h v ks)(k:∀b o,h.get? b=M o->h'.get? b=M o):qL h' v ks:=by
 let#[t,o,us,n,rfl,h1,h2]:=x;exact#[t,o,us,n,rfl,k t o h1,h2]
end
def uH(h:Heap)(d:Addr)(es:Array CH)(ep:Nat):Prop:=∃ob,h.get? d=M ob/\ob.ExactDict/\ob.data=.dict es ep
def uH.keep(x:uH h d es ep)(k:∀ob,h.get? d=M ob->h'.get? d=M ob):uH h' d es ep:=let⟨ob,e,r⟩:=x;#[ob,k ob e,r]
def uH.ty{s:aj}(x:uH s.heap d es ep):s.TypeIs (.ref d) "dict":=let⟨ob,e,r,_⟩:=x;#[ob,e,r.1]
section
variable{prog:br}{w:bE}{A:b7}{E:Z->aj->Prop}{s:aj}{d it:Addr}{es:Array CH}{ep i:Nat}
def Wz{Q:Z->aj->Prop}(hS:(d==iS)=J)(x:uH s.heap d es ep)(q:Q (.ref s.heap.objs.size) { s with heap:=s.heap.push { cls:=.type "dict_keyiterator",data:=.fields (List.toArray [.ref d,.int 0 0,.int es.size 0,.int ep 0]) } }):aG (aJ prog w) A (qi<|.ref d) Q E s:=by
 have ty:=x.ty;let#[ob,e,ex,ed]:=x;refine vf ty F.slot_dict_iter<|gi F.slot_dict_iter ty F.entry_dict_iter ?go<|F.args_dict_iter_1 _
 case go=>
  unfold mK.«dict.__iter__» Lc Qg;refine ah<|ah<|zo ty<|au ?_;refine ah<|au ?_;rw[hS];simp only[cJ,kQ];refine ah<|au<|ah<|vg e ed<|ah<|xQ e ed ?_;refine ah<|dZ<|au #[.ref s.heap.objs.size,rfl,"dict_keyiterator",_,#[_,aU _ rfl,rfl],F.slot_dict_keyiterator_next.lookup,?_];simpa only[bT]using q
def WA{Q:aah Z->aj->Prop}(st:s.heap.IsKeyIter it d i es.size ep)(x:uH s.heap d es ep)(hi:i<es.size)(q:∀h',h'.IsKeyIter it d (i+1) es.size ep->gp it s.heap h'->Q (M es[i].key) { s with heap:=h' }):aG (aJ prog w) A (uz<|.ref it) Q E s:=by
 have ty:=st.typeIs;let#[oi,ei,ci,di]:=id st;let#[ob,e,ex,ed]:=x;have next:(s.heap.update it (gy (·.setIfInBounds 1 (bT<|(i:Int)+1)))).IsKeyIter it d (i+1) es.size ep:=by
  refine#[_,dN _ ei<|ja<|fm di _,?_,?_]
  .rw[mz];exact ci
  .rw[fm di];simp[bT]
 refine ah<|nC<|lD ty F.slot_dict_keyiterator_next<|gi F.slot_dict_keyiterator_next ty F.entry_dict_keyiterator_next ?go<|F.args_dict_keyiterator_next_1 _
 case go=>
  refine ah<|au<|ah<|ah ?_;refine ah<|jB ty<|au<|ah<|tM ei di ?_;have own:tN "dict_keyiterator"=J:=by decide
  rw[own];rw[aE<|by lia];refine ah<|au<|ah<|vg e ed ?_;rw[aE<|by simp];refine ah<|au<|ah<|xQ e ed ?_;rw[aE<|by simp];refine au ?_;have nn:¬((i:Int)<0):=by lia
  simp only[nn,kQ,fY,dU hi];refine ah ?_;refine ah<|jB ty<|au<|ah<|zA ty ?_;show aG (aJ prog w) A.in1 (Nr (.ref it) 1 (bT<|(i:Int)+1) >>= _) _ _ s;refine ah (gC ei di (by simp)<|ah<|cW ?_);refine ah<|zA next.typeIs ?_;exact au<|au #[_,rfl,au<|q _ next<|sL ..]
def aa4{Q:aah Z->aj->Prop}(hh:A.handled=B)(st:s.heap.IsKeyIter it d es.size es.size ep)(x:uH s.heap d es ep)(q:∀h',Heap.ExtBut it s.heap h'->Q B { s with heap:=h' }):aG (aJ prog w) A (uz<|.ref it) Q E s:=by
 have ty:=st.typeIs;let#[oi,ei,ci,di]:=id st;let#[ob,e,ex,ed]:=x;refine ah<|nC<|lD ty F.slot_dict_keyiterator_next<|gi F.slot_dict_keyiterator_next ty F.entry_dict_keyiterator_next ?go<|F.args_dict_keyiterator_next_1 _
 case go=>
  refine ah<|au<|ah<|ah ?_;refine ah<|jB ty<|au<|ah<|tM ei di ?_;have own:tN "dict_keyiterator"=J:=by decide
  rw[own];rw[aE<|by simp];refine ah<|au<|ah<|vg e ed ?_;rw[aE<|by simp];refine ah<|au<|ah<|xQ e ed ?_;rw[aE<|by simp];refine au ?_;have nn:¬((es.size:Int)<0):=by lia
  simp only[nn,kQ,fY,yw<|aM es.size];refine ah ?_;refine ah<|jB ty<|au ?_;show aG (aJ prog w) A.in1 (Nr (.ref it) 0 .none >>= _) _ _ s;refine ah (gC ei di (by simp)<|ah ?_);refine ah (dZ (ah (yF (by rfl) (dZ ?_<|by size_fits)))<|by size_fits);refine ah<|KC ?_;rw[show A.in1.handled=B from hh];refine ah<|au<|Oz ?_;refine ah<|qS #[_,aU _ rfl,rfl] Ij<|au ?_;exact q _<|((sL ..).extBut.push _).push _
def S8(hh:A.handled=B)(it d:Addr)(hne:d≠it)(es:Array CH)(ep:Nat):Ld prog w A it [it,d] [it] es.size (λi v=>∃u,es[i]?=M u/\v=u.key) (λi h=>h.IsKeyIter it d i es.size ep/\uH h d es ep) where
 sub:=by simp
 frame:=λi h h' ⟨st,x⟩ k=>#[let⟨o,e,r⟩:=st;#[o,k it (by simp) o e,r],x.keep λo e=>k d (by simp) o e]
 item:=λi s Q E hi ⟨st,x⟩ q=>WA st x hi λh' st' sb=>q _ h' s.toks #[_,dU hi,rfl] #[st',x.keep λo e=>by rw[sb.2 d hne];exact e] λb o hb e=>by
  rw[sb.2 b<|by simpa using hb];exact e
 done:=λs Q E ⟨st,x⟩ q=>aa4 hh st x λh' eb=>q h' s.toks λb o hb e=>eb b o (by simpa using hb) e
 self:=λi s Q E ⟨st,_⟩ q=>wpAny_pyIter_keyiter st q
def aa5{prog:br}(hS:(d==iS)=J):KdlSrc prog w "dict" d d es.size (λi v=>∃u,es[i]?=M u/\v=u.key) (λh=>uH h d es ep) where
 type:=λ_ x=>x.ty
 there:=λ_ qq=>by let#[_,e,_]:=qq;exact#[aF e,aF e]
 keep:=λ_ _ x k=>x.keep λo e=>k d (.inl rfl) o e
 notList:=by decide
 notTuple:=by decide
 hint:=λ_ _ _ _ x q=>kdl_hint_dict x.ty q
 iter:=λA s hh x=>#[_,_,λ_ _ q=>Wz hS x q,S8 hh _ d (let⟨_,e,_⟩:=x;aZ (aF e)) es ep,#[_,aU _ rfl,rfl,rfl],x.keep λo e=>aq _ e]
end
section
def jF(H:Hp):L (L Key)->L Addr->Prop:=Paired λk t=>H t=M (.b<|k.map kV)
def aa6{P:br}{w:bE}{H:Hp}{h:Heap}{t:Addr}{k:L Key}(ok:gZ P w H h)(e:H t=M (.b<|k.map kV)):qL h (.ref t) k:=by
 let#[_,its,r,o,h1,h2,n,h3]:=(ok t _ e);exact#[t,o,its,n,rfl,h1,h2,h3,r]
theorem LK(ok:gZ P w H h){kss:L<|L Key}{ts:L Addr}(p:jF H kss ts):Paired (qL h) (ts.map bH) kss:=by
 unfold jF at p;induction p with
 |nil=>exact .nil
 |cons e _ ih=>exact .cons (aa6 ok e) ih
theorem oA(ts:L Addr):∀idx:L Nat,(∀i∈idx,i<zl ts)->bO (idx.map λi=>V.a<|ts.getD i 0) (idx.map λi=>(ts.map bH).getD i fH)
|[],_=>.nil
|i::r,h=>by
 refine .cons ?_<|oA ts r λj hj=>h j<|az _ hj;have hi:=h i aD;have e1:(ts.map bH).getD i fH=.ref (ts.getD i 0):=by
  rw[bS,bS,bz,aB hi];rfl
 show RelV (.a<|ts.getD i 0)<|(ts.map bH).getD i fH;rw[e1];exact rfl
def yR(n:Nat)(lt:Nat->Nat->Bool):∀i∈rG n lt,i<n:=by
 unfold rG;split
 .intro i hi;exact fO.mp hi
 .rename_i h;have hP:mh n (vP lt<|qR n):=Fe _ _ (yQ<|by omega);intro i hi;have:i∈(bg n).toArray:=hP.2.mem_iff.mp (by simpa using hi);simpa using this
def vD(n:Nat)(lt:Nat->Nat->Bool):zl (rG n lt)=n:=by
 unfold rG;split
 .simp
 .rename_i h;have hP:mh n (vP lt<|qR n):=Fe _ _ (yQ<|by omega);rw[bF,hP.2.size_eq];simp
def iQ(kss:L<|L Key):L Nat:=rG (zl kss)<|LJ kss
def sortable(kss:L<|L Key):Bool:=decide (zl kss<64)&&kss.all λk=>!k.isEmpty&&kss.all λq=>kq k q
def x_(h:sortable kss=W):zl kss<64/\(∀k∈kss,k≠[])/\∀k∈kss,∀q∈kss,kq k q=W:=by
 unfold sortable at h;rw[cK]at h;have h2:=bN.mp h.2;refine#[ay h.1,λk hk=>?_,λk hk q hq=>?_]
 .grind
 .have:=h2 k hk;rw[cK]at this;exact bN.mp this.2 q hq
variable{X:Cx}
def Qz(I:Inv X pins U H s)(ht:jF H kss ts)(hk:sortable kss=W)(hc:∀R:L Z->aj->Prop,(∀h1 tk,(∀b o,s.heap.get? b=M o->h1.get? b=M o)->s.heap.objs.size<=h1.objs.size->R (ts.map bH) { s with heap:=h1,toks:=tk })->aG (aJ X.prog X.w) X.A.in1 (vI<|.ref l) R (λ_ _=>bu) s)(q:∀p,H p=B->Q (.a p) (upd H p<|.a<|(iQ kss).map λi=>.a<|ts.getD i 0)):aG (aJ X.prog X.w) X.A (call (.builtin "sorted") [.ref l]) (EP X pins U Q) X.xe s:=by
 let#[k1,k2,k3]:=x_ hk;have hl:=(Paired.length ht).symm;refine S7 (λh' k h2=>Em (Paired.imp' (λv ks x=>qL.keep' x k)<|LK I.hok ht) k2 k3 h2) (by grind) hc λh' a c tk keep hle e=>?_;have eo:lY (ts.map bH) (LJ kss)=(iQ kss).map λi=>(ts.map bH).getD i fH:=by
  unfold lY iQ;rw[ai,hl]
 have lt:∀i∈iQ kss,i<zl ts:=λi hi=>by rw[hl];exact yR _ _ i hi
 refine#[.a a,_,I.laid (o:=.a<|(iQ kss).map λi=>.a<|ts.getD i 0) keep hle #[?_,_,c,oA ts _ lt,?_],rfl,q _<|I.hok.fresh hle]
 .rw[ai];unfold iQ;rw[vD,cB];lia
 .rw[<-eo];exact e
theorem aa7{kvs:L<|L Key×V}{xs:L<|L Key×Addr×Z}(p:Paired (λ(p:L Key×V) (q:L Key×Addr×Z)=>p.1=q.1/\H q.2.1=M (.b<|p.1.map kV)/\RelV p.2 q.2.2) kvs xs):jF H (kvs.map (·.1)) (xs.map λx=>x.2.1):=by
 induction p with
 |nil=>exact .nil
 |cons e _ ih=>exact .cons e.2.1 ih
def NZ{E:Z->aj->Prop}{R:L Z->aj->Prop}(hS:(d==iS)=J)(hh:A.handled=B)(x:uH s.heap d es ep)(hn:es.size<=ao)(q:∀h' tk acc,(∀b o,s.heap.get? b=M o->h'.get? b=M o)->s.heap.objs.size<=h'.objs.size->pL (λi v=>∃u,es[i]?=M u/\v=u.key) acc es.size->R acc.toList { s with heap:=h',toks:=tk }):aG (aJ prog w) A (vI<|.ref d) R E s:=by
 have hd:=let⟨_,e,_⟩:=x;aF e
 have new:(s.heap.push { cls:=.type "list",data:=.seq #[] }).get? s.heap.objs.size=M { cls:=.type "list",data:=.seq #[] }:=aU _ rfl;refine ah<|tO<|fu r9 ?_;rw[dF mU _];refine(ah<|dZ<|au #[iw iF _,fu wQ ?_]);rw[dF iF _];have run:=kdl_extend (prog:=prog) (w:=w) (s:={ s with heap:=s.heap.push { cls:=.type "list",data:=.seq #[] } })
  (R:=λz s'=>∃h' tk acc c,z=.ok (.ret<|.ref s.heap.objs.size)/\s'={ s with heap:=h',toks:=tk }/\(∀b o,s.heap.get? b=M o->h'.get? b=M o)/\h'.get? s.heap.objs.size=M { cls:=.type "list",dict:=B,data:=.seq acc c,slots:=#[] }/\pL (λi v=>∃u,es[i]?=M u/\v=u.key) acc es.size)
  (aa5 hS) hh (x.keep λo e=>aq _ e) s.heap.objs.size (gq hd) (gq hd) (.ref s.heap.objs.size) 0 new
  (λh' tk acc c k e it=>#[h',tk,acc,c,rfl,rfl,λb o eb=>k b o (aZ<|aF eb)<|aq _ eb,e,it]) hn
 have fin:∀(h':Heap) (tk:Nat) (acc:Array Z) (c:Nat),(∀b o,s.heap.get? b=M o->h'.get? b=M o)->h'.get? s.heap.objs.size=M { cls:=.type "list",dict:=B,data:=.seq acc c,slots:=#[] }->pL (λi v=>∃u,es[i]?=M u/\v=u.key) acc es.size->R acc.toList { s with heap:=h',toks:=tk }:=λh' tk acc c k e it=>q h' tk acc k (dG<|aF e) it;refine d9 run (λfl s' z=>?_) λ_ _ z=>?_
 .cases fl with
  |done f=>
   let#[h',tk,acc,c,ef,rfl,k,e,it]:=z;cases ef;exact ah<|pJ e<|au<|fin h' tk acc c k e it
  |again g=>
   refine#[z.1,iR z.2 λr s2 y=>?_];let#[h',tk,acc,c,rfl,rfl,k,e,it]:=y;exact ah<|pJ e<|au<|fin h' tk acc c k e it
 .obtain⟨_,_,_,_,ez,_⟩:=z;cases ez
def LL(hc:X.calm=W):o7 X (.builtin "sorted") (λvs H Q=>∃a kvs,vs=[.a a]/\Rd H a (.d kvs)/\sortable (kvs.map (·.1))=W /\
  ∀(ts:L Addr),jF H (kvs.map (·.1)) ts->∀p,H p=B->Q (.a p) (upd H p (.a ((iQ (kvs.map (·.1))).map λi=>.a<|ts.getD i 0)))):=by
 intro pins s U H vs us Q I r h;let#[a,kvs,rfl,hd,hk,q]:=h;let#[u,rfl,ru]:=vals1 r;cases ru;let#[hz,hS,xs,rx,o,es,ep,h1,h2,h3,h4,h5]:=(Qw I.hok hd);have hts:=aa7 rx;have hlen:=(Paired.length rx).symm;have hsz:es.size=zl xs:=by rw[<-bF,h4,ai]
 refine Qz I hts hk (λR hR=>?_)<|q _ hts;refine NZ hS (I.ok.hd hc) (#[o,h1,h2,h3]:uH s.heap a es ep) (by lia) λh' tk acc keep hle it=>?_;have ea:acc.toList=(xs.map λx=>x.2.1).map bH:=by
  apply ng
  .rw[bF,it.1,hsz,ai,ai]
  .intro i a1 a2;have hi:i<acc.size:=by rw[<-bF];exact a1
   let#[u,e1,e2]:=it.2 i acc[i]<|dU hi;have e3:es[i]?=(xs.map<|RV<|rC<|fM X.prog X.w)[i]?:=by rw[<-h4,eK]
   have hx:i<zl xs:=by rw[<-hsz,<-it.1];exact hi
   rw[e3,bz,aB hx]at e1;cases e1;rw[Array.getElem_toList,e2,cR,cR];rfl
 rw[ea];exact hR h' tk keep hle
end
end L2
end
section
namespace L2
open PySem PySem.W PySem.Calls PyProof.Rows PySem.SeqAt
section
variable{prog:br}{w:bE}{A:b7}{E:Z->aj->Prop}{s:aj}{l:Addr}{bs:L Bool}{its:L Z}{k:Bool}{Q:Z->aj->Prop}
noncomputable def ZL(k:Int):Z->Bool
|.int b _=>b==k
|_=>J
theorem Hh:∀{ns:L Int}{its:L Z},bO (ns.map V.b) its->zl its=zl ns/\∀i,i<zl ns->∃t,its[i]?=M (.int (ns.getD i 0) t)
|[],_,.nil=>#[rfl,λi h=>aC h<|gU i]
|b::bs,_,.cons r q=>by
 let#[h1,h2]:=Hh q;let#[t,rfl]:=r;refine#[by simp[h1],λi hi=>?_];cases i with
 |zero=>exact#[t,rfl]
 |succ i=>simpa using h2 i<|by simpa using hi
def QB{ns:L Int}{k:Int}{tk:Tok}(hl:s.heap.IsList l its.toArray)(r:bO (ns.map V.b) its)(hz:zl ns<=ao)(hk:k∈ns)(h:Q (.int (ns.idxOf k:Nat) s.toks) { s with toks:=s.toks+1 }):aG (aJ prog w) A (call (.builtin "list.index") [.ref l,.int k tk]) Q E s:=by
 let#[h1,h2]:=Hh r;let#[#[cls,dd,data,sl],ho,hc,n,hd]:=id hl;simp only at hc hd;subst hc hd;have hj:ns.idxOf k<zl ns:=oW.mpr hk;have hs:=cB;have hat:∀i (hi:i<its.toArray.size),ZL k its.toArray[i]=(ns.getD i 0==k):=λi hi=>by
  have hi':i<zl ns:=by rw[aT,h1]at hi;exact hi
  let#[t,e]:=h2 i hi';rw[aB<|by omega]at e;have e:=cA e;simp only[AA];rw[e];rfl
 refine lR NL #[_,ho,rfl] Nt (Le _ _)
  (list_indexAt l _ n dd sl (.int k tk) (ZL k) (ns.idxOf k) (by rw[aT,h1];exact hj) (by lia) ?_ ?_) #[ho,λy hy=>?_,h]
 .rw[hat];have:=CN hj;rw[bS,aB hj];simp[this]
 .intro m hm hlt;have:=yG (p:=(·==k)) (xs:=ns) (i:=m) hlt;rw[hat];have hm':m<zl ns:=gx hlt hj;rw[bS,aB hm'];simpa using this
 .have hy:y∈its:=by simpa using hy
  let#[i,hi,e]:=iO hy;let#[t,e2]:=h2 i (by lia);rw[aB hi,e]at e2;have e2:=cA e2;subst e2;exact EqAt.int_int _ t k tk
end
end L2
end
section
namespace L2
open PySem PySem.Spec PyProof.Rows
section
variable{X:Cx}
def S9:SN X "list.remove" (λx vs H Q=>∃(l:Addr) (ns:L Int) (k:Int),x=.a l/\vs=[.b k]/\H l=M (.a<|ns.map V.b)/\k∈ns/\Q .d (upd H l<|.a<|(ns.map V.b).eraseIdx<|ns.idxOf k)):=by
 intro pins s U H x vs v us Q I rx rv h;let#[l,ns,k,rfl,rfl,hH,hk,q]:=h;cases rx;let#[u,rfl,ru]:=rv.one;let#[tk,rfl]:=ru;let#[z,its,n,r,hl,e]:=I.LD hH;let#[h1,h2]:=Hh r;rw[ai]at z;have hj:=oW.mpr hk;have hs:=cB;have hat:∀i (hi:i<its.toArray.size),ZL k its.toArray[i]=(ns.getD i 0==k):=λi hi=>by
  have hi':i<zl ns:=by rw[aT,h1]at hi;exact hi
  let#[t,e]:=h2 i hi';rw[aB<|by omega]at e;have e:=cA e;simp only[AA];rw[e];rfl
 refine lR Nu #[_,e,rfl] Lf (KD _ _)
  (R7 l its.toArray n (.int k tk) (ZL k) (λy hy=>?_) (ns.idxOf k) (by rw[aT,h1];exact hj) ?_ ?_ (by rw[aT];omega)) #[e,?_]
 .have hy:y∈its:=by simpa using hy
  let#[i,hi,e]:=iO hy;let#[t,e2]:=h2 i (by omega);rw[aB hi,e]at e2;have e2:=cA e2;subst e2;exact R8 _ k t tk
 .rw[hat];have:=CN hj;rw[bS,aB hj];simp[this]
 .intro m hm hlt;have:=yG hlt;rw[hat];have hm':=gx hlt hj;rw[bS,aB hm'];simpa using this
 .refine#[.d,_,I.Qv hH e ?_ (r.eraseIdx<|ns.idxOf k) ?_,rfl,q]
  .rw[List.eraseIdxIfInBounds_toArray]
  .have:=II (ns.map V.b)<|ns.idxOf k;rw[ai]at this;exact fB this (by rw[ai]at hl;omega)
def J4:SN X "dict.setdefault" (λx vs H Q=>∃(a:Addr) (kvs:L<|Key×V) (k:Key) (y:V),x=.a a/\vs=[kV k,y]/\H a=M (.c kvs)/\kvs.length<ao/\(∀v,gc kvs k=M v->Q v H)/\(gc kvs k=B->Q y (upd H a<|.c<|putK kvs k y))):=by
 intro pins s U H x vs v us Q I rx rv h;let#[a,kvs,k,y,rfl,rfl,e,l,q1,q2]:=h;cases rx;let#[u,w,rfl,ru,rw']:=vals2 rv;let#[z,hd,vs,rel,dd]:=ZK I.hok e;have hz:vs.length<=ao:=by rw[<-rel.length];exact z
 have hl:(putK kvs k y).length<=ao:=by have:=xY kvs k y;lia
 refine wN Ik dd.typeIs G8 (GZ _ _ _) (kt_meets_setdefault (fM X.prog X.w) a (vm ru) hd w) #[vs,dd,hz,λv hv=>?_,λhn h' dd' hs=>?_]
 .have hr:=rel.val k;rw[hv]at hr;cases hx:gc kvs k with
  |none=>rw[hx]at hr;exact hr.elim
  |some v'=>rw[hx]at hr;exact#[v',H,I.tok _,hr,q1 v' hx]
 .have he:∃q,h'.get? a=M q:=let⟨q,_,_,hq,_⟩:=dd';#[q,hq]
  refine#[y,_,Hg I (by rw[e];exact iT) hs he<|SS hl hd (rel.put k rw') dd',rw',q2 ?_];have:=rel.val k;rw[hn]at this;cases hv:gc kvs k with
  |none=>rfl
  |some x=>rw[hv]at this;exact this.elim
end
def QC(m:Bool)(P:Addr->Prop)(h:Heap)(e:Addr)(fl:Z->Prop)(v:Z):Prop:=
 (m=J/\v=.none)\/∃T oT ts f,v=.ref T/\T≠e/\h.get? T=M oT/\oT.data=.fields ts/\ts[3]?=M f/\fl f/\P T
def OR(vs:Array Z):Prop:=vs.size=6/\vs[2]?=M .none
def OR.set{vs:Array Z}{x:Z}(h:OR vs):OR (vs.setIfInBounds 1 x):=#[by rw[wR];exact h.1,by rw[Array.getElem?_setIfInBounds_ne<|by decide];exact h.2]
structure ExcAt (m:Bool) (P:Addr->Prop) (h:Heap) (e C:Addr) (od:aah Addr) (fl:Z->Prop):Prop where
 at_:∃oe vs v,h.get? e=M oe/\oe.cls=.ref C/\oe.dict=od/\oe.data=.fields vs/\OR vs/\vs[1]?=M v/\QC m P h e fl v
 ok:P e
abbrev LM(m:Bool)(X:Cx)(pins:L<|Addr×Obj)(H:Hp)(s:aj)(e C:Addr)(od:aah Addr)(fl:Z->Prop):Prop:=ExcAt m (ou X pins H) s.heap e C od fl
section
variable{X:Cx}{pins:L (Addr×Obj)}{U:St}{H:Hp}{s:aj}{e C:Addr}{od:aah Addr}
def Inv.fld{t:Addr}{h':Heap}(I:Inv X pins U H s)(f:ou X pins H t)(k:∀b o,b≠t->s.heap.get? b=M o->h'.get? b=M o):Inv X pins U H { s with heap:=h' }:=
 I.turned k f.1 f.2.1 f.2.2.2.1 f.2.2.2.2.1 f.2.2.2.2.2
def zU{h:Heap}{a:Addr}{o:Obj}{vs:Array Z}(i:Nat)(x:Z)(ho:h.get? a=M o)(hd:o.data=.fields vs):∃o',(h.update a (gy (·.setIfInBounds i x))).get? a=M o'/\o'.cls=o.cls/\o'.dict=o.dict/\o'.data=.fields (vs.setIfInBounds i x):=by
 have hd':=fm hd (·.setIfInBounds i x);refine#[_,dN _ ho<|ja hd',mz ..,?_,hd'];let#[c,d,dat,sl]:=o;subst hd;rfl
def xy{m:Bool}{fl:Z->Prop}{fr:aah Addr}{Q:Unit->aj->Prop}{E:Z->aj->Prop}(I:Inv X pins U H s)(F:LM m X pins H s e C od fl)(h:∀s',Inv X pins U H s'->LM m X pins H s' e C od (λv=>v=fr.elim .none λf=>bT f)->Q () s'):aG (aJ X.prog X.w) X.A (setFlight (.ref e) fr) Q E s:=by
 let#[#[oe,vs,v,he,hc,hdi,hd,hz,h1,ht],fe]:=F;refine ah<|yH he hd h1 ?_;rcases ht with⟨hm,rfl⟩|⟨T,oT,ts,f,rfl,hTe,hT,hdT,h3,_,fT⟩
 .exact au (h s I #[#[oe,vs,_,he,hc,hdi,hd,hz,h1,.inl #[hm,rfl]],fe])
 .rw[aQ<|by simp];have hlt:=(nD.mp h3).1;refine gC hT hdT hlt ?_;have other:∀b,b≠T->(s.heap.update T (gy (·.setIfInBounds 3 (fr.elim .none λf=>bT f)))).get? b=s.heap.get? b:=λb hb=>bM _ _<|dc hb;let#[o',e1,_,_,e2]:=zU 3 (fr.elim .none λf=>bT f) hT hdT;refine h _ (I.fld fT λb o hb q=>(other b hb).trans q) #[#[oe,vs,_,(other e<|dc hTe).trans he,hc,hdi,hd,hz,h1,.inr #[T,o',_,_,rfl,hTe,e1,e2,?_,rfl,fT]],fe];simp[hlt]
def Inv.slots{h':Heap}(I:Inv X pins U H s)(k:Heap.SlotsOnly (frs X.stack) s.heap h'):Inv X pins U H { s with heap:=h' }:=by
 refine I.call (ch:=[]) #[λb o e n hb _=>(k.2.1 b hb).trans e,λb o e n _ _=>k.2.2 b o e,λ_ _ _ n _=>n,λb o e _=>?_,λ_ _ q=>q,λ_ _ _ q=>q,λb ps q=>#[#[],by rw[q];simp]] (λa o q=>?_) I.bare λ_ z=>nomatch z
 .obtain⟨sl,q⟩:=k.2.2 b o e;exact#[_,q]
 .have hk:∀b u,(b=a\/H b=M (.e a))->s.heap.get? b=M u->h'.get? b=M u:=λb u hb e=>by
   refine(k.2.1 b λz=>?_).trans e;have hn:=I.G9 b z;rcases hb with rfl|hb
   .rw[hn]at q;cases q
   .rw[hn]at hb;cases hb
  exact(I.hok a o q).stay hk (λ_ z=>z) (λ_ _ z=>z) λ_ _ _ z=>z
def Hi{m:Bool}{Q:Unit->aj->Prop}{E:Z->aj->Prop}(hst:X.stack=X.env::X.outer)(hf:X.env.frame=M X.env.locals)(I:Inv X pins U H s)(F:LM m X pins H s e C od λf=>f=.none\/f=bT X.env.locals)(h:∀s',Inv X pins U H s'->LM W X pins H s' e C od (λf=>f=bT X.env.locals)->Q () s'):aG (aJ X.prog X.w) X.A (JX (.ref e) X.env) Q E s:=by
 have new:∀{s:aj}{head:Z}{b:Bool},Inv X pins U H s->(∃oe vs,s.heap.get? e=M oe/\oe.cls=.ref C/\oe.dict=od/\oe.data=.fields vs/\OR vs)->ou X pins H e->
   aG (aJ X.prog X.w) X.A (do Nr (.ref e) 1 (<-Sk head (<-frameOf X.env) .none (bT X.env.locals) .none (<-entryPlaceOf X.env.locals b))) (λ_ s'=>Inv X pins U H s'/\LM W X pins H s' e C od λf=>f=bT X.env.locals) E s:=by
  rintro s head b I ⟨oe,vs,he,hc,hdi,hd,hz⟩ fe;have hfr:X.A.frames=M (X.env::X.outer):=by rw[<-hst];exact I.ok.frames
  have hl:=I.stack;rw[hst]at hl;refine ah<|wpAny_frameOf_fun hfr hl hf λajl ajD=>?_;rw[<-hst]at ajD;have I1:=I.slots ajD;have he1:ajl.get? e=M oe:=by
   refine(ajD.2.1 e λz=>?_).trans he;rcases aY.mp (I.yN e z)with z|z
   .exact fe.2.1 z
   .exact fe.2.2.1 z
  refine ah<|wpAny_entryPlaceOf λpl hpl=>?_;refine ah<|dZ ?_<|hpl.sizeOk5 _ _ _ _ _;generalize hts:([head,bH X.env.locals,fH,bT X.env.locals,fH]++(if pl.isEmpty then bl 6 fH else pl)).toArray=ts;have ht3:ts[3]?=M (bT X.env.locals):=by rw[<-hts];rfl
  have I2:Inv X pins U H { s with heap:=ajl.push { cls:=.type "traceback",dict:=B,data:=.fields ts } }:=I1.kept (t':=s.toks) λb o q=>aq _ q;have he2:=aq (h:=ajl) { cls:=.type "traceback",dict:=B,data:=.fields ts } he1;have hT2:=aU ajl (o:={ cls:=.type "traceback",dict:=B,data:=.fields ts }) rfl;have hTe:=gq<|aF he1;have fT:=I1.vM (aM _)<|I1.hok.fresh<|aM _;refine gC he2 hd (by rw[hz.1];decide) ?_;let#[o',e1,e2,e3,e4]:=zU 1 (.ref ajl.objs.size) he2 hd;have other:∀b,b≠e->((ajl.push { cls:=.type "traceback",dict:=B,data:=.fields ts }).update e (gy (·.setIfInBounds 1 (.ref ajl.objs.size)))).get? b=(ajl.push { cls:=.type "traceback",dict:=B,data:=.fields ts }).get? b:=λb hb=>bM _ _<|dc hb;refine#[I2.fld fe λb o hb q=>(other b hb).trans q,#[#[o',_,_,e1,e2.trans hc,e3.trans hdi,e4,hz.set,?_,.inr #[_,_,ts,_,rfl,hTe,(other _ hTe).trans hT2,rfl,ht3,rfl,fT]],fe]];have:1<vs.size:=by rw[hz.1];decide
  simp[this]
 let#[#[oe,vs,v,he,hc,hdi,hd,hz,h1,ht],fe]:=F;unfold JX;simp only[hf];refine ah<|yH he hd h1 ?_;rcases ht with⟨hm,rfl⟩|⟨T,oT,ts,f,rfl,hTe,hT,hdT,h3,hfl,fT⟩
 .exact bG (new (b:=_) I #[oe,vs,he,hc,hdi,hd,hz] fe) λ_ s' q=>h s' q.1 q.2
 .rw[aQ (show(bH T != fH)=W from by simp)];refine ah<|yH hT hdT h3 ?_;by_cases c:f=bT X.env.locals
  .rw[aQ (show(f==bT X.env.locals)=W from by rw[c];simp)];exact au<|h s I #[#[oe,vs,_,he,hc,hdi,hd,hz,h1,.inr #[T,oT,ts,f,rfl,hTe,hT,hdT,h3,c,fT]],fe]
  .have hlt:3<ts.size:=(nD.mp h3).1;have cn:(f==bT X.env.locals)=J:=by
    rcases hfl with rfl|z
    .rfl
    .exact aC z c
   rw[aE (by rw[cn];exact aN)];refine ah<|gC hT hdT hlt ?_;have other:∀b,b≠T->(s.heap.update T (gy (·.setIfInBounds 3 .none))).get? b=s.heap.get? b:=λb hb=>bM _ _<|dc hb;exact bG (new (b:=_) (I.fld fT λb o hb q=>(other b hb).trans q) #[oe,vs,(other e<|dc hTe).trans he,hc,hdi,hd,hz] fe) λ_ s' q=>h s' q.1 q.2
end
def nT(P:br)(w:bE):Bp:=λouter H s E v s'=>∃e C od H',v=.ref e/\s'.os=s.os/\nJ s'.gens/\Un (frs outer) [] H H' s.heap s'.heap/\gZ P w H' s'.heap /\
 ExcAt W (λb=>H' b=B/\s.heap.objs.size<=b) s'.heap e C od (λf=>f=.none)/\E (.ref C) od H'
def QC.imp{m:Bool}{P P':Addr->Prop}{h:Heap}{e:Addr}{fl fl':Z->Prop}{v:Z}(x:QC m P h e fl v)(hp:∀b,P b->P' b)(hf:∀f,fl f->fl' f):QC m P' h e fl' v:=by
 rcases x with x|⟨T,oT,ts,f,h1,h2,h3,h4,h5,h6,h7⟩
 .exact .inl x
 .exact .inr #[T,oT,ts,f,h1,h2,h3,h4,h5,hf f h6,hp T h7]
def ExcAt.imp{m:Bool}{P P':Addr->Prop}{h:Heap}{e C:Addr}{od:aah Addr}{fl fl':Z->Prop}(x:ExcAt m P h e C od fl)(hp:∀b,P b->P' b)(hf:∀f,fl f->fl' f):ExcAt m P' h e C od fl':=by
 let#[#[oe,vs,v,h1,h2,h3,h4,h5,h6,h7],h8]:=x;exact#[#[oe,vs,v,h1,h2,h3,h4,h5,h6,h7.imp hp hf],hp e h8]
def Bt(X:Cx)(E:XK):Z->aj->Prop:=λv s=>∃m e C od pins U H,v=.ref e/\Inv X pins U H s/\LM m X pins H s e C od (λf=>f=.none\/f=bT X.env.locals)/\E (.ref C) od H
section
variable{X:Cx}{E:XK}
def aa8:Bq (nT X.prog X.w) (X.nK<|Bt X E) E:=by
 rintro pins U H s v s' I ⟨e,C,od,H',rfl,os,bare,un,hok,x,q⟩;have I0:=I.mE;let#[hh,g,d,t,os']:=s';obtain rfl:os'=s.os:=os;have I1:=I0.call (d':=d) (t':=t) un hok bare (λb z=>aC z<|by simp);exact#[W,e,C,od,pins,U,H',rfl,I1,x.imp (λb hb=>I0.vM hb.2 hb.1) λf hf=>.inl hf,q]
def QD(hst:X.stack=X.env::X.outer)(hf:X.env.frame=M X.env.locals):xN (aJ X.prog X.w) X.A X.env (Bt X E):=by
 rintro v s ⟨m,e,C,od,pins,U,H,rfl,I,F,q⟩;refine Hi hst hf I F λs1 I1 F1=>?_;let#[#[oe,vs,v,he,hc,hdi,hd,hz,h1,ht],fe]:=id F1;rcases ht with⟨hm,_⟩|⟨T,oT,ts,f,rfl,hTe,hT,hdT,h3,hfl,fT⟩
 .cases hm
 .refine ah (yH he hd h1 ?_);rw[aE (show ¬(bH T==fH)=W from aN)];refine xy I1 F1 λs2 I2 F2=>#[W,e,C,od,pins,U,H,rfl,I2,F2.imp (λ_ z=>z) λf hz=>.inr ?_,q];rw[hz,hf];rfl
end
def adH{P:br}{w:bE}{K:ak}{mg:Str->aah Z}{base:Heap}{N:L Str}{qual:Str}{scope:iM}{f:Addr}{cd:Z}{A:b7}{outer:L Env}{s:aj}{H:Hp}{E:XK}{v:Z}{s':aj}(h:Bt (mV (nT P w) P w K mg base N qual scope f cd A outer s H E) E v s'):(mV (nT P w) P w K mg base N qual scope f cd A outer s H E).xe v s':=by
 let#[m,e,C,od,pins,U,H1,rfl,I,F,q]:=h;refine ah ?_;refine Hi rfl rfl I F λs1 I1 F1=>?_;refine xy I1 F1 λs2 I2 F2=>#[e,C,od,H1,rfl,I2.os,I2.bare,I2.base,I2.hok,F2.imp (λb hb=>#[hb.1,?_]) λ_ z=>z,q];rcases hb.2.2.2.1 with z|z
 .exact aC (show b∈([]:L Addr)from z) (by simp)
 .exact z
def adI{P:br}{w:bE}{K:ak}{mg:Str->aah Z}{base:Heap}{N:L Str}{qual:Str}{scope:iM}{f:Addr}{cd:Z}{A:b7}{outer:L Env}{s:aj}{H:Hp}{E:XK}{body:L Stmt}{t:TS}(h:vL ((mV (nT P w) P w K mg base N qual scope f cd A outer s H E).nK<|Bt (mV (nT P w) P w K mg base N qual scope f cd A outer s H E) E) body t):vL (mV (nT P w) P w K mg base N qual scope f cd A outer s H E) body t:=
 λpins s1 U H1 D I hw=>d9 (h pins s1 U H1 D (I.nK _) hw) (λ_ _ q=>q.mE) λ_ _ q=>adH q
section
variable{P:br}{w:bE}{A:b7}{E:Z->aj->Prop}{h:Heap}{g:Array ES}{d:RY}{t:Nat}{os:OsState}
variable{nm q:Str}{C N fI:Addr}{bs bm bmB:L Z}{hdct:Bool}{sn:L Str}{sub:L Z}{ab:Bool}{col:aah Bool}{dd:aah Addr}{k0 k1 k2 k3 k5:aah Z}{aaf newId initId:String}{us:L Z}{K:ak}
noncomputable abbrev k9(C a:Addr):Obj:={ cls:=.ref C,data:=.fields (List.toArray [.ref a,.none,.none,.none,.bool J,.none]) }
noncomputable abbrev yS(us:L Z):Obj:={ cls:=.type "tuple",data:=.seq us.toArray }
end
structure LN (K:ak) (C:Addr):Prop where
 ga:dg K (.ref C) "__getattribute__"=M (M (.builtin "BaseException.__getattribute__"))
 gt:dg K (.ref C) "__getattr__"=M B
 sa:dg K (.ref C) "__setattr__"=M (M (.builtin "object.__setattr__"))
 hd:vd K C=W
 sb:iy K C (.type "BaseException")=M W
 ob:iy K C (.type "object")=M W
section
variable{P:br}{w:bE}{A:b7}{E:Z->aj->Prop}{s:aj}{K:ak}{x C:Addr}{ox:Obj}{od:aah Obj}{name:Str}
def S_{v:Z}{P':Z->aj->Prop}{fill expr:Bool}{tk:Tok}(X:K.In s.heap)(I:zB s.heap x ox C od)(c:LN K C)(hv:Zw v=W)(h:aG (aJ P w) A.in1 (mK.«object.__getattribute__» #[[.ref x,.str name tk],[]]) (λfin s'=>fin=.done (.ret v)/\P' v s') (λ_ _=>bu) s):aG (aJ P w) A (getAttrBy (.ref x) (.str name tk) fill expr) P' E s:=by
 let#[hh,g,d,t,os]:=s;have L0:=@PySem.W.InstAt.type _ _ _ _ (aJ P w) _ I;have L1:=@r_ _ (aJ P w) _ X _ _ _ c.ga;have L2:=@r_ _ (aJ P w) _ X _ _ _ c.gt;have hs:PySem.W.Looks (aJ P w) hh (R9 (.ref x)<|.type "BaseException") W:=L0.andThen<|Bj X c.sb;refine cW<|ah<|L0.at<|ah<|L1.at ?_;have hne:(onTheHeap (bH C)&&qG "BaseException.__getattribute__"==qG "object.__getattribute__")=J:=by
  rw[show(qG "BaseException.__getattribute__"==qG "object.__getattribute__")=J from by decide +kernel,pK]
 dsimp only;rw[hne,aE aN];refine ah<|L2.at ?_;refine ah<|nC<|cW ?_;unfold callGetattribute;rw[aE (by cases expr<;>exact aN)];unfold boundAndCalled;rw[xq.ga.bind];refine ah<|au<|nc ?_;show jW (aJ P w) A (.call (.builtin "BaseException.__getattribute__") #[[.ref x,.str name tk],[]]) _ _;have k1:builtinKind "BaseException.__getattribute__"=M .slot:=by decide +kernel
 have k2:Qh "BaseException.__getattribute__"=M ("BaseException","__getattribute__"):=by decide +kernel
 refine AB xq.ga.plain Qi<|@VT (aJ P w) _ _ #[hh,g,d,t,os] "BaseException.__getattribute__" "BaseException" "__getattribute__" (.ref x) [.str name tk] [] _ k1 k2 hs (R_ (.ref x)<|.str name tk) ?_;refine d9 h (λfin s' z=>?_) λ_ _ z=>z.elim;let#[rfl,z]:=z;show aG _ _ (handedOut v) _ _ _;rw[Sa hv];exact au z
def adJ(c:LN K C)(ha:dg K (.ref C) "__class__"=M (M<|.builtin "object.__class__"))(hn:mD K (.builtin "object.__class__") "__get__"=M (M<|.builtin "getset_descriptor.__get__"))(htk:n9 K (.builtin "object.__class__")=M W):Nv K (.ref x) (.ref C) (λh=>zB h x ox C od) where
 ty:=λ_ _ _ I=>I.type
 it:=λaab h X _=>by
  let#[cd,hc,_]:=wU c.hd;unfold uZ at hc;split at hc
  .rename_i ho;intro A' Q' E' s' k q;exact ah<|wpAny_loadPart (k _ _<|X _ _ ho)<|au q
  .cases hc
 ne:=λh tp dd its n sl X htp=>by
  let#[cd,hc,_]:=wU c.hd;refine DC.mpr λz=>?_;cases acQ (jP.mp z);unfold uZ at hc;split at hc
  .rename_i ho;have z:=(X _ _ ho).symm.trans htp;cases z
  .cases hc
 ca:=λ{P w A E Q s} X I k=>by
  have hf:G0 K C od "__class__"=M (.bind (.builtin "getset_descriptor.__get__")<|.builtin "object.__class__"):=by
   let#[cd,hc,_]:=wU c.hd;unfold G0;rw[hc,Option.bind_some,ha];simp[hn,htk]
  unfold Nj;refine ah<|wpAny_mkText ?_;unfold RS;refine ah<|nC ?_;refine S_ (s:={ s with toks:=s.toks+1 }) (v:=.ref C) X I c rfl ?_;let#[hh,g,d,t,os]:=s;have L0:=@PySem.W.InstAt.type _ _ _ _ (aJ P w) _ I;have L1:=@VU _ (aJ P w) _ X _ _ _ _ _ _ I hf;refine ah<|au<|ah<|au<|ah<|L0.at<|ah<|L1.at ?_;show aG _ _ (tL [_] (call _ [_,.ref x,.ref C]) >>= ret) _ _ _;refine ah<|cW<|nc<|Wa (s:=#[hh,g,d,t+1,os]) (ox:=ox) (od:=od) X I c.ob ?_;exact au #[rfl,au k]
noncomputable def LO:L Z->Bool
|.ref _::r=>LO r
|l=>l==[.type "ValueError",.type "Exception",.type "BaseException",.type "object"]
end
def exF(m:Bool)(e C:Addr)(od:aah Addr)(h:Heap):Prop:=∃oe vs,h.get? e=M oe/\oe.cls=.ref C/\oe.dict=od/\oe.data=.fields vs/\(OR vs/\(m=W->vs[1]?=M .none))
def xdF(d:Addr)(fs:L<|Str×V)(h:Heap):Prop:=∃mA,h.Ns1 d mA/\(∀f,sS (fs.lookup f)<|mA f)/\Nl mA (fs.map (·.1))/\zl fs<=1000
noncomputable def vS(m:Bool)(e C:Addr)(od:aah Addr):HO:=.h<|exF m e C od
def Tc(d:Addr)(fs:L<|Str×V):HO:=.h<|xdF d fs
def adL{m:Bool}{P:br}{w:bE}{H:Hp}{h:Heap}{e C:Addr}{od:aah Addr}(x:exF m e C od h):fR P w H h e (vS m e C od):=by
 refine#[x,?_,?_]
 .obtain⟨oe,_,h1,_⟩:=x;exact#[oe,h1]
 .rintro h1 h2 ⟨oe,vs,q1,q⟩ k;exact#[oe,vs,k _ q1,q]
def af3{m:Bool}{P:br}{w:bE}{H:Hp}{h:Heap}{e C:Addr}{od:aah Addr}(ok:gZ P w H h)(q:H e=M (vS m e C od)):exF m e C od h:=(show fR P w H h e (vS m e C od)from ok e _ q).1
def af4{P:br}{w:bE}{H:Hp}{h:Heap}{d:Addr}{fs:L<|Str×V}(ok:gZ P w H h)(q:H d=M (Tc d fs)):xdF d fs h:=(show fR P w H h d (Tc d fs)from ok d _ q).1
structure Td (K:ak) (C:Addr):Prop extends LN K C where
 tl:(uZ K C).any (λcd=>LO cd.mro)=W
section
variable{X:Cx}{C fI:Addr}
def adM{aab:RZ}{A:b7}{E:Z->aj->Prop}{env:Env}{s:aj}{x:Sem Z}{Q:Flow->aj->Prop}{nm q:Str}{N:Addr}{bs bm:L Z}{hdct:Bool}{sn:L Str}{sub:L Z}{ab:Bool}{col:aah Bool}{dd:aah Addr}{k0 k1 k2 k3 k5:aah Z}{newId:String}(hb:bm.contains (.type "BaseException")=W)(hh:A.handled=B)(h:aG aab A x (λv aji=>∃e od vs sl,v=.ref e/\aji.heap.get? C=M (l9 nm q C N bs bm hdct sn sub ab col dd k0 k1 k2 k3 k5 newId)/\aji.heap.get? e=M #[.ref C,od,.fields vs,sl]/\vs[1]?=M .none/\E (.ref e) aji) E s):aG aab A (raiseStmt env (M x) B) Q E s:=by
 have hcB:(bH C::bm).contains (.type "BaseException")=W:=by rw[uD,hb,wV]
 unfold raiseStmt;refine ah<|d9 h (λv aji ajl=>?_) λ_ _ x=>x;let#[e,od,vs,sl,rfl,hC,he,h1,hE]:=ajl;let#[hp,g,d,tk,os]:=aji
 repeat (first
  |with_reducible refine gK he ?_
  |with_reducible refine gK hC ?_
  |(with_reducible refine sM hC ?_;rw[hcB])
  |wp_step)
 rw[h1];exact au<|au<|wpAny_raiseNew_none hh hE
end
section
variable{P:br}{w:bE}{A:b7}{E:Z->aj->Prop}{h:Heap}{g:Array ES}{d:RY}{t:Nat}{os:OsState}
variable{nm q:Str}{C N fI:Addr}{bs bm bmB:L Z}{hdct:Bool}{sn:L Str}{sub:L Z}{ab:Bool}{col:aah Bool}{dd:aah Addr}{k0 k1 k2 k3 k5:aah Z}{aaf newId initId:String}{K:ak}
abbrev Ff(h:Heap)(C:Addr):Heap:=(((h.push<|yS []).push<|k9 C h.objs.size).push<|yS []).update (h.objs.size+1)<|gy λx=>x.setIfInBounds 0<|.ref ((h.push<|yS []).push<|k9 C h.objs.size).objs.size
def LP{Q:Fin->aj->Prop}(F:Nx aaf newId initId bmB)(T:Qj h bmB bm)(hI:initId.startsWith "lifetime."=J)(hC:h.get? C=M (l9 nm q C N bs bm hdct sn sub ab col dd k0 k1 k2 k3 k5 newId))(X:K.In h)(hi:dg K (.ref C) "__init__"=M (M<|.builtin initId))(hq:Q (.done<|.ret<|.ref<|h.objs.size+1) #[Ff h C,g,d,t,os]):aG (aJ P w) A (mK.«type.__call__» #[[.ref C],[]]) Q E #[h,g,d,t,os]:=by
 repeat (first
  |with_reducible refine gK hC ?_
  |with_reducible refine wpAny_madeBy_exc hC ?_
  |wp_step)
 refine codeAny_call_builtin_code (oX _ F.quiet)<|wpAny_check_new_subT F T hC ?_;refine codeAny_exc_new_subT F T hC ?_<|c7 _;have up:∀b o,h.get? b=M o->((h.push<|yS []).push<|k9 C h.objs.size).get? b=M o:=λb o e=>aq _<|aq _ e;have c1:=up _ _ hC;have X1:=X.keeps up;have x1:((h.push<|yS []).push<|k9 C h.objs.size).get? (h.objs.size+1)=M (k9 C h.objs.size):=by heap_get
 have hcc:(bH C::bm).contains (.ref C)=W:=by simp
 repeat (first
  |with_reducible refine gK x1 ?_
  |(with_reducible refine sM c1 ?_;rw[hcc])
  |wp_step)
 refine(r_ X1 hi).at ?_;have T1:=T.keeps up;refine cW<|ah ?_;rw[F.init.bind];refine au ?_;refine ah ?_;refine nc ?_;refine xu (oX _ hI) F.initEntry<|wpAny_check_init_subT F T1 c1 x1 rfl ?_;show aG _ _ (mK.«BaseException.__init__» #[[.ref<|h.objs.size+1],[]]) _ _ _;have x2:(((h.push<|yS []).push<|k9 C h.objs.size).push<|yS []).get? (h.objs.size+1)=M (k9 C h.objs.size):=aq _ x1
 repeat (first
  |with_reducible refine gK x1 ?_
  |with_reducible refine gK x2 ?_
  |wp_step)
 exact hq
def aa9{Q:Z->aj->Prop}(F:Nx aaf newId initId bmB)(T:Qj h bmB bm)(hI:initId.startsWith "lifetime."=J)(hC:h.get? C=M (l9 nm q C N bs bm hdct sn sub ab col dd k0 k1 k2 k3 k5 newId))(X:K.In h)(hi:dg K (.ref C) "__init__"=M (M<|.builtin initId))(hq:Q (.ref<|h.objs.size+1) #[Ff h C,g,d,t,os]):aG (aJ P w) A (call (.ref C) []) Q E #[h,g,d,t,os]:=by
 have z1:=tc_lookup;have z2:=tc_bind<|.ref C;have z3:(⟨h,g,d,t,os⟩:aj).TypeIs (.ref C) "type":=#[_,hC,rfl];refine nc<|se ?_
 repeat (any_goals (first
  |assumption
  |with_reducible refine gK hC ?_
  |wp_step))
 refine#[rfl,?_];exact xu (oX _<|by decide +kernel) entry_typeCall<|wpAny_check_type_call_sub hC<|LP F T hI hC X hi hq
end
structure IP (K:ak) (C:Addr):Prop where
 ini:dg K (.ref C) "__init__"=M (M (.builtin "ValueError.__init__"))
 kp:dW K (.ref C)=W
 cls:∃nm q N bs aaf hdct sn sub ab col dd k0 k1 k2 k3 k5,K.lookup C=M (l9 nm q C N bs (.ref aaf::[.type "ValueError",.type "Exception",.type "BaseException",.type "object"]) hdct sn sub ab col dd k0 k1 k2 k3 k5 "ValueError.__new__") /\
  ∃c0 dB cd sl c1 d1 es ep s1,K.lookup aaf=M #[c0,dB,.cls cd,sl]/\K.lookup cd.ns=M #[c1,d1,.dict es ep,s1]/\(es.all λe=>match e.key with|.str _ _=>W|_=>J)=W/\GQ es "__init__"=B
def IP.at{K:ak}{C:Addr}(c:IP K C){h:Heap}(X:K.In h):∃nm q N bs bm hdct sn sub ab col dd k0 k1 k2 k3 k5,h.get? C=M (l9 nm q C N bs bm hdct sn sub ab col dd k0 k1 k2 k3 k5 "ValueError.__new__") /\
  Qj h [.type "ValueError",.type "Exception",.type "BaseException",.type "object"] bm/\bm.contains (.type "BaseException")=W:=by
 let#[nm,q,N,bs,aaf,hdct,sn,sub,ab,col,dd,k0,k1,k2,k3,k5,l,c0,dB,cd,sl,c1,d1,es,ep,s1,l1,l2,a,n]:=c.cls;refine#[nm,q,N,bs,_,hdct,sn,sub,ab,col,dd,k0,k1,k2,k3,k5,X _ _ l,.own (mA:=λx=>GQ es x) (X _ _ l1) #[_,es,ep,X _ _ l2,rfl,λe he=>?_,λ_=>rfl] n .base,by
  rw[uD,show([Value.type "ValueError",.type "Exception",.type "BaseException",.type "object"].contains<|.type "BaseException")=W from by decide +kernel,wV]]
 have:=Array.all_eq_true_iff_forall_mem.mp a e he;cases k:e.key with
 |str x t=>exact#[x,t,rfl]
 |_=>rw[k]at this;cases this
section
variable{X:Cx}{C:Addr}
def Te{E:XK}{x:Str}{np cpos pos:Pos}(c:IP X.K C)(hh:X.A.handled=B)(hg:Gl X x)(hm:X.mg x=M (.ref C))(hdb:(x==("__debug__":Str))=J:=by decide):PS (X.nK<|Bt X E) (.Raise (M<|.Call (.Name x np) [] [] cpos) B pos) (λ_ _ H=>E (.ref C) B H):=by
 intro pins s U H D I h;let#[nm,q,N,bs,bm,hdct,sn,sub,ab,col,dd,k0,k1,k2,k3,k5,hC,T,hb]:=c.at I.p_;rw[arm_exec_Raise];refine ah<|qH ?_;have up:∀b o,s.heap.get? b=M o->(Ff s.heap C).get? b=M o:=λb o e=>?up
 case up=>
  have hb:=aZ<|pZ<|aF e;rw[bM _ _<|dc hb];exact aq _<|aq _<|aq _ e
 have x1:(((s.heap.push<|yS []).push<|k9 C s.heap.objs.size).push<|yS []).get? (s.heap.objs.size+1)=M (k9 C s.heap.objs.size):=by heap_get
 let#[o',g1,g2,g3,g4]:=zU 0 (.ref ((s.heap.push<|yS []).push<|k9 C s.heap.objs.size).objs.size) x1 rfl;refine adM (C:=C) (nm:=nm) (q:=q) (N:=N) (bs:=bs) (bm:=bm) (hdct:=hdct) (sn:=sn) (sub:=sub) (ab:=ab) (col:=col) (dd:=dd) (k0:=k0) (k1:=k1) (k2:=k2) (k3:=k3) (k5:=k5) (newId:="ValueError.__new__") hb hh ?_;refine ah<|d9 (cC<|qW I hg hm ?_ hdb) (λv ajp ajt=>ah<|qH<|au ajt) λ_ _ x=>x;have hn:=I.hok.fresh<|jN _;have f:=I.mE.vM (jN _) hn;have I1:Inv X pins U H { s with heap:=Ff s.heap C }:=by
  have aae:Inv X pins U H { s with heap:=((s.heap.push<|yS []).push<|k9 C s.heap.objs.size).push (yS []) }:=I.mE.kept (t':=s.toks) λb u q=>aq _<|aq _<|aq _ q;exact aae.fld f λb o hb q=>(bM _ _<|dc hb).trans q
 let#[oc,od,oda,osl]:=o';subst g2 g3 g4;have g5:=up _ _ hC;let#[hh',gg,dd',tt,os]:=s;refine Bg I.p_ c.kp (aa9 KE T (by decide +kernel) hC I.p_ c.ini #[_,B,_,osl,rfl,g5,g1,rfl,?_]);exact#[J,_,C,B,pins,U,H,rfl,I1,#[#[_,_,.none,g1,rfl,rfl,rfl,#[rfl,rfl],rfl,.inl #[rfl,rfl]],f],h]
end
def Fg(K:ak)(aaf:Addr):Prop:=∃nm q N bs bm hdct sn sub ab col dd k0 k1 k2 k3 k5 nid,K.lookup aaf=M (l9 nm q aaf N bs bm hdct sn sub ab col dd k0 k1 k2 k3 k5 nid)/\bm.contains (.type "BaseException")=W
def adN{aab:RZ}{A:b7}{E:Z->aj->Prop}{K:ak}{s:aj}{e C aaf:Addr}{oe:Obj}{Q:Bool->aj->Prop}(X:K.In s.heap)(b:Fg K aaf)(he:s.heap.get? e=M oe)(hc:oe.cls=.ref C)(hs:iy K C (.ref aaf)=M W)(hq:Q W s):aG aab A (excMatches (.ref e)<|.ref aaf) Q E s:=by
 let#[nm,q,N,bs,bm,hdct,sn,sub,ab,col,dd,k0,k1,k2,k3,k5,nid,l,hb]:=b;have hB:=X _ _ l;have hcB:(bH aaf::bm).contains (.type "BaseException")=W:=by rw[uD,hb,wV]
 have f:=tc_notTuple;have aac:=@Bj _ aab _ X _ _ _ hs;let#[h,g,d,t,os]:=s
 repeat (first
  |(with_reducible refine gK he ?_;rw[hc])
  |with_reducible refine gK hB ?_
  |(with_reducible refine sM hB ?_;rw[hcB])
  |(with_reducible refine aac.at ?_)
  |wp_step)
 exact hq
noncomputable abbrev Cx.hand(X:Cx)(v:Z):Cx:={ X with A:=X.A.mark<|M v,calm:=J,xe:=λ_ _=>bu }
def Inv.hand{X:Cx}{pins:L<|Addr×Obj}{U:St}{H:Hp}{s:aj}(I:Inv X pins U H s)(v:Z):Inv (X.hand v) pins U H s:=
 #[#[I.ok.mod,I.ok.kind,I.ok.glob,I.ok.blt,I.ok.above,I.ok.inj,I.ok.has,I.ok.cab,λz=>(nomatch z),I.ok.frames,I.ok.stk,I.ok.exf,I.ok.bs,I.ok.bsz,I.ok.noex,I.ok.exfs,I.ok.rF,I.ok.frf],I.os,I.bare,I.base,I.loc,I.cell,I.free,I.freeC,I.pin,I.hok,I.len]
def Inv.adO{X:Cx}{pins:L<|Addr×Obj}{U:St}{H:Hp}{s:aj}{v:Z}(ok:X.Ok)(I:Inv (X.hand v) pins U H s):Inv X pins U H s:=
 #[ok,I.os,I.bare,I.base,I.loc,I.cell,I.free,I.freeC,I.pin,I.hok,I.len]
section
variable{X:Cx}
def QE(X:Cx)(pins:L<|Addr×Obj)(U:St)(E:XK):Z->aj->Prop:=λv s'=>∃e C od H',v=.ref e/\Inv X pins U H' s'/\LM W X pins H' s' e C od (λf=>f=.none)/\E (.ref C) od H'
def PB(X:Cx)(body:L Stmt)(t:XK->St->Hp->(St->Hp->Prop)->Prop):Prop:=∀(pins:L<|Addr×Obj) (s:aj) (U:St) (H:Hp) (E:XK) (nx:St->Hp->Prop),Inv X pins U H s->t E U H nx->
 aG (aJ X.prog X.w) X.A (execs body X.env) (λf s'=>f=.next/\∃σ' H',Inv X pins σ' H' s'/\nx σ' H') (QE X pins U E) s
def aa_{k:Nat}{f:Addr}{fd:eS}{ps:L Str}{sp:Sp}{dvs:L V}{ds:L Z}{E:XK}{pins:L<|Addr×Obj}{U:St}{H:Hp}{s:aj}{Q:VK}{us:L Z}{vs:L V}(F:jG X.prog X.w X.K X.mg X.base (nT X.prog X.w) k f fd ps sp)(hr:kj k X.A)(hb:Binds X.K fd ps ds)(hd:bO dvs ds)(I:Inv X pins U H s)(r:bO vs us)(h:sp (vs++dvs) H Q E):aG (aJ X.prog X.w) X.A (call (.ref f) us) (EP X pins U Q) (QE X pins U E) s:=by
 have r2:=r.append hd;have hl:(us++ds).length=ps.length:=by rw[<-r2.length];exact F.len _ _ _ _ h
 refine nc<|iR (F.run X.A X.stack s H #[us,[]] (us++ds) (vs++dvs) Q E hr I.Wo (hb s us I.p_ hl) r2 h) λr s' hq=>?_;cases r with
 |error v=>
  let#[e,C,od,H',rfl,os,bare,un,hok,x,q]:=hq;let#[hh,g,d,t,os']:=s';obtain rfl:os'=s.os:=os;have I1:=I.call (h':=hh) (g':=g) (d':=d) (t':=t) (ch:=[]) un hok bare (λb z=>aC z<|by simp);exact#[e,C,od,H',rfl,I1,x.imp (λb hb=>I.vM hb.2 hb.1) λ_ z=>z,q]
 |ok fl=>
  cases fl with
  |ret u=>exact I.after hq
  |next=>cases hq
  |brk=>cases hq
  |cont=>cases hq
end
section
variable{X:Cx}{pins:L (Addr×Obj)}{U σ':St}{H:Hp}{s:aj}
def Inv.frame{m':Str->aah Z}{t':Nat}(I:Inv X pins U H s)(hs:gp X.env.locals s.heap h')(hn:h'.Ns X.env.locals m')(hl:zl σ'=zl U)(hm:∀(j:Nat) (x:Str) (v:V),X.N[j]?=M x->σ'[j]?=M (M v)->Lo X.env.scope x->∃u,RelV v u/\Look X.env h' m' x u):Inv X pins σ' H { s with heap:=h',toks:=t' }:=by
 have neL:∀b o,X.ajg.heap.get? b=M o->b≠X.env.locals:=λb o e=>aZ<|bQ (aF e) I.ok.above;refine#[I.ok,I.os,I.bare,#[λb o e n hb hx=>(hs.2 b<|neL b o e).trans<|I.base.keep b o e n hb hx,λb o e n hb hx=>?_,I.base.free,λb o e hx=>?_,I.base.tups,I.base.aH,I.base.tbls],#[m',hn,hm],λx c e=>?_,I.free,I.freeC,λp hp=>?_,λa o q=>?_,hl.trans I.len]
 .obtain⟨sl,z⟩:=I.base.slot b o e n hb hx;exact#[sl,(hs.2 b<|neL b o e).trans z]
 .obtain⟨o',z⟩:=I.base.there b o e hx;exact#[o',(hs.2 b<|neL b o e).trans z]
 .obtain⟨v,o,ho,hd⟩:=I.cell x c e;exact#[v,o,(hs.2 c<|I.E9 x c e).trans ho,hd]
 .obtain⟨h1,h2,h3,h4⟩:=I.pin p hp;exact#[(hs.2 p.1 h3).trans h1,h2,h3,h4]
 .have hk:∀b u,(b=a\/H b=M (.e a))->s.heap.get? b=M u->h'.get? b=M u:=λb u hb e=>by
   refine(hs.2 b λz=>?_).trans e;rcases hb with z2|z2
   .rw[<-z2,z,I.free]at q;cases q
   .rw[z,I.free]at z2;cases z2
  exact(I.hok a o q).stay hk (λ_ z=>z) (λ_ _ z=>z) λ_ _ _ z=>z
def name_goes{E:Z->aj->Prop}{Q:Unit->aj->Prop}(I:Inv X pins U H s)(nd:X.N.Nodup)(hi:X.N[i]?=M n)(hl:X.env.scope.names.lookup n=M .local)(h:∀s',Inv X pins (U.set i B) H s'->Q () s'):aG aab A (do bindName X.env n .none;AD X.env n pos) Q E s:=by
 refine ah<|wpAny_bindName<|zP (v:=.d) I nd hi (.inl hl) rfl (λs1 I1=>?_)<|.inr hl;have hk:X.env.kindOf n=M .local:=hl;let#[m,hn,hlk]:=id I1.loc;have hlt:i<zl U:=by rw[I.len];exact(bL.mp hi).1
 let#[u,ru,look]:=hlk i n .d hi (by rw[gM];simp[hlt])<|.inl hl;have hv:m n=M u:=by
  rcases look with⟨_,z⟩|⟨z,_⟩
  .exact z
  .rw[hk]at z;rcases z with z|z<;>cases z
 have hp:(X.env.scope.kind==.class||(X.env.scope.kind==.module&&X.env.locals != X.env.globals))=J:=by rw[I.ok.kind];rfl
 refine wpAny_onRaise<|wpAny_unbindName_local hk hn hv hp λh' w n' sb=>h _ ?_;refine I1.frame (t':=s1.toks) sb n' (by simp) λj x v e1 e2 e3=>?_;have hji:j≠i:=λz=>by
  subst z;rw[gM]at e2;simp[hlt]at e2
 have hxn:x≠n:=λz=>hji (Eg nd (by rw[<-z];exact e1) hi);let#[u',r',look']:=hlk j x v e1 (by rw[cX<|dc hji]at e2 ⊢;exact e2) e3;refine#[u',r',?_];rcases look' with⟨z1,z2⟩|⟨z1,c,z2,o,ho,hd⟩
 .exact .inl #[z1,(aE hxn).trans z2]
 .exact .inr #[z1,c,z2,o,(sb.2 c<|I1.E9 x c z2).trans ho,hd]
def Inv.af5(I:Inv X pins U H s)(f:ou X pins H b)(ok:fR X.prog X.w (upd H b o) s.heap b o):Inv X pins U (upd H b o) s:=by
 let#[f0,f1,f2,f3,f4,f5]:=f;have ne:∀c u,H c=M u->c≠b:=λc u q z=>by rw[z,f0]at q;cases q
 refine#[I.ok,I.os,I.bare,#[I.base.keep,I.base.slot,λc u q n x=>?_,I.base.there,λc xs q=>?_,λc u w q=>?_,λc ps q=>?_],I.loc,I.cell,?_,λx c q=>?_,λp hp=>?_,λa u q=>?_,I.len]
 .have hcb:c≠b:=λz=>by
   subst z;rcases f3 with z|z
   .exact x z
   .exact aC (bQ (aF q) z) (dm _)
  rw[bq hcb];exact I.base.free c u q n x
 .have z:=I.base.tups c xs q;rw[bq<|ne c _ z];exact z
 .have z:=I.base.aH c u w q;rw[bq<|ne c _ z];exact z
 .obtain⟨more,z⟩:=I.base.tbls c ps q;exact#[more,by rw[bq<|ne c _ z];exact z]
 .rw[bq<|dc f1];exact I.free
 .rw[bq<|f4 x c q];exact I.freeC x c q
 .obtain⟨h1,h2,h3⟩:=I.pin p hp;exact#[h1,by rw[bq<|f5 p hp];exact h2,h3]
 .by_cases z:a=b
  .subst z;rw[c5]at q;cases q;exact ok
  .rw[bq z]at q;exact(I.hok a u q).stay (λ_ _ _ k=>k) (λc k=>by rw[bq<|ne c _ k];exact k) (λc xs k=>by rw[bq<|ne c _ k];exact k) λc o xs k=>by rw[bq<|ne c _ k];exact k
def LQ(K:ak)(i:Nat)(aaf:Addr)(tb:XK->St->Hp->(St->Hp->Prop)->Prop)(ts:Addr->TS):TS:=λD U H=>
 tb (λc od H1=>∃C,c=.ref C/\iy K C (.ref aaf)=M W/\∀e,H1 e=B->ts e { nx:=fun σ2 H2=>D.nx (σ2.set i B) H2,rt:=D.rt } (U.set i<|M<|.a e) (upd H1 e<|vS J e C od)) U H D.nx
def adP{i:Nat}{aaf:Addr}{body suite:L Stmt}{ajH:Stmt}{x n:Str}{tb:XK->St->Hp->(St->Hp->Prop)->Prop}{ts:Addr->TS}{np hpos pos:Pos}(hst:X.stack=X.env::X.outer)(hf:X.env.frame=M X.env.locals)(hb:PB X body tb)(hs:∀e,(e∈X.ex\/X.ajg.heap.objs.size<=e)->vL (X.hand<|.ref e) (ajH::suite) (ts e))(hg:Gl X x)(hm:X.mg x=M (.ref aaf))(b:Fg X.K aaf)(nd:X.N.Nodup)(hi:X.N[i]?=M n)(hl:X.env.scope.names.lookup n=M .local)(hdb:(x==("__debug__":Str))=J:=by decide):PS X (.Try body [.ExceptHandler (M<|.Name x np) (M n) (ajH::suite) hpos] [] [] pos) (LQ X.K i aaf tb ts):=by
 intro pins s U H D I h;refine wpAny_Try_except<|d9 (hb pins s U H _ _ I h) (λf s1 ⟨hf,σ1,H1,I1,q⟩=>?_) λv s1 hx=>?_
 .subst hf;exact nZ #[σ1,H1,I1,q]
 .obtain⟨e,C,od,H1,rfl,I1,F1,C',ec,hmro,q⟩:=hx;cases ec;refine Hi hst hf I1 (F1.imp (λ_ z=>z) λ_ z=>.inl z) λs2 I2 F2=>?_;refine xy I2 F2 λs3 I3 F3=>?_;refine wpAny_handleBy_cons (codeAny_handlers_test<|qW (X:=X.hand<|.ref e) (I3.hand _) hg hm ?_ hdb) (by intro z;cases z);let#[#[oe,vs,v,g1,g2,g3,g4,g5,g6,g7],fe]:=id F3;refine adN I3.p_ b g1 g2 hmro ?_;refine codeAny_handlers_suite_as ?_;refine xy (X:=X.hand<|.ref e) (I3.hand _) F3 λs4 I4 F4=>?_;let#[#[oe',vs',v',k1,k2,k3,k4,k5,k6,k7],fe']:=id F4;have I5:Inv (X.hand<|.ref e) pins U (upd H1 e<|vS J e C od) s4:=I4.af5 fe'<|adL #[oe',vs',k1,k2,k3,k4,k5,λz=>nomatch z];refine zP (X:=X.hand<|.ref e) (v:=.a e) I5 nd hi (.inl hl) rfl (λs5 I6=>?_)<|.inr hl;refine d9 (hs e fe.2.2.2.1 pins s5 _ _ _ I6<|q e fe.1) (λf s6 hq=>?_) λ_ _ z=>bU z;have go:∀{σ2:St}{H2:Hp}{Q:Unit->aj->Prop},Inv (X.hand<|.ref e) pins σ2 H2 s6->(∀s7,Inv X pins (σ2.set i B) H2 s7->Q () s7)->aG (aJ X.prog X.w) X.A (do bindName X.env n .none;AD X.env n hpos) Q X.xe s6:=λaae k=>name_goes (aae.adO I.ok) nd hi hl k;cases f with
  |next=>let#[σ2,H2,aae,z]:=hq;exact go aae λs7 J7=>#[_,H2,J7,z]
  |ret u=>let#[w,σ2,H2,aae,r,z]:=hq;exact go aae λs7 J7=>#[w,_,H2,J7,r,z]
  |brk=>let#[σ2,H2,aae,z]:=hq;exact z.elim
  |cont=>let#[σ2,H2,aae,z]:=hq;exact z.elim
end
section
variable{X:Cx}
def adQ{x:Str}{a:Expr}{as:L Expr}{ta:TA}{p pos epos:Pos}{sp:Sp}{dvs:L V}{cv:Z}{tg:Expr}{g:TG}{st2:Stmt}{t2:TS}(hg:Gl X x)(hm:X.mg x=M cv)(hk:dW X.K cv=W)(hrun:∀{pins:L<|Addr×Obj}{s:aj}{U:St}{H:Hp}{E:XK}{Q:VK}{us:L Z}{vs:L V},Inv X pins U H s->bO vs us->sp (vs++dvs) H Q E->aG (aJ X.prog X.w) X.A (call cv us) (EP X pins U Q) (QE X pins U E) s)(ha:PA X.E_ (a::as) ta)(hdb:(x==("__debug__":Str))=J)(he:eO (a::as) X.env=(J,eval a X.env)::eO as X.env)(hpl:(qh pos<|eO as X.env).any (·.1)=J)(htg:PG X.E_ tg g)(hs:uW [tg] (.Call (.Name x p) (a::as) [] pos) epos.line X.env=pure J)(hw:A6 [tg] (.Call (.Name x p) (a::as) [] pos) X.env=pure B)(h1:(jO [tg] X.env).map (·.2)=[zp tg X.env])(h2:PS X.E_ st2 t2):PB X [.Assign [tg] (.Call (.Name x p) (a::as) [] pos) epos,st2] (λE U H nx=>ta U H λvs H1=>sp (vs++dvs) H1 (λv H2=>g v U H2 fun σ2 H3=>t2 { nx:=nx,rt:=λ_ _=>bu } σ2 H3) E):=by
 intro pins s U H E nx I h;refine wJ ?_;refine Bc (d9 (?_:aG _ _ _ (EP X pins U λv H2=>g v U H2 fun σ2 H3=>t2 { nx:=nx,rt:=λ_ _=>bu } σ2 H3) (QE X pins U E) s) (λv s1 ⟨y,H1,I1,r1,q1⟩=>?_) λ_ _ z=>z) hs hw
 .refine cC (qW I hg hm ?_ hdb);refine uC I.ok.mod.kin hk (d9 (ha pos pins s U H _ (I.nK _) h) (λus s1 ⟨vs,H1,I1,r,q⟩=>#[I1.p_,?_]) λ_ _ z=>bU z) he hpl;exact hrun I1.mE r q
 .rw[h1];refine d9 (htg pins s1 U H1 y v _ (I1.nK _) r1 q1) (λ_ s2 ⟨σ2,H2,I2,q2⟩=>?_) λ_ _ z=>bU z;refine wJ<|d9 (h2 pins s2 σ2 H2 _ I2 q2) (λf s3 hq=>?_) λ_ _ z=>bU z;cases f with
  |next=>let#[σ3,H3,I3,q3]:=hq;exact nZ #[rfl,σ3,H3,I3.mE,q3]
  |ret u=>let#[w,σ3,H3,aae,r,z]:=hq;exact z.elim
  |brk=>let#[σ3,H3,aae,z]:=hq;exact z.elim
  |cont=>let#[σ3,H3,aae,z]:=hq;exact z.elim
end
end L2
end
section
namespace L3
open PySem PySem.Spec L2
inductive Bf where
 |a|g|j|i|c|h|b|d|e
 deriving dz
noncomputable def Bf.name:Bf->Str
|.a=>"len"|.g=>"all"|.j=>"any"|.i=>"int"|.c=>"list"|.h=>"tuple"|.b=>"dict"|.d=>"max"|.e=>"sorted"
inductive Mt where
 |a|f|b|c|d|e|g
 deriving dz
noncomputable def Mt.name:Mt->Str
|.a=>"append"|.f=>"insert"|.b=>"index"|.c=>"get"|.d=>"extend"
|.e=>"remove"|.g=>"setdefault"
inductive Ty where
 |b|f|d|e|a|c|none
 deriving dz
noncomputable def Ty.name:Ty->Str
|.b=>"int"|.f=>"bool"|.d=>"str"|.e=>"list"|.a=>"tuple"|.c=>"dict"|.none=>"NoneType"
set_option genCtorIdx false
mutual
inductive CE where
|a (i:Nat)
|e (v:V)
|g (op:Ax) (a b:CE)
|m (a:CE)
|y (a:CE)
|p (a:CE)
|l (a b:CE)
|o (a b:CE)
|q (c a b:CE)
|d (op:AE) (a b:CE)
|t (o1 o2:AE) (a b c:CE)
|c (g:Nat) (as:jQ)
|h (f:Bf) (as:jQ)
|v (a:CE) (t:Ty)
|i (m:Mt) (o:CE) (as:jQ)
|b (a b:CE)
|r (a:CE) (lo hi:CO)
|k (as:jQ)
|f (as:jQ)
|ab
|j (nl:L Str) (fr:L Nat) (elt:CE) (tg:CG) (src:CI) (cond:CO)
|n (one:Bool) (gs:L Nat) (a:CE)
|s (g:Nat) (a:CE)
|w
|z (as:jQ)
|u (a:CE)
|ac (a:CE)
|aa (a:CE)
|x (a:CE)
inductive jQ where
|nil
|cons (a:CE) (r:jQ)
inductive CO where
|none
|some (a:CE)
inductive CG where
|a (i:Nat)
|b (gs:vU)
|c (o i:CE)
inductive vU where
|nil
|cons (g:CG) (r:vU)
inductive CI where
|a (a:CE)
|b (as:jQ)
|c (a:CE)
|d (a:CE)
end
mutual
inductive CS where
|e (e:CE)
|c (g:CG) (e:CE)
|f (i:Nat) (e:CE)
|g (i:Nat) (e:CE)
|k (g:CG) (e:CE)
|a (e:CE)
|b (c:CE) (a b:cI)
|i (c:CE) (b:cI)
|d (g:CG) (src:CI) (b:cI)
|n
|m
|l (k i j:Nat) (a b:cI)
|h (g:Nat)
|j (i g x c:Nat) (as:jQ) (y:Nat) (e:CE) (h:cI)
inductive cI where
|nil
|cons (s:CS) (r:cI)
end
noncomputable def vU.len:vU->Nat
|.nil=>0
|.cons _ r=>r.len+1
set_option genCtorIdx true
inductive G where
|j (v:V)
|k (a:Addr) (xs:L V)
|a (sp:Sp) (dvs:L V)
|b (C:Addr)
|c (D:Addr) (Cs:L Addr)
|h (Cs:L Addr) (as:L Str)
|i (aaf:Addr) (Cs:L Addr)
|d (sp:Sp)
|f
noncomputable def G.hand(e:Addr):G->G
|.a _ _=>.f
|.b _=>.f
|.d sp=>.a sp []
|g=>g
noncomputable def G.alone:G->G
|.a _ _=>.f
|.b _=>.f
|.d _=>.f
|g=>g
def KSq(K:ak)(a:Addr)(t:Bool)(xs:L V):Prop:=
 ∃(o:Obj) (its:Array Z) (n:Nat),K.lookup a=M o/\o.cls=.type (if t then "tuple" else "list")/\o.dict=B/\o.data=.seq its n/\its.size<=ao/\bO xs its.toList
noncomputable def unF:HO->HO
|.f _ u=>u
|u=>u
noncomputable def sqO:HO->aah (Bool×L V)
|.a xs=>M (J,xs)
|.b xs=>M (W,xs)
|_=>B
def QF(H:Hp)(a:Addr):aah (Bool×L V):=(H a).bind λo=>sqO<|unF o
def jh(K:ak)(H:Hp)(a:Addr)(t:Bool)(xs:L V):Prop:=QF H a=M (t,xs)\/KSq K a t xs
def tupS(h:H a=M (.b xs)):jh K H a W xs:=.inl (by unfold QF;rw[h];rfl)
def WB(K:ak)(H:Hp)(a:Addr)(k:Bool->L V->Prop):Prop:=∃t xs,jh K H a t xs/\k t xs
inductive D where
|g|e (b:Bool)|a (i:Int)|c (x:Str)
|b (o:Bool) (xs:L D)
|d (xs:L D)
|f (o:Bool) (ks:L Key) (xs:L D)
|j
|h (o:Bool) (ks:L (L Key)) (xs:L D)
|i (C:Addr) (ks:L Str) (xs:L D)
mutual
noncomputable def bW:D->D
|.g=>.g
|.e b=>.e b
|.a i=>.a i
|.c x=>.c x
|.b _ xs=>.b J<|aH xs
|.d xs=>.d<|aH xs
|.f _ ks xs=>.f J ks<|aH xs
|.j=>.j
|.h _ ks xs=>.h J ks<|aH xs
|.i C ks xs=>.i C ks<|aH xs
noncomputable def aH:L D->L D
|[]=>[]
|d::r=>bW d::aH r
end
mutual
noncomputable def aV:D->Bool
|.b o xs=>o&&b9 xs
|.d xs=>b9 xs
|.f o _ xs=>o&&b9 xs
|.j=>J
|.h o _ xs=>o&&b9 xs
|.i _ _ _=>J
|_=>W
noncomputable def b9:L D->Bool
|[]=>W
|d::r=>aV d&&b9 r
end
mutual
noncomputable def k_:D->D->Bool
|.g,y=>match y with
 |.g=>W
 |_=>J
|.e a,y=>match y with
 |.e b=>a==b
 |.a j=>(if a then 1 else 0)==j
 |_=>J
|.a i,y=>match y with
 |.a j=>i==j
 |.e b=>i==(if b then 1 else 0)
 |_=>J
|.c a,y=>match y with
 |.c b=>a==b
 |_=>J
|.b _ xs,y=>match y with
 |.b _ ys=>nL xs ys
 |_=>J
|.d xs,y=>match y with
 |.d ys=>nL xs ys
 |_=>J
|.f _ _ _,_=>J
|.j,_=>J
|.h _ _ _,_=>J
|.i _ _ _,_=>J
noncomputable def nL:L D->L D->Bool
|[],ys=>match ys with
 |[]=>W
 |_=>J
|x::xs,ys=>match ys with
 |y::ys=>k_ x y&&nL xs ys
 |[]=>J
end
mutual
noncomputable def oB:D->Nat->Bool
|.b _ xs,n=>match n with
 |0=>J
 |n+1=>j8 xs n
|.d xs,n=>match n with
 |0=>J
 |n+1=>j8 xs n
|.f _ _ _,_=>J
|.j,_=>J
|.h _ _ _,_=>J
|.i _ _ _,_=>J
|_,_=>W
noncomputable def j8:L D->Nat->Bool
|[],_=>W
|d::r,n=>oB d n&&j8 r n
end
def gP(d:D):Bool:=oB d 12
def mF(ds:L D):Bool:=j8 ds 12
noncomputable def keyOk:Key->Bool
|.inr x=>decide<|x.length<=ao
|.inl _=>W
def keysOk(ks:L Key):Bool:=ks.all keyOk
def t9(k:L Key):Bool:=keysOk k&&decide (zl k<=ao)
def qX(ks:L<|L Key):Bool:=ks.all t9
def Xd(H:Hp)(od:aah Addr)(fs:L<|Str×V):Prop:=match od with
|none=>fs=[]
|some d=>H d=M (Tc d fs)
mutual
def bf(K:ak)(H:Hp):D->V->Prop
|.g,v=>v=.d
|.e b,v=>v=.c b
|.a i,v=>v=.b i
|.c x,v=>v=.e x/\x.length<=ao
|.b _ ds,v=>∃a vs,v=.a a/\Rd H a (.a vs)/\vs.length<=ao/\aR K H ds vs
|.d ds,v=>∃a vs,v=.a a/\H a=M (.b vs)/\vs.length<=ao/\aR K H ds vs
|.f _ ks ds,v=>∃a kvs,v=.a a/\H a=M (.c kvs)/\kvs.length<=ao/\(kvs.map (·.1)=ks/\keysOk ks=W)/\aR K H ds (kvs.map (·.2))
|.j,v=>∃a vs,v=.a a/\H a=M (.a vs)
|.h _ ks ds,v=>∃a kvs,v=.a a/\H a=M (.d kvs)/\kvs.length<=ao/\(kvs.map (·.1)=ks/\qX ks=W)/\aR K H ds (kvs.map (·.2))
|.i C ks ds,v=>∃e od vs,v=.a e/\H e=M (vS J e C od)/\Xd H od (ks.zip vs)/\aR K H ds vs
def aR(K:ak)(H:Hp):L D->L V->Prop
|[],vs=>vs=[]
|d::ds,vs=>∃v r,vs=v::r/\bf K H d v/\aR K H ds r
end
def WC(K:ak)(op:Ax)(x y:V)(H:Hp)(Q:VK):Prop:=match op with
|.Add=>(∃i j,x=.b i/\y=.b j/\Q (.b<|i+j) H)\/(∃i j,x=.e i/\y=.e j/\i.length+j.length<=ao/\Q (.e<|i++j) H)
  \/ (∃a b xs ys,x=.a a/\y=.a b/\Rd H a (.a xs)/\Rd H b (.a ys)/\xs.length+ys.length<=ao/\∀p,H p=B->Q (.a p) (upd H p<|.a<|xs++ys))
  \/ (∃a b xs ys,x=.a a/\y=.a b/\jh K H a W xs/\jh K H b W ys/\xs≠[]/\ys≠[]/\xs.length+ys.length<=ao/\∀p,H p=B->Q (.a p) (upd H p<|.b<|xs++ys))
|.Sub=>∃i j,x=.b i/\y=.b j/\Q (.b<|i-j) H
|.Mult=>(∃i j,x=.b i/\y=.b j/\sV i j/\Q (.b<|i*j) H)
  \/ (∃i j,x=.e i/\y=.b j/\(0<=j/\j<2 ^ 40/\i.length*j.toNat<=ao)/\Q (.e ⟨(bl j.toNat i.cps.toList).flatten.toArray⟩) H)
  \/ (∃l k xs,x=.a l/\y=.b k/\Rd H l (.a xs)/\-(2 ^ 63)<=k/\k<2 ^ 63/\xs.length*k.toNat<=ao/\∀p,H p=B->Q (.a p) (upd H p<|.a (bl k.toNat xs).flatten))
|.FloorDiv=>∃i j,x=.b i/\y=.b j/\uG i j/\Q (.b<|i / j) H
|.Mod=>∃i j,x=.b i/\y=.b j/\0<j/\Q (.b<|i%j) H
|.Pow=>∃i j,x=.b i/\y=.b j/\sU i j/\Q (.b<|i ^ j.toNat) H
|_=>bu
def memD(x:D)(xs:L D):Bool:=xs.any λy=>k_ y x
def qM(K:ak)(op:AE)(x y:V)(H:Hp)(Q:VK):Prop:=match op with
|.Lt=>∃i j,x=.b i/\y=.b j/\Q (.c<|decide<|i<j) H
|.LtE=>∃i j,x=.b i/\y=.b j/\Q (.c<|decide<|i<=j) H
|.Gt=>∃i j,x=.b i/\y=.b j/\Q (.c<|decide<|j<i) H
|.Eq=>∃dx dy,bf K H dx x/\bf K H dy y/\gP dx=W/\gP dy=W/\Q (.c<|k_ dx dy) H
|.NotEq=>∃dx dy,bf K H dx x/\bf K H dy y/\gP dx=W/\gP dy=W/\Q (.c<|!k_ dx dy) H
|.Is=>y=.d/\Q (.c<|decide<|x=.d) H
|.IsNot=>y=.d/\Q (.c<|!decide (x=.d)) H
|.In=>∃a,y=.a a/\((∃t xs dx ds,jh K H a t xs/\bf K H dx x/\aR K H ds xs/\gP dx=W/\mF ds=W/\Q (.c<|memD dx ds) H)
  \/ (∃kvs k,Rd H a (.c kvs)/\x=kV k/\Q (.c (gc kvs k).isSome) H)\/∃kvs k b,Rd H a (.d kvs)/\x=.a b/\H b=M (.b<|k.map kV)/\Q (.c (gc kvs k).isSome) H)
|.NotIn=>∃a,y=.a a/\((∃t xs dx ds,jh K H a t xs/\bf K H dx x/\aR K H ds xs/\gP dx=W/\mF ds=W/\Q (.c<|!memD dx ds) H)
  \/ (∃kvs k,Rd H a (.c kvs)/\x=kV k/\Q (.c<|!(gc kvs k).isSome) H)\/∃kvs k b,Rd H a (.d kvs)/\x=.a b/\H b=M (.b<|k.map kV)/\Q (.c<|!(gc kvs k).isSome) H)
|_=>bu
def mW(K:ak)(x:V)(H:Hp)(Q:Bool->Prop):Prop:=match x with
|.c b=>Q b
|_=>bu
def ZM(K:ak)(x y:V)(H:Hp)(Q:VK):Prop:=adw x y H Q
 \/ (∃a t xs i v,x=.a a/\y=.b i/\jh K H a t xs/\fq xs i=M v/\Q v H)\/(∃a kvs k v,x=.a a/\Rd H a (.c kvs)/\y=kV k/\gc kvs k=M v/\Q v H)
 \/ ∃a kvs k b v,x=.a a/\Rd H a (.d kvs)/\y=.a b/\H b=M (.b<|k.map kV)/\gc kvs k=M v/\Q v H
noncomputable def cut{α:Type}(xs:L α)(lo hi:aah Int):L α:=(xs.drop<|HT.nR (zl xs) 0 lo).take<|HT.nR (zl xs) (zl xs) hi-HT.nR (zl xs) 0 lo
def wSl(K:ak)(x:V)(lo hi:aah Int)(H:Hp)(Q:VK):Prop:=(∃z,x=.e z/\z.length<=ao/\Q (.e ⟨(cut z.cps.toList lo hi).toArray⟩) H)
 \/ (∃a xs,x=.a a/\jg K H a xs/\∀p,H p=B->Q (.a p) (upd H p<|.a<|cut xs lo hi))
 \/ ∃(a:Addr) (n:Nat) (xs:L V),x=.a a/\jh K H a W xs/\lo=M (n:Int)/\hi=B/\1<=n/\n<=xs.length/\∀p,H p=B->Q (.a p) (upd H p<|.b<|xs.drop n)
def WD(vs:L V)(H:Hp)(Q:VK):Prop:=∃i j,vs=[.b i,.b j]/\(-(2 ^ 62)<=i/\i<2 ^ 62/\-(2 ^ 62)<=j/\j<2 ^ 62/\(j-i).toNat<=2 ^ 24)/\∀p,H p=B->Q (.a p) (upd H p<|.b<|(bg (j-i).toNat).map λ(k:Nat)=>V.b<|i+(k:Int))
noncomputable def rH:V->Bool
|.c W=>W
|_=>J
noncomputable def af6:V->Bool
|.c _=>W
|_=>J
def zV(xs:L V):Bool:=xs.all af6
noncomputable def adU(i:Int):Str:=toString i
def OS(K:ak)(H:Hp):L V->L (Key×V)->Prop:=Paired λx p=>∃t,x=.a t/\sF K H t [kV p.1,p.2]
def Bu(K:ak)(f:Bf)(vs:L V)(H:Hp)(Q:VK):Prop:=match f with
|.a=>(∃z,vs=[.e z]/\z.length<=ao/\Q (.b z.length) H)\/∃a xs,vs=[.a a]/\(jg K H a xs\/sF K H a xs)/\Q (.b xs.length) H
|.g=>∃a xs,vs=[.a a]/\jg K H a xs/\zV xs=W/\Q (.c<|xs.all rH) H
|.j=>∃a xs,vs=[.a a]/\jg K H a xs/\zV xs=W/\Q (.c<|xs.any rH) H
|.i=>∃b,vs=[.c b]/\Q (.b (if b then 1 else 0)) H
|.d=>∃i j,vs=[.b i,.b j]/\Q (.b (if j>i then j else i)) H
|.h=>∃a xs,vs=[.a a]/\Rd H a (.a xs)/\∀p,H p=B->Q (.a p) (upd H p<|.b xs)
|.c=>∃a xs,vs=[.a a]/\Rd H a (.a xs)/\∀p,H p=B->Q (.a p) (upd H p<|.a xs)
|.b=>∃a xs ps,vs=[.a a]/\jg K H a xs/\OS K H xs ps/\∀p,H p=B->Q (.a p) (upd H p<|.c<|t8 [] ps)
|.e=>∃a kvs,vs=[.a a]/\Rd H a (.d kvs)/\sortable (kvs.map (·.1))=W/\∀ts,jF H (kvs.map (·.1)) ts->∀p,H p=B->Q (.a p) (upd H p (.a ((iQ (kvs.map (·.1))).map λi=>.a<|ts.getD i 0)))
def Bv(K:ak)(t:Ty)(x:V)(H:Hp)(Q:Bool->Prop):Prop:=match x with
|.b _=>Q<|decide<|t=.b
|.a a=>∃xs,jh K H a W xs/\Q (decide (t=.a)||decide (t=.none))
|_=>bu
noncomputable def Fi:Mt->String
|.c=>"dict"
|.g=>"dict"
|_=>"list"
def Fj(m:Mt)(x:V)(H:Hp):Prop:=∃a,x=.a a/\((Fi m="dict"/\∃kvs,H a=M (.c kvs))\/(Fi m="list"/\∃xs,Rd H a<|.a xs))
def LR(m:Mt)(x:V)(vs:L V)(H:Hp)(Q:VK):Prop:=match m with
|.a=>OO x vs H Q
|.d=>OP x vs H Q
|.f=>∃l xs i y,x=.a l/\vs=[.b i,y]/\H l=M (.a xs)/\(0<=i/\i<2 ^ 40/\zl xs<ao)/\Q .d (upd H l<|.a (xs.take i.toNat++y::xs.drop i.toNat))
|.e=>∃(l:Addr) (ns:L Int) (k:Int),x=.a l/\vs=[.b k]/\H l=M (.a<|ns.map V.b)/\k∈ns/\Q .d (upd H l<|.a<|(ns.map V.b).eraseIdx<|ns.idxOf k)
|.g=>∃(a:Addr) (kvs:L<|Key×V) (k:Key) (y:V),x=.a a/\vs=[kV k,y]/\H a=M (.c kvs)/\zl kvs<ao/\(∀v,gc kvs k=M v->Q v H)/\(gc kvs k=B->Q y (upd H a<|.c<|putK kvs k y))
|.c=>∃(l:Addr) (kvs:L<|Key×V) (k:Key) (y:V),x=.a l/\vs=[kV k,y]/\Rd H l (.c kvs)/\Q ((gc kvs k).getD y) H
|.b=>∃(l:Addr) (ns:L Int) (k:Int),x=.a l/\vs=[.b k]/\Rd H l (.a<|ns.map V.b)/\k∈ns/\Q (.b<|ns.idxOf k) H
inductive Item where
|v (x:V)
|a (xs:L V)
def mkItem(it:Item)(H:Hp)(k:V->Hp->Prop):Prop:=match it with
|.v x=>k x H
|.a xs=>∀p,H p=B->k (.a p) (upd H p<|.b xs)
noncomputable def qv:Nat->L V->L Item
|_,[]=>[]
|n,x::r=>.a [.b (n:Int),x]::qv (n+1) r
noncomputable def adV:L V->L V->L Item
|x::xs,y::ys=>.a [x,y]::adV xs ys
|_,_=>[]
abbrev TIt:=St->Hp->((Hp->Prop)->L Item->Hp->Prop)->Prop
def forL(ok:Hp->Prop)(g:TG)(body:TS)(D:Ends):L Item->St->Hp->Prop
|[],U,H=>ok H/\D.nx U H
|it::r,U,H=>ok H/\mkItem it H λx H1=>g x U H1 fun σ2 H2=>body { D with nx:=forL ok g body D r,ct:=forL ok g body D r,bk:=D.nx } σ2 H2
def vn(ok:Hp->Prop)(g:TG)(cond:TT)(elt:TE)(k:L V->Hp->Prop):L Item->L V->St->Hp->Prop
|[],acc,_,H=>ok H/\k acc H
|it::r,acc,U,H=>ok H/\zl acc<ao/\mkItem it H λx H1=>g x U H1 fun σ2 H2=>cond σ2 H2 λb H3=>
  if b=W then elt σ2 H3 λy H4=>vn ok g cond elt k r (acc++[y]) σ2 H4 else vn ok g cond elt k r acc σ2 H3
def Hj(K:ak)(x:V)(H:Hp)(k:(Hp->Prop)->L Item->Hp->Prop):Prop:=match x with
|.a a=>WB K H a λt xs=>k (λH'=>jh K H' a t xs) (xs.map .v) H
|_=>bu
def Fk(vs:L V)(H:Hp)(k:(Hp->Prop)->L Item->Hp->Prop):Prop:=match vs with
|[.b j]=>(-(2 ^ 62)<=j/\j<2 ^ 62)/\k (λ_=>True) ((bg j.toNat).map λ(i:Nat)=>Item.v<|.b (i:Int)) H
|_=>bu
def WE(x y v:V)(H:Hp)(Q:Hp->Prop):Prop:=(∃a xs k j,x=.a a/\H a=M (.a xs)/\y=.b k/\nS (zl xs) k=M j/\Q (upd H a<|.a<|xs.set j v))
 \/ (∃a kvs k,x=.a a/\H a=M (.c kvs)/\y=kV k/\zl kvs<ao/\Q (upd H a<|.c<|putK kvs k v))
 \/ ∃a kvs k b,x=.a a/\H a=M (.d kvs)/\y=.a b/\H b=M (.b<|k.map kV)/\zl kvs<ao/\Q (upd H a<|.d<|putK kvs k v)
def Fo(U:St)(i:Nat)(k:V->Prop):Prop:=∃v,U[i]?=M (M v)/\k v
def Fp:L (L Key)->Hp->(L Addr->Hp->Prop)->Prop
|[],H,k=>k [] H
|x::r,H,k=>∀p,H p=B->Fp r (upd H p<|.b<|x.map kV) λts H'=>k (p::ts) H'
noncomputable def l0(ps:L<|Str×Int):L (L Key):=ps.map λp=>[.inr p.1,.inl p.2]
def WG(x:V)(H:Hp)(Q:VK):Prop:=∃a ps,x=.a a/\Rd H a (.c (ps.map λp:Str×Int=>(.inr p.1,V.b p.2)))/\zl ps<64 /\
 Fp (l0 ps) H λts H1=>∀p,H1 p=B->Q (.a p) (upd H1 p<|.a<|(iQ<|l0 ps).map λi=>.a<|ts.getD i 0)
def WH(x:V)(H:Hp)(Q:VK):Prop:=∃b ts kss,x=.a b/\Rd H b (.a<|ts.map V.a)/\L2.jF H kss ts/\sortable kss=W/\zl kss<=18 /\
 ∀p vs,H p=B->Q (.a p) (upd H p<|.a vs)
def WI(x:V)(H:Hp)(Q:VK):Prop:=∃n:Int,x=.b n/\(0<=n/\n.toNat<=2 ^ 24)/\∀p,H p=B->Q (.a p) (upd H p<|.a<|(bg n.toNat).map λ(k:Nat)=>V.b (k:Int))
def WJ(x:V)(H:Hp)(Q:VK):Prop:=∃b xs,x=.a b/\Rd H b (.a xs)/\∀p,H p=B->Q (.a p) (upd H p<|.a xs.reverse)
noncomputable def QG:aah G->aah (Addr×L Addr)
|some (.c D Cs)=>M (D,Cs)
|_=>B
def yd(Y:L G):L Nat->aah Addr->aah Bool
|[],_=>M J
|g::r,c=>(QG Y[g]?).bind λp=>match c with
 |none=>yd Y r c
 |some C=>if C∈p.2 then(if C=p.1 then M W else yd Y r c)else B
def C9(Y:L G):L Nat->L Addr->Prop
|[],Ds=>Ds=[]
|g::gs,Ds=>∃D r Cs,Ds=D::r/\Y[g]?=M (G.c D Cs)/\C9 Y gs r
def adX(H:Hp)(e:Addr)(k:Addr->L (Str×V)->Prop):Prop:=∃m C od fs,H e=M (vS m e C od)/\Xd H od fs/\k C fs
def LS(Y:L G)(gs:L Nat)(x:V)(H:Hp)(Q:Bool->Prop):Prop:=gs≠[]/\zl gs<=1000/\(∃Ds,C9 Y gs Ds)/\((x=.d/\∃b,yd Y gs B=M b/\Q b)\/∃e,x=.a e/\adX H e λC _=>∃b,yd Y gs (M C)=M b/\Q b)
def QH(Y:L G)(g:Nat)(x:V)(H:Hp)(Q:Bool->Prop):Prop:=∃Cs as,Y[g]?=M (.h Cs as)/\((x=.d/\Q J)\/∃e,x=.a e/\adX H e λC _=>C∈Cs/\Q W)
noncomputable def kX(ss:L Int):L Int:=ss.foldl gf []
def QI:V->aah Str
|.e x=>M x
|.b i=>if i.natAbs.log2<1920 then M (adU i)else B
|_=>B
def ZN(U:L2.St):L (Str×Nat)->Str->aah Str
|[],a=>M a
|p::r,a=>match U[p.2]? with
 |some (M v)=>(QI v).bind λy=>ZN U r<|a++p.1++y
 |_=>B
def ZO(x:V)(H:Hp)(Q:VK):Prop:=∃b ss,x=.a b/\Rd H b (.a<|ss.map V.b)/\zl ss<4000/\Q (.b<|zl<|kX ss) H
mutual
def wE(K:ak)(Y:L G)(E:XK):CE->TE
|.a i=>λU H Q=>Fo U i λv=>Q v H
|.e v=>λ_ H Q=>Q v H
|.g op a b=>λU H Q=>wE K Y E a U H λx H1=>wE K Y E b U H1 λy H2=>WC K op x y H2 Q
|.y a=>λU H Q=>wE K Y E a U H λx H1=>ZO x H1 Q
|.m a=>λU H Q=>wE K Y E a U H λx H1=>match x with
 |.b i=>Q (.b<|-i) H1
 |_=>bu
|.p a=>λU H Q=>wE K Y E a U H λx H1=>mW K x H1 λb=>Q (.c<|!b) H1
|.l a b=>λU H Q=>wE K Y E a U H λx H1=>match x with
 |.c c=>if c=W then wE K Y E b U H1 Q else Q (.c J) H1
 |_=>bu
|.o a b=>λU H Q=>wE K Y E a U H λx H1=>match x with
 |.c c=>if c=W then Q (.c W) H1 else wE K Y E b U H1 Q
 |_=>bu
|.q c a b=>λU H Q=>wT K Y E c U H λk H1=>if k=W then wE K Y E a U H1 Q else wE K Y E b U H1 Q
|.d op a b=>λU H Q=>wE K Y E a U H λx H1=>wE K Y E b U H1 λy H2=>qM K op x y H2 Q
|.t o1 o2 a b c=>λU H Q=>wE K Y E a U H λx H1=>wE K Y E b U H1 λy H2=>qM K o1 x y H2 λz H3=>match z with
 |.c k=>if k=W then wE K Y E c U H3 λu H4=>qM K o2 y u H4 Q else Q (.c J) H3
 |_=>bu
|.c g as=>λU H Q=>match Y[g]? with
 |some (.a sp dvs)=>wEs K Y E as U H λvs H1=>sp (vs++dvs) H1 Q E
 |_=>bu
|.h f as=>λU H Q=>wEs K Y E as U H λvs H1=>Bu K f vs H1 Q
|.v a t=>λU H Q=>wE K Y E a U H λx H1=>Bv K t x H1 λb=>Q (.c b) H1
|.i m o as=>λU H Q=>wE K Y E o U H λx H1=>Fj m x H1/\wEs K Y E as U H1 λvs H2=>LR m x vs H2 Q
|.b a b=>λU H Q=>wE K Y E a U H λx H1=>wE K Y E b U H1 λy H2=>ZM K x y H2 Q
|.r a lo hi=>λU H Q=>wE K Y E a U H λx H1=>wO K Y E lo U H1 λl H2=>wO K Y E hi U H2 λh H3=>wSl K x l h H3 Q
|.k as=>λU H Q=>wEs K Y E as U H λvs H1=>zl vs<=ao/\∀p,H1 p=B->Q (.a p) (upd H1 p<|.a vs)
|.f as=>λU H Q=>wEs K Y E as U H λvs H1=>zl vs<=ao/\∀p,H1 p=B->Q (.a p) (upd H1 p<|.b vs)
|.ab=>λ_ H Q=>∀p,H p=B->Q (.a p) (upd H p<|.c [])
|.j nl fr elt tg src cond=>λU H Q=>wI K Y E src U H λok items H1=>
  vn ok (wG K Y E0 tg) (wC K Y E0 cond) (wE K Y E0 elt) (λvs H2=>∀p,H2 p=B->Q (.a p) (upd H2 p<|.a vs)) items [] (nl.map (λ_=>B)++fr.map λi=>U.getD i B) H1
|.n _ gs a=>λU H Q=>wE K Y E a U H λx H1=>LS Y gs x H1 λb=>Q (.c b) H1
|.s g a=>λU H Q=>wE K Y E a U H λx H1=>QH Y g x H1 λb=>Q (.c b) H1
|.w=>λ_ H Q=>∀p,H p=B->Q (.a p) (upd H p<|.d [])
|.z as=>λU H Q=>wEs K Y E as U H λvs H1=>WD vs H1 Q
|.u a=>λU H Q=>wE K Y E a U H λx H1=>WG x H1 Q
|.ac a=>λU H Q=>wE K Y E a U H λx H1=>WJ x H1 Q
|.aa a=>λU H Q=>wE K Y E a U H λx H1=>WI x H1 Q
|.x a=>λU H Q=>wE K Y E a U H λx H1=>WH x H1 Q
def wT(K:ak)(Y:L G)(E:XK):CE->TT
|.p a=>λU H Q=>wT K Y E a U H λb H1=>Q (!b) H1
|.l a b=>λU H Q=>wT K Y E a U H λc H1=>if c=W then wT K Y E b U H1 Q else Q J H1
|.o a b=>λU H Q=>wT K Y E a U H λc H1=>if c=W then Q W H1 else wT K Y E b U H1 Q
|.q c a b=>λU H Q=>wT K Y E c U H λk H1=>if k=W then wT K Y E a U H1 Q else wT K Y E b U H1 Q
|.d op a b=>λU H Q=>wE K Y E a U H λx H1=>wE K Y E b U H1 λy H2=>qM K op x y H2 λz H3=>match z with
 |.c k=>Q k H3
 |_=>bu
|.t o1 o2 a b c=>λU H Q=>wE K Y E a U H λx H1=>wE K Y E b U H1 λy H2=>qM K o1 x y H2 λz H3=>match z with
 |.c k=>if k=W then wE K Y E c U H3 λu H4=>qM K o2 y u H4 λz H5=>match z with
  |.c k=>Q k H5
  |_=>bu
  else Q J H3
 |_=>bu
|.a i=>λU H Q=>Fo U i λv=>mW K v H λb=>Q b H
|.b a b=>λU H Q=>wE K Y E a U H λx H1=>wE K Y E b U H1 λy H2=>ZM K x y H2 λv H3=>mW K v H3 λb=>Q b H3
|.c g as=>λU H Q=>match Y[g]? with
 |some (.a sp dvs)=>wEs K Y E as U H λvs H1=>sp (vs++dvs) H1 (λx H2=>mW K x H2 λb=>Q b H2) E
 |_=>bu
|.h f as=>λU H Q=>wEs K Y E as U H λvs H1=>Bu K f vs H1 λx H2=>mW K x H2 λb=>Q b H2
|.v a t=>λU H Q=>wE K Y E a U H λx H1=>Bv K t x H1 λb=>mW K (.c b) H1 λb=>Q b H1
|.i m o as=>λU H Q=>wE K Y E o U H λx H1=>Fj m x H1/\wEs K Y E as U H1 λvs H2=>LR m x vs H2 λy H3=>mW K y H3 λb=>Q b H3
|.n _ gs a=>λU H Q=>wE K Y E a U H λx H1=>LS Y gs x H1 λb=>mW K (.c b) H1 λb=>Q b H1
|.s g a=>λU H Q=>wE K Y E a U H λx H1=>QH Y g x H1 λb=>mW K (.c b) H1 λb=>Q b H1
|_=>λ_ _ _=>bu
def wEs(K:ak)(Y:L G)(E:XK):jQ->TA
|.nil=>λ_ H Q=>Q [] H
|.cons a r=>λU H Q=>wE K Y E a U H λx H1=>wEs K Y E r U H1 λxs H2=>Q (x::xs) H2
def wO(K:ak)(Y:L G)(E:XK):CO->St->Hp->(aah Int->Hp->Prop)->Prop
|.none=>λ_ H Q=>Q B H
|.some a=>λU H Q=>wE K Y E a U H λx H1=>match x with
 |.b i=>Q (M i) H1
 |_=>bu
def wC(K:ak)(Y:L G)(E:XK):CO->TT
|.none=>λ_ H Q=>Q W H
|.some a=>wT K Y E a
def wG(K:ak)(Y:L G)(E:XK):CG->TG
|.a i=>λv U H Q=>Q (U.set i<|M v) H
|.b gs=>λv U H Q=>match v with
 |.a a=>WB K H a λt xs=>t=W/\zl xs=gs.len/\OT K Y E gs xs U H Q
 |_=>bu
|.c o i=>λv U H Q=>wE K Y E o U H λx H1=>wE K Y E i U H1 λy H2=>WE x y v H2<|Q U
def OT(K:ak)(Y:L G)(E:XK):vU->Lp
|.nil=>λvs U H Q=>match vs with
 |[]=>Q U H
 |_=>bu
|.cons g r=>λvs U H Q=>match vs with
 |v::vr=>wG K Y E g v U H fun σ' H'=>OT K Y E r vr σ' H' Q
 |_=>bu
def wI(K:ak)(Y:L G)(E:XK):CI->TIt
|.a a=>λU H k=>wE K Y E a U H λx H1=>Hj K x H1 k
|.b as=>λU H k=>wEs K Y E as U H λvs H1=>Fk vs H1 k
|.c a=>λU H k=>wE K Y E a U H λx H1=>match x with
 |.a b=>∃xs,Rd H1 b (.a xs)/\k (λH'=>Rd H' b<|.a xs) (qv 0 xs) H1
 |_=>bu
|.d a=>λU H k=>wE K Y E a U H λx H1=>match x with
 |.a b=>∃xs,Rd H1 b (.a xs)/\k (λH'=>Rd H' b<|.a xs) (xs.reverse.map .v) H1
 |_=>bu
end
noncomputable def LU(k i j:Nat):CE:=.d .NotEq (.i .g (.a k) #v[.a i,.a j])<|.a j
def LV(K:ak)(Y:L G)(c:Nat)(as:jQ)(x y:Nat)(e:CE):XK->St->Hp->(St->Hp->Prop)->Prop:=λE U H nx=>match Y[c]? with
|some (.a sp dvs)=>wEs K Y E0 as U H λvs H1=>sp (vs++dvs) H1 (λv H2=>wG K Y E0 (.a x) v U H2 fun σ2 H3=>wE K Y E0 e σ2 H3 λu H4=>wG K Y E0 (.a y) u σ2 H4 nx) E
|_=>bu
mutual
def wS(K:ak)(Y:L G)(E:XK):CS->TS
|.e e=>λD U H=>wE K Y E e U H λ_ H1=>D.nx U H1
|.c g e=>λD U H=>wE K Y E e U H λx H1=>wG K Y E g x U H1 D.nx
|.f i e=>λD U H=>wE K Y E e U H λx H1=>D.nx (U.set i<|M x) H1
|.g i e=>L2.ada i (wE K Y E e)<|L2.ipI λi j=>i+j
|.k g e=>λD U H=>wE K Y E e U H λx H1=>wG K Y E g x U H1 D.nx
|.a e=>λD U H=>wE K Y E e U H D.rt
|.l k i j a b=>λD U H=>wT K Y E (LU k i j) U H λk H1=>if k=W then wSs K Y E a D U H1 else wSs K Y E b D U H1
|.b c a b=>λD U H=>wT K Y E c U H λk H1=>if k=W then wSs K Y E a D U H1 else wSs K Y E b D U H1
|.i c b=>λD U H=>∃aad:Nat->St->Hp->Prop,(∃m,aad m U H)/\∀m U H,aad m U H->
  wT K Y E c U H λk H1=>if k=W then ∃N:St->Hp->Prop,(∀σ' H',N σ' H'->∃m',m'<m/\aad m' σ' H')/\wSs K Y E b { D with nx:=N,ct:=N,bk:=D.nx } U H1 else D.nx U H1
|.d g src b=>λD U H=>wI K Y E src U H λok items H1=>forL ok (wG K Y E g) (wSs K Y E b) D items U H1
|.n=>λD U H=>D.bk U H
|.m=>λD U H=>D.ct U H
|.h g=>λD U H=>match Y[g]? with
 |some (.b C)=>E (.ref C) B H
 |_=>bu
|.j i g x c as y e h=>λD U H=>match Y[g]? with
 |some (.i aaf _)=>LQ K i aaf (LV K Y c as x y e) (λe'=>wSs K (Y.map<|G.hand e') E0 h) D U H
 |_=>bu
def wSs(K:ak)(Y:L G)(E:XK):cI->TS
|.nil=>λD U H=>D.nx U H
|.cons s r=>λD U H=>wS K Y E s { D with nx:=wSs K Y E r D } U H
end
end L3
end
section
namespace L3
open PySem PySem.Spec PyProof.Rows L2
def jh.sq{K:ak}(h:jh K H a t xs):(t=J/\jg K H a xs)\/(t=W/\sF K H a xs):=by
 rcases h with h|⟨o,its,n,hk,hc,hd,hs,hz,r⟩
 .obtain⟨o,e,h⟩:=fL.mp h;have rd:Rd H a (unF o):=by
   cases o with
   |f ob u=>exact .inr #[ob,e]
   |_=>exact .inl e
  revert h rd;cases unF o<;>intro h rd<;>first|(cases h;done)|skip
  .cases h;exact .inl #[rfl,.inl rd]
  .cases h;exact .inr #[rfl,.inl rd]
 .cases t with
  |false=>exact .inl #[rfl,.inr #[o,its,n,hk,hc,hd,hs,hz,r]]
  |true=>exact .inr #[rfl,.inr #[o,its,n,hk,hc,hs,hz,r]]
def jh.sG{K:ak}(h:jh K H a W xs):sF K H a xs:=by
 rcases h.sq with⟨z,_⟩|⟨_,z⟩
 .cases z
 .exact z
def jh.OU{K:ak}(h:jh K H a J xs):jg K H a xs:=by
 rcases h.sq with⟨_,z⟩|⟨z,_⟩
 .exact z
 .cases z
section
variable{X:Cx}
def toList_replicate(j:Nat)(x:Str):(⟨(bl j x.cps).foldl (·++·) #[]⟩:Str)=⟨(bl j x.cps.toList).flatten.toArray⟩:=by
 have h:∀(j:Nat) (acc:Array Nat),((bl j x.cps).foldl (·++·) acc)=acc++(bl j x.cps.toList).flatten.toArray:=by
  intro j;induction j with
  |zero=>intro acc;simp
  |succ j ih=>
   intro acc;rw[eN,rZ,ih,eN,gJ];apply Sb;simp
 rw[h];simp
def QJ:mT X (jJ .Mult) (λx y H Q=>∃i j,x=.e i/\y=.b j/\(0<=j/\j<2 ^ 40/\i.length*j.toNat<=ao)/\Q (.e ⟨(bl j.toNat i.cps.toList).flatten.toArray⟩) H):=by
 intro pins s U H x y v u Q I rx ry h;let#[i,j,rfl,rfl,#[h0,h1,h2],q]:=h;let#[t,rfl]:=rx;let#[t',rfl]:=ry;have hs:=cB;refine SB.mul #[?_,λhn hc=>?_,λhn hc=>?_] λt' k=>#[.e<|Qk i j,H,I.tok _,#[_,rfl],?_]
 .have e1:decide (j < -(2 ^ 63:Int))=J:=aK (by lia);have e2:decide (j≥2 ^ 63)=J:=aK (by lia);rw[e1,e2];rfl
 .have hj:0<j:=by omega
  intro hgt;have h3:=hgt;have h4:=(Int.ediv_lt_iff_lt_mul hj).mp h3;have h5:((i.length*j.toNat:Nat):Int)=(i.length:Int)*j:=by
   rw[Int.natCast_mul,Int.toNat_of_nonneg h0]
  omega
 .unfold Sl;simp only[decide_eq_false_iff_not]
  lia
 .have e:Qk i j=⟨(bl j.toNat i.cps.toList).flatten.toArray⟩:=by
   unfold Qk;by_cases h3:j<1
   .have:j.toNat=0:=by lia
    rw[aQ h3,this];rfl
   .rw[aE h3];by_cases h4:(j==1||i.length==0)=W
    .rw[aQ h4];rw[sf]at h4;rcases h4 with h4|h4
     .have:j=1:=by simpa using h4
      subst this;simp
     .have h5:i.length=0:=by simpa using h4
      have h6:i.cps.toList=[]:=by
       apply h_;simpa[jq]using h5
      rw[h6];cases i with
      |mk c=>
       simp at h6;subst h6;simp
    .rw[aE h4,toList_replicate]
  rw[e];exact q
def Inv.rdl(I:L2.Inv X pins U H s)(hH:Rd H l<|.a xs):xs.length<=ao/\∃(its:L Z) (n:Nat),bO xs its/\xs.length=its.length/\s.heap.get? l=M { cls:=.type "list",data:=.seq its.toArray n }:=by
 let#[z,its,n,r,e]:=hH.ok I.hok;exact#[z,its,n,r,r.length,e]
def op_cat':mT X (jJ .Add) (λx y H Q=>∃l b xs zs,x=.a l/\y=.a b/\Rd H l (.a xs)/\Rd H b (.a zs)/\zl xs+zl zs<=ao/\∀p,H p=B->Q (.a p) (upd H p<|.a<|xs++zs)):=by
 intro pins s U H x y v u Q I rx ry h;let#[l,b,xs,zs,rfl,rfl,hH,hB,hz,q]:=h;cases rx;cases ry;let#[z,its,n,r,hl,e]:=Inv.rdl I hH;let#[z2,its2,n2,r2,hl2,e2]:=Inv.rdl I hB;refine Zx e e2 ?_ (by grind);have ea:its.toArray++its2.toArray=(its++its2).toArray:=by simp
 rw[ea];exact#[.a _,_,I.adA (r.append r2) (by rw[aW];omega),rfl,q _ I.fresh]
def op_rep':mT X (jJ .Mult) (λx y H Q=>∃l k xs,x=.a l/\y=.b k/\Rd H l (.a xs)/\-(2 ^ 63)<=k/\k<2 ^ 63/\zl xs*k.toNat<=ao/\∀p,H p=B->Q (.a p) (upd H p<|.a (bl k.toNat xs).flatten)):=by
 intro pins s U H x y v u Q I rx ry h;let#[l,k,xs,rfl,rfl,hH,h1,h2,hz,q]:=h;cases rx;let#[t,rfl]:=ry;let#[z,its,n,r,hl,e]:=Inv.rdl I hH;have hlen:its.toArray.size*k.toNat<=ao:=by rw[aT,<-hl];exact hz
 have hcap:¬its.toArray.size*k.toNat>(2 ^ 63-1) / 8:=by
  have:(ao:Nat)<=(2 ^ 63-1) / 8:=by decide
  lia
 have hfit:¬(!u5 k)=W:=by
  rw[Il h1 h2];exact aN
 have hlong:¬oV (its.toArray.size*k.toNat)=W:=by
  rw[LF hlen];exact aN
 have hnew:Az (λx1 x2=>x1++x2) #[] (bl (if its.toArray.isEmpty=W then 0 else k.toNat) its.toArray)=(bl k.toNat its).flatten.toArray:=by
  have f0:∀m:Nat,Az (λx1 x2=>x1++x2) #[] (bl m its.toArray)=(bl m its).flatten.toArray:=λm=>by
   have:=foldl_rep its m [];rw[lT]at this;exact this
  rw[f0];cases its with
  |nil=>simp
  |cons a r'=>rfl
 refine wpAny_binaryOp_repeat_ref (by decide) #[_,e,rfl] (λs'=>GV s' k t) noFill_list_mul F.fills_int_mul F.slot_int_rmul repeat_list F.slot_int_index.lookup
  (lR F.slot_int_rmul (GV s k t) F.entry_int_rmul (F.args_int_rmul_2 _ _) (int___rmul___int_list k t l its.toArray n)
   #[e,rfl,#[_,e,rfl],lR F.slot_list_mul #[_,e,rfl] F.entry_list_mul (F.args_list_mul_2 _ _) (Ed l its.toArray n k t hfit hcap hlong) #[e,?_]])
 rw[hnew];exact#[.a _,_,I.adA (r.rep k.toNat) (by rw[len_rep,Nat.mul_comm];exact hz),rfl,q _ I.fresh]
def af7(op:Ax):mT X (jJ op) (WC X.K op):=by
 intro pins s U H x y v u Q I rx ry h;cases op with
 |Add=>
  rcases h with h|h|h|⟨a,b,xs,ys,e1,e2,h1,h2,h3,h4,h5,h6⟩
  .exact adj pins s U H _ _ v u Q I rx ry h
  .exact Qs pins s U H _ _ v u Q I rx ry h
  .exact op_cat' pins s U H _ _ v u Q I rx ry h
  .exact aaZ pins s U H _ _ v u Q I rx ry #[_,_,xs,ys,e1,e2,h1.sG,h2.sG,h3,h5,λz=>aC z h4,λ_=>h6]
 |Sub=>exact adk pins s U H _ _ v u Q I rx ry h
 |Mult=>
  rcases h with h|h|h
  .exact adl pins s U H _ _ v u Q I rx ry h
  .exact QJ pins s U H _ _ v u Q I rx ry h
  .exact op_rep' pins s U H _ _ v u Q I rx ry h
 |FloorDiv=>exact aaS pins s U H _ _ v u Q I rx ry h
 |Mod=>exact adm pins s U H _ _ v u Q I rx ry h
 |Pow=>exact adn pins s U H _ _ v u Q I rx ry h
 |_=>cases h
section
open PySem.SeqAt
variable{pins:L (Addr×Obj)}{U:L2.St}{H:Hp}{s:aj}
theorem aR.len'{K:ak}:∀{ds:L D}{vs:L V},aR K H ds vs->zl vs=zl ds
|[],_,h=>by cases h;rfl
|d::ds,_,h=>by
 let#[v,r,rfl,_,h3]:=h;simp[aR.len' h3]
def Rd.sX{K:ak}(h:Rd H a<|.a xs):jg K H a xs:=.inl h
mutual
theorem Hl(I:L2.Inv X pins U H s):∀(dx dy:D) (v:V) (n m:Nat),oB dx n=W->oB dy m=W->bf X.K H dx v->bf X.K H dy v->k_ dx dy=W
|.g,dy,v,n,m,hn,hm,r,q=>by
 cases r;cases dy with
 |g=>rfl
 |c z=>cases q.1
 |b o es=>let#[a,vs,z,_]:=q;cases z
 |d es=>let#[a,vs,z,_]:=q;cases z
 |f o ks es=>cases hm
 |j=>cases hm
 |h o ks es=>cases hm
 |i C ks es=>cases hm
 |_=>cases q
|.e b,dy,v,n,m,hn,hm,r,q=>by
 cases r;cases dy with
 |e c=>cases q;exact jL _
 |c z=>cases q.1
 |b o es=>let#[a,vs,z,_]:=q;cases z
 |d es=>let#[a,vs,z,_]:=q;cases z
 |f o ks es=>cases hm
 |j=>cases hm
 |h o ks es=>cases hm
 |i C ks es=>cases hm
 |_=>cases q
|.a b,dy,v,n,m,hn,hm,r,q=>by
 cases r;cases dy with
 |a c=>cases q;exact jL _
 |c z=>cases q.1
 |b o es=>let#[a,vs,z,_]:=q;cases z
 |d es=>let#[a,vs,z,_]:=q;cases z
 |f o ks es=>cases hm
 |j=>cases hm
 |h o ks es=>cases hm
 |i C ks es=>cases hm
 |_=>cases q
|.c b,dy,v,n,m,hn,hm,r,q=>by
 let#[rfl,_]:=r;cases dy with
 |c c=>cases q.1;exact jL _
 |b o es=>let#[a,vs,z,_]:=q;cases z
 |d es=>let#[a,vs,z,_]:=q;cases z
 |f o ks es=>cases hm
 |j=>cases hm
 |h o ks es=>cases hm
 |i C ks es=>cases hm
 |_=>cases q
|.b o ds,dy,v,n,m,hn,hm,r,q=>by
 let#[a,vs,rfl,h2,h3,h4]:=r;cases n with
 |zero=>cases hn
 |succ n=>
 cases dy with
 |b o' es=>
  let#[a',us,e,k2,k3,k4]:=q;cases e;cases m with
  |zero=>cases hm
  |succ m=>
  have e:=I.zQ (Rd.sX h2)<|Rd.sX k2;subst e;exact En I ds es vs n m hn hm h4 k4
 |d es=>
  let#[a',us,e,k2,k3,k4]:=q;cases e;let#[its,_,#[o1,n1,e1,c1,_],_]:=I.list<|Rd.sX h2;let#[its2,_,#[o2,e2,c2,_],_]:=I.tuple (tupS k2).sG;rw[e1]at e2;cases e2;rw[c1]at c2;exact aC c2<|by decide
 |c z=>cases q.1
 |f o ks es=>cases hm
 |j=>cases hm
 |h o ks es=>cases hm
 |i C ks es=>cases hm
 |_=>cases q
|.d ds,dy,v,n,m,hn,hm,r,q=>by
 let#[a,vs,rfl,h2,h3,h4]:=r;cases n with
 |zero=>cases hn
 |succ n=>
 cases dy with
 |d es=>
  let#[a',us,e,k2,k3,k4]:=q;cases e;cases m with
  |zero=>cases hm
  |succ m=>
  have e:=I.IB (tupS h2).sG (tupS k2).sG;subst e;exact En I ds es vs n m hn hm h4 k4
 |b o es=>
  let#[a',us,e,k2,k3,k4]:=q;cases e;let#[its,_,#[o1,n1,e1,c1,_],_]:=I.list<|Rd.sX k2;let#[its2,_,#[o2,e2,c2,_],_]:=I.tuple (tupS h2).sG;rw[e1]at e2;cases e2;rw[c1]at c2;exact aC c2<|by decide
 |c z=>cases q.1
 |f o ks es=>cases hm
 |j=>cases hm
 |h o ks es=>cases hm
 |i C ks es=>cases hm
 |_=>cases q
|.f _ _ _,dy,v,n,m,hn,hm,r,q=>by cases hn
|.j,dy,v,n,m,hn,hm,r,q=>by cases hn
|.h _ _ _,dy,v,n,m,hn,hm,r,q=>by cases hn
|.i _ _ _,dy,v,n,m,hn,hm,r,q=>by cases hn
theorem En(I:L2.Inv X pins U H s):∀(ds es:L D) (vs:L V) (n m:Nat),j8 ds n=W->j8 es m=W->aR X.K H ds vs->aR X.K H es vs->nL ds es=W
|[],es,vs,n,m,hn,hm,r,q=>by
 cases r;cases es with
 |nil=>rfl
 |cons e es=>let#[_,_,z,_]:=q;cases z
|d::ds,es,vs,n,m,hn,hm,r,q=>by
 let#[v,r',rfl,r1,r2]:=r;cases es with
 |nil=>cases q
 |cons e es=>
  let#[w,q',z,q1,q2]:=q;cases z;have hn':oB d n=W/\j8 ds n=W:=aS.mp hn;have hm':oB e m=W/\j8 es m=W:=aS.mp hm;show(k_ d e&&nL ds es)=W;rw[Hl I d e v n m hn'.1 hm'.1 r1 q1,En I ds es r' n m hn'.2 hm'.2 r2 q2];rfl
end
structure Eqs (A:b7) (s:aj) (v u:Z) (b:Bool):Prop where
 eq:EqAt A s v u b
 rc:RcAt A s v u b
 ne:RcNeAt A s v u (!b)
def sY(A:b7)(s:aj):L D->L D->L Z->L Z->Prop
|d::ds,e::es,v::vs,u::us=>EqAt A s v u (k_ d e)/\sY A s ds es vs us
|_,_,_,_=>True
theorem sY.get:∀{ds es:L D}{vs us:L Z} (j:Nat) {d e:D}{v u:Z},sY A s ds es vs us->ds[j]?=M d->es[j]?=M e->vs[j]?=M v->us[j]?=M u->EqAt A s v u (k_ d e)
|d::ds,e::es,v::vs,u::us,0,_,_,_,_,h,a,b,c,f=>by
 simp at a b c f;subst a b c f;exact h.1
|d::ds,e::es,v::vs,u::us,j+1,_,_,_,_,h,a,b,c,f=>sY.get j h.2 (by simpa using a) (by simpa using b) (by simpa using c)<|by simpa using f
|[],_,_,_,j,_,_,_,_,_,a,_,_,_=>by simp at a
|_::_,[],_,_,j,_,_,_,_,_,_,b,_,_=>by simp at b
|_::_,_::_,[],_,j,_,_,_,_,_,_,_,c,_=>by simp at c
|_::_,_::_,_::_,[],j,_,_,_,_,_,_,_,_,f=>by simp at f
def eqAt'(ds es:L D)(j:Nat):Bool:=match ds[j]?,es[j]? with
|some d,M e=>k_ d e
|_,_=>W
theorem Eo:∀(ds es:L D),zl ds=zl es->(bg<|zl ds).all (eqAt' ds es)=nL ds es
|[],[],_=>rfl
|d::ds,e::es,h=>by
 have ih:=Eo ds es (by simpa using h);rw[eY,List.range_succ_eq_map,iU,wW];show(k_ d e&&(bg<|zl ds).all (eqAt' (d::ds) (e::es)∘Nat.succ))=(k_ d e&&nL ds es);rw[<-ih];congr 1
|[],_::_,h=>by simp at h
|_::_,[],h=>by simp at h
theorem Ep:∀(ds es:L D),zl ds≠zl es->nL ds es=J
|[],[],h=>aC rfl h
|[],_::_,_=>rfl
|_::_,[],_=>rfl
|d::ds,e::es,h=>by
 show(k_ d e&&nL ds es)=J;rw[Ep ds es λz=>h<|by simp[z]];simp
def Tf(hl:s.heap.IsList a its.toArray)(hb:s.heap.IsList b its2.toArray)(l1:zl its=zl ds)(l2:zl its2=zl es)(hu:A.units<fy)(he:sY A.in1 s ds es its its2):RcAt A s (.ref a) (.ref b) (nL ds es)/\RcNeAt A s (.ref a) (.ref b) (!nL ds es):=by
 by_cases hz:zl ds=zl es
 .have hsz:its.toArray.size=its2.toArray.size:=by simp;lia
  have he':∀j (h1:j<its.toArray.size) (h2:j<its2.toArray.size),EqAt A.in1 s its.toArray[j] its2.toArray[j] (eqAt' ds es j):=by
   intro j h1 h2;have g1:j<zl its:=by simpa using h1
   have g2:j<zl its2:=by simpa using h2
   have e1:=aB (l:=ds) (i:=j) (by lia);have e2:=aB (l:=es) (i:=j) (by lia);have:=he.get j e1 e2 (aB g1)<|aB g2;unfold eqAt';rw[e1,e2];simpa using this
  have r1:=RcAt.lists hl hb hsz hu he';have r2:=RcNeAt.lists hl hb hsz hu he';have ez:its.toArray.size=zl ds:=by simp;omega
  rw[ez,Eo ds es hz]at r1 r2;exact#[r1,r2]
 .have hsz:(its.toArray.size != its2.toArray.size)=W:=by simp;lia
  rw[Ep ds es hz];exact#[RcAt.lists_lengths hl hb hsz hu,RcNeAt.lists_lengths hl hb hsz hu]
def QK(hl:s.heap.IsTuple a its.toArray)(hb:s.heap.IsTuple b its2.toArray)(l1:zl its=zl ds)(l2:zl its2=zl es)(hu:A.units<fy)(he:sY A.in1 s ds es its its2):RcAt A s (.ref a) (.ref b) (nL ds es)/\RcNeAt A s (.ref a) (.ref b) (!nL ds es):=by
 have he':∀j (h1:j<its.toArray.size) (h2:j<its2.toArray.size),EqAt A.in1 s its.toArray[j] its2.toArray[j] (eqAt' ds es j):=by
  intro j h1 h2;have g1:j<zl its:=by simpa using h1
  have g2:j<zl its2:=by simpa using h2
  have e1:=aB (l:=ds) (i:=j) (by lia);have e2:=aB (l:=es) (i:=j) (by lia);have:=he.get j e1 e2 (aB g1)<|aB g2;unfold eqAt';rw[e1,e2];simpa using this
 have r1:=RcAt.tuples hl hb hu he';have r2:=RcNeAt.tuples hl hb hu he';have key:((bg<|min its.toArray.size its2.toArray.size).all (eqAt' ds es)&&its.toArray.size==its2.toArray.size)=nL ds es:=by
  by_cases hz:zl ds=zl es
  .have e1:min its.toArray.size its2.toArray.size=zl ds:=by simp;lia
   have e2:(its.toArray.size==its2.toArray.size)=W:=by simp;lia
   rw[e1,e2,Eo ds es hz,qJ]
  .have e2:(its.toArray.size==its2.toArray.size)=J:=by simp;lia
   rw[e2,pK,Ep ds es hz]
 rw[key]at r1 r2;exact#[r1,r2]
def PlainL.is(p:PlainL h a its):h.IsList a its:=by
 let#[o,n,e,c,_,d]:=p;exact#[o,e,c,n,d]
def IsTup.is(p:IsTup h a its):h.IsTuple a its:=p
mutual
theorem KR(I:L2.Inv X pins U H s):∀(dx dy:D) (n m:Nat) (x y:V) (v u:Z) (A:b7),oB dx n=W->oB dy m=W->bf X.K H dx x->L2.RelV x v->bf X.K H dy y->L2.RelV y u->A.units+n<fy->Eqs A s v u (k_ dx dy)
|.g,dy,n,m,x,y,v,u,A,hn,hm,r,rv,q,qu,hu=>by
 have hu':A.units<fy:=by omega
 cases r;cases rv;cases dy with
 |g=>cases q;cases qu;exact#[EqAt.same _,RcAt.none_none,RcNeAt.none_none]
 |e b=>cases q;cases qu;exact#[EqAt.none_bool b,RcAt.none_bool b,RcNeAt.none_bool b]
 |a i=>cases q;let#[t,rfl]:=qu;exact#[EqAt.none_int i t,RcAt.none_int i t,RcNeAt.none_int i t]
 |c z=>let#[rfl,_]:=q;let#[t,rfl]:=qu;exact#[EqAt.none_str z t,RcAt.none_str z t,RcNeAt.none_str z t]
 |b o es=>
  let#[b,us,rfl,k2,k3,k4]:=q;cases qu;let#[its,_,p,_]:=I.list<|Rd.sX k2;exact#[EqAt.none_list (PlainL.is p) hu',RcAt.none_list (PlainL.is p) hu',RcNeAt.none_list (PlainL.is p) hu']
 |d es=>
  let#[b,us,rfl,k2,k3,k4]:=q;cases qu;let#[its,_,p,_]:=I.tuple (tupS k2).sG;exact#[EqAt.none_tuple (IsTup.is p) hu',RcAt.none_tuple (IsTup.is p) hu',RcNeAt.none_tuple (IsTup.is p) hu']
 |f _ _ _=>cases hm
 |j=>cases hm
 |h _ _ _=>cases hm
 |i _ _ _=>cases hm
|.e a,dy,n,m,x,y,v,u,A,hn,hm,r,rv,q,qu,hu=>by
 have hu':A.units<fy:=by omega
 cases r;cases rv;cases dy with
 |g=>cases q;cases qu;exact#[EqAt.bool_none a,RcAt.bool_none a,RcNeAt.bool_none a]
 |e b=>cases q;cases qu;exact#[EqAt.bool_bool a b,RcAt.bool_bool a b,RcNeAt.bool_bool a b]
 |a i=>cases q;let#[t,rfl]:=qu;exact#[EqAt.bool_int a i t,RcAt.bool_int a i t,RcNeAt.bool_int a i t]
 |c z=>let#[rfl,_]:=q;let#[t,rfl]:=qu;exact#[EqAt.bool_str a z t,RcAt.bool_str a z t,RcNeAt.bool_str a z t]
 |b o es=>
  let#[b,us,rfl,k2,k3,k4]:=q;cases qu;let#[its,_,p,_]:=I.list<|Rd.sX k2;exact#[EqAt.bool_list a (PlainL.is p) hu',RcAt.bool_list a (PlainL.is p) hu',RcNeAt.bool_list a (PlainL.is p) hu']
 |d es=>
  let#[b,us,rfl,k2,k3,k4]:=q;cases qu;let#[its,_,p,_]:=I.tuple (tupS k2).sG;exact#[EqAt.bool_tuple a (IsTup.is p) hu',RcAt.bool_tuple a (IsTup.is p) hu',RcNeAt.bool_tuple a (IsTup.is p) hu']
 |f _ _ _=>cases hm
 |j=>cases hm
 |h _ _ _=>cases hm
 |i _ _ _=>cases hm
|.a a,dy,n,m,x,y,v,u,A,hn,hm,r,rv,q,qu,hu=>by
 have hu':A.units<fy:=by omega
 cases r;let#[tt,rfl]:=rv;cases dy with
 |g=>cases q;cases qu;exact#[EqAt.int_none a tt,RcAt.int_none a tt,RcNeAt.int_none a tt]
 |e b=>cases q;cases qu;exact#[EqAt.int_bool a tt b,RcAt.int_bool a tt b,RcNeAt.int_bool a tt b]
 |a i=>cases q;let#[t,rfl]:=qu;exact#[EqAt.int_int a tt i t,RcAt.int_int a tt i t,RcNeAt.int_int a tt i t]
 |c z=>let#[rfl,_]:=q;let#[t,rfl]:=qu;exact#[EqAt.int_str a tt z t,RcAt.int_str a tt z t,RcNeAt.int_str a tt z t]
 |b o es=>
  let#[b,us,rfl,k2,k3,k4]:=q;cases qu;let#[its,_,p,_]:=I.list<|Rd.sX k2;exact#[EqAt.int_list a tt (PlainL.is p) hu',RcAt.int_list a tt (PlainL.is p) hu',RcNeAt.int_list a tt (PlainL.is p) hu']
 |d es=>
  let#[b,us,rfl,k2,k3,k4]:=q;cases qu;let#[its,_,p,_]:=I.tuple (tupS k2).sG;exact#[EqAt.int_tuple a tt (IsTup.is p) hu',RcAt.int_tuple a tt (IsTup.is p) hu',RcNeAt.int_tuple a tt (IsTup.is p) hu']
 |f _ _ _=>cases hm
 |j=>cases hm
 |h _ _ _=>cases hm
 |i _ _ _=>cases hm
|.c a,dy,n,m,x,y,v,u,A,hn,hm,r,rv,q,qu,hu=>by
 have hu':A.units<fy:=by omega
 let#[rfl,_]:=r;let#[tt,rfl]:=rv;cases dy with
 |g=>cases q;cases qu;exact#[EqAt.str_none a tt,RcAt.str_none a tt,RcNeAt.str_none a tt]
 |e b=>cases q;cases qu;exact#[EqAt.str_bool a tt b,RcAt.str_bool a tt b,RcNeAt.str_bool a tt b]
 |a i=>cases q;let#[t,rfl]:=qu;exact#[EqAt.str_int a tt i t,RcAt.str_int a tt i t,RcNeAt.str_int a tt i t]
 |c z=>let#[rfl,_]:=q;let#[t,rfl]:=qu;exact#[EqAt.str_str a tt z t,RcAt.str_str a tt z t,RcNeAt.str_str a tt z t]
 |b o es=>
  let#[b,us,rfl,k2,k3,k4]:=q;cases qu;let#[its,_,p,_]:=I.list<|Rd.sX k2;exact#[EqAt.str_list a tt (PlainL.is p) hu',RcAt.str_list a tt (PlainL.is p) hu',RcNeAt.str_list a tt (PlainL.is p) hu']
 |d es=>
  let#[b,us,rfl,k2,k3,k4]:=q;cases qu;let#[its,_,p,_]:=I.tuple (tupS k2).sG;exact#[EqAt.str_tuple a tt (IsTup.is p) hu',RcAt.str_tuple a tt (IsTup.is p) hu',RcNeAt.str_tuple a tt (IsTup.is p) hu']
 |f _ _ _=>cases hm
 |j=>cases hm
 |h _ _ _=>cases hm
 |i _ _ _=>cases hm
|.b o ds,dy,n,m,x,y,v,u,A,hn,hm,r,rv,q,qu,hu=>by
 have hu':A.units<fy:=by omega
 have hr:=r;let#[a,vs,rfl,h2,h3,h4]:=r;cases rv;let#[its,rits,p,_]:=I.list<|Rd.sX h2;have hn0:=hn;cases n with
 |zero=>cases hn
 |succ n=>
 cases dy with
 |g=>cases q;cases qu;exact#[EqAt.list_none (PlainL.is p) hu',RcAt.list_none (PlainL.is p) hu',RcNeAt.list_none (PlainL.is p) hu']
 |e b=>cases q;cases qu;exact#[EqAt.list_bool b (PlainL.is p) hu',RcAt.list_bool b (PlainL.is p) hu',RcNeAt.list_bool b (PlainL.is p) hu']
 |a i=>cases q;let#[t,rfl]:=qu;exact#[EqAt.list_int i t (PlainL.is p) hu',RcAt.list_int i t (PlainL.is p) hu',RcNeAt.list_int i t (PlainL.is p) hu']
 |c z=>let#[rfl,_]:=q;let#[t,rfl]:=qu;exact#[EqAt.list_str z t (PlainL.is p) hu',RcAt.list_str z t (PlainL.is p) hu',RcNeAt.list_str z t (PlainL.is p) hu']
 |b o' es=>
  have hq:=q;let#[b,us,rfl,k2,k3,k4]:=q;cases qu;let#[its2,rits2,p2,_]:=I.list<|Rd.sX k2;have hm0:=hm;cases m with
  |zero=>cases hm
  |succ m=>
  let#[r1,r2]:=Tf (A:=A) (ds:=ds) (es:=es) (PlainL.is p) (PlainL.is p2) (by rw[<-rits.length,aR.len' h4]) (by rw[<-rits2.length,aR.len' k4]) hu' (LW I ds es n m vs us its its2 A.in1 hn hm h4 rits k4 rits2 (by show A.units+1+n<fy;omega));refine#[?_,r1,r2];by_cases e:a=b
  .subst e;have z:=Hl I (.b o ds) (.b o' es) (.a a) (n+1) (m+1) hn0 hm0 hr hq;rw[z];exact EqAt.same _
  .exact EqAt.of_refs e r1
 |d es=>
  let#[b,us,rfl,k2,k3,k4]:=q;cases qu;let#[its2,_,p2,_]:=I.tuple (tupS k2).sG;exact#[EqAt.list_tuple (PlainL.is p) (IsTup.is p2) hu',RcAt.list_tuple (PlainL.is p) (IsTup.is p2) hu',RcNeAt.list_tuple (PlainL.is p) (IsTup.is p2) hu']
 |f _ _ _=>cases hm
 |j=>cases hm
 |h _ _ _=>cases hm
 |i _ _ _=>cases hm
|.d ds,dy,n,m,x,y,v,u,A,hn,hm,r,rv,q,qu,hu=>by
 have hu':A.units<fy:=by omega
 have hr:=r;let#[a,vs,rfl,h2,h3,h4]:=r;cases rv;let#[its,rits,p,_]:=I.tuple (tupS h2).sG;have hn0:=hn;cases n with
 |zero=>cases hn
 |succ n=>
 cases dy with
 |g=>cases q;cases qu;exact#[EqAt.tuple_none (IsTup.is p) hu',RcAt.tuple_none (IsTup.is p) hu',RcNeAt.tuple_none (IsTup.is p) hu']
 |e b=>cases q;cases qu;exact#[EqAt.tuple_bool b (IsTup.is p) hu',RcAt.tuple_bool b (IsTup.is p) hu',RcNeAt.tuple_bool b (IsTup.is p) hu']
 |a i=>cases q;let#[t,rfl]:=qu;exact#[EqAt.tuple_int i t (IsTup.is p) hu',RcAt.tuple_int i t (IsTup.is p) hu',RcNeAt.tuple_int i t (IsTup.is p) hu']
 |c z=>let#[rfl,_]:=q;let#[t,rfl]:=qu;exact#[EqAt.tuple_str z t (IsTup.is p) hu',RcAt.tuple_str z t (IsTup.is p) hu',RcNeAt.tuple_str z t (IsTup.is p) hu']
 |d es=>
  have hq:=q;let#[b,us,rfl,k2,k3,k4]:=q;cases qu;let#[its2,rits2,p2,_]:=I.tuple (tupS k2).sG;have hm0:=hm;cases m with
  |zero=>cases hm
  |succ m=>
  let#[r1,r2]:=QK (A:=A) (ds:=ds) (es:=es) (IsTup.is p) (IsTup.is p2) (by rw[<-rits.length,aR.len' h4]) (by rw[<-rits2.length,aR.len' k4]) hu' (LW I ds es n m vs us its its2 A.in1 hn hm h4 rits k4 rits2 (by show A.units+1+n<fy;omega));refine#[?_,r1,r2];by_cases e:a=b
  .subst e;have z:=Hl I (.d ds) (.d es) (.a a) (n+1) (m+1) hn0 hm0 hr hq;rw[z];exact EqAt.same _
  .exact EqAt.of_refs e r1
 |b o es=>
  let#[b,us,rfl,k2,k3,k4]:=q;cases qu;let#[its2,_,p2,_]:=I.list<|Rd.sX k2;exact#[EqAt.tuple_list (IsTup.is p) (PlainL.is p2) hu',RcAt.tuple_list (IsTup.is p) (PlainL.is p2) hu',RcNeAt.tuple_list (IsTup.is p) (PlainL.is p2) hu']
 |f _ _ _=>cases hm
 |j=>cases hm
 |h _ _ _=>cases hm
 |i _ _ _=>cases hm
|.f _ _ _,dy,n,m,x,y,v,u,A,hn,hm,r,rv,q,qu,hu=>by cases hn
|.j,dy,n,m,x,y,v,u,A,hn,hm,r,rv,q,qu,hu=>by cases hn
|.h _ _ _,dy,n,m,x,y,v,u,A,hn,hm,r,rv,q,qu,hu=>by cases hn
|.i _ _ _,dy,n,m,x,y,v,u,A,hn,hm,r,rv,q,qu,hu=>by cases hn
theorem LW(I:L2.Inv X pins U H s):∀(ds es:L D) (n m:Nat) (vs us:L V) (its its2:L Z) (A:b7),j8 ds n=W->j8 es m=W->aR X.K H ds vs->bO vs its->aR X.K H es us->bO us its2->A.units+n<fy->sY A s ds es its its2
|[],es,n,m,vs,us,its,its2,A,hn,hm,r,rv,q,qu,hu=>by cases its<;>trivial
|d::ds,[],n,m,vs,us,its,its2,A,hn,hm,r,rv,q,qu,hu=>by cases its<;>trivial
|d::ds,e::es,n,m,vs,us,its,its2,A,hn,hm,r,rv,q,qu,hu=>by
 have hn':oB d n=W/\j8 ds n=W:=aS.mp hn;have hm':oB e m=W/\j8 es m=W:=aS.mp hm;let#[x,vr,rfl,r1,r2]:=r;let#[y,ur,rfl,q1,q2]:=q;cases rv with
 |cons rv1 rv2=>
  cases qu with
  |cons qu1 qu2=>
   exact#[(KR I d e n m x y _ _ A hn'.1 hm'.1 r1 rv1 q1 qu1 hu).eq,LW I ds es n m vr ur _ _ A hn'.2 hm'.2 r2 rv2 q2 qu2 hu]
end
end
def af8(hu:X.A.units+60<fy):mT X (kh .Eq) (λx y H Q=>∃dx dy,bf X.K H dx x/\bf X.K H dy y/\gP dx=W/\gP dy=W/\Q (.c<|k_ dx dy) H):=by
 intro pins s U H x y v u Q I rx ry h;let#[dx,dy,h1,h2,h3,h4,q]:=h;exact(KR I dx dy 12 12 x y v u X.A h3 h4 h1 rx h2 ry<|by lia).rc X.prog X.w X.xe _ #[.c<|k_ dx dy,H,I,rfl,q]
def af9(hu:X.A.units+60<fy):mT X (kh .NotEq) (λx y H Q=>∃dx dy,bf X.K H dx x/\bf X.K H dy y/\gP dx=W/\gP dy=W/\Q (.c<|!k_ dx dy) H):=by
 intro pins s U H x y v u Q I rx ry h;let#[dx,dy,h1,h2,h3,h4,q]:=h;exact(KR I dx dy 12 12 x y v u X.A h3 h4 h1 rx h2 ry<|by lia).ne X.prog X.w X.xe _ #[.c<|!k_ dx dy,H,I,rfl,q]
def Tg:∀(ds:L D) (its:L Z),zl its=zl ds->(∀(j:Nat) d v,ds[j]?=M d->its[j]?=M v->wX A s v x (k_ d dx))->
  ∃e:Z->Bool,(∀y,y∈its.toArray->wX A s y x (e y))/\its.toArray.any e=memD dx ds:=by
 intro ds its hl he
 classical
 refine#[λv=>decide (∃(j:Nat) (d:D),its[j]?=M v/\ds[j]?=M d/\k_ d dx=W),λy hy=>?_,?_]
 .have hy:y∈its:=by simpa using hy
  let#[j,hj,ej]:=iO hy;dsimp only;by_cases h:∃(j:Nat) (d:D),its[j]?=M y/\ds[j]?=M d/\k_ d dx=W
  .rw[aA h];let#[k,d,h1,h2,h3]:=h;have:=he k d y h2 h1;rw[h3]at this;exact this
  .rw[aK h];have e1:ds[j]?=M ds[j]:=aB (by omega);have e2:its[j]?=M y:=by rw[aB hj,ej]
   have:=he j _ y e1 e2;cases q:k_ ds[j] dx with
   |true=>exact aC #[j,_,e2,e1,q] h
   |false=>rw[q]at this;exact this
 .rw[xR];unfold memD;simp only[List.any_toArray,dX,iJ];constructor
  .rintro⟨v,_,j,d,h1,h2,h3⟩;exact#[d,jo h2,h3]
  .rintro⟨d,hd,h3⟩;let#[j,hj,ej]:=iO hd;have g1:its[j]?=M its[j]:=aB (by omega);exact#[its[j],bY _,j,d,g1,by rw[aB hj,ej],h3]
theorem Er(hu:X.A.units+60<fy)(I:L2.Inv X pins U H s)(rx:bf X.K H dx x)(rv:L2.RelV x v)(hx:oB dx 12=W):∀{ds:L D}{xs:L V}{its:L Z},aR X.K H ds xs->bO xs its->j8 ds 12=W->∀(j:Nat) d w,ds[j]?=M d->its[j]?=M w->wX X.A.in1 s w v (k_ d dx)
|[],_,_,_,_,_,j,d,w,h,_=>by simp at h
|e::ds,_,_,r,rr,ho,j,d,w,h1,h2=>by
 let#[y,ys,rfl,r1,r2]:=r;have ho':oB e 12=W/\j8 ds 12=W:=aS.mp ho;cases rr with
 |cons ra rb=>
  cases j with
  |zero=>
   simp at h1 h2;subst h1 h2;exact(KR I e dx 12 12 y x _ v X.A.in1 ho'.1 hx r1 ra rx rv (by show X.A.units+1+12<fy;omega)).eq
  |succ j=>exact Er hu I rx rv hx r2 rb ho'.2 j d w (by simpa using h1)<|by simpa using h2
set_option tactic.hygienic true in
def C_(hu:X.A.units+60<fy)(op:AE):mT X (kh op) (qM X.K op):=by
 intro pins s U H x y v u Q I rx ry h;cases op<;>first|exact h.elim|skip
 case Lt=>exact afU pins s U H _ _ v u Q I rx ry h
 case LtE=>exact afV pins s U H _ _ v u Q I rx ry h
 case Gt=>exact afW pins s U H _ _ v u Q I rx ry h
 case Eq=>exact af8 hu pins s U H _ _ v u Q I rx ry h
 case NotEq=>exact af9 hu pins s U H _ _ v u Q I rx ry h
 case Is=>exact adp pins s U H _ _ v u Q I rx ry h
 case IsNot=>exact aaT pins s U H _ _ v u Q I rx ry h
 all_goals
  let#[a,rfl,h]:=h;cases(show u=bH a from ry);rcases h with⟨t,xs,dx,ds,hx,h1,h2,h3,h4,q⟩|⟨kvs,k,hk,rfl,q⟩|⟨kvs,k,b,hk,rfl,hb,q⟩;rcases t with _|_
  .obtain⟨its,r,p,_⟩:=I.list hx.OU;let#[e,e1,e2]:=Tg (A:=X.A.in1) (s:=s) (x:=v) (dx:=dx) ds its (by rw[<-r.length,aR.len' h2])<|Er hu I h1 rx h3 h2 r h4;rw[<-e2]at q
   first|exact Ql e (PlainL.is p) e1 ⟨.c _,H,I,rfl,q⟩|exact Ny e (PlainL.is p) e1 ⟨.c _,H,I,rfl,q⟩
  .obtain⟨its,r,p,_⟩:=I.tuple hx.sG;let#[e,e1,e2]:=Tg (A:=X.A.in1) (s:=s) (x:=v) (dx:=dx) ds its (by rw[<-r.length,aR.len' h2])<|Er hu I h1 rx h3 h2 r h4;rw[<-e2]at q
   first|exact OA e (IsTup.is p) e1 ⟨.c _,H,I,rfl,q⟩|exact Lg e (IsTup.is p) e1 ⟨.c _,H,I,rfl,q⟩
  .have w:Bs H a (kV k) (gc kvs k):=.inl #[kvs,k,hk,rfl,rfl]
   first|exact adB (by omega) I w rx λs3 I3=>#[.c _,H,I3,rfl,q]|exact OQ (by omega) I w rx λs3 I3=>#[.c _,H,I3,rfl,q]
  .have w:Bs H a (.a b) (gc kvs k):=.inr #[kvs,k,b,hk,rfl,hb,rfl]
   first|exact adB (by omega) I w rx λs3 I3=>#[.c _,H,I3,rfl,q]|exact OQ (by omega) I w rx λs3 I3=>#[.c _,H,I3,rfl,q]
def ZP:TruR X (λx H Q=>mW X.K x H λb=>Q b H):=by
 intro pins s U H x v Q I rx h;cases x with
 |c b=>cases rx;exact iK #[H,I,h]
 |_=>cases h
def OV(hu:X.A.units+60<fy):ON X (λx y H Q=>∃a v,x=.a a/\Bs H a y (M v)/\Q v H):=by
 intro value slice pins s U H x y v u Q I rx ry h hs;let#[a,z,rfl,g,q]:=h;cases(show v=bH a from rx);have hT:=NX I g;unfold Ku;refine ah ?_;rw[getitemInPython_of_ne hT.not_modules];refine ah<|n_ hT Lh.lookup ?_;have fin:aG (aJ X.prog X.w) X.A (Eb slice J (.ref a) u) (λr ajp=>aG (aJ X.prog X.w) X.A (letTemporaryGo value (.ref a) r >>= λ_=>pure r) (EP X pins U Q) X.xe ajp) X.xe s:=by
  rw[hs];exact wpAny_operating (d9 (SR (by lia) I g ry λw' s3 I3 rw'=>(#[z,H,I3,rw',q]:EP X pins U Q w' s3)) (λr ajp ajt=>ah<|wpAny_letTemporaryGo<|au ajt) λ_ _ x=>x)
 first
  |exact au<|ah fin
  |exact ah<|au<|ah fin
  |exact ah fin
def ixOk(hu:X.A.units+60<fy):ON X (ZM X.K):=by
 intro value slice pins s U H x y v u Q I rx ry h;rcases h with h|⟨a,t,xs,i,w,e1,e2,hx,e,q⟩|⟨a,kvs,k,w,e1,hk,e2,e,q⟩|⟨a,kvs,k,b,w,e1,hk,e2,hb,e,q⟩
 .exact ady value slice pins s U H _ _ v u Q I rx ry h
 .rcases hx.sq with⟨_,z⟩|⟨_,z⟩
  .exact aa0 value slice pins s U H _ _ v u Q I rx ry #[_,xs,_,w,e1,e2,z,e,q]
  .exact adx value slice pins s U H _ _ v u Q I rx ry #[_,xs,_,w,e1,e2,z,e,q]
 .exact OV hu value slice pins s U H _ _ v u Q I rx ry #[_,w,e1,.inl #[kvs,k,hk,e2,e.symm],q]
 .exact OV hu value slice pins s U H _ _ v u Q I rx ry #[_,w,e1,.inr #[kvs,k,b,hk,e2,hb,e.symm],q]
end
def KS(n d:Nat)(v:Int):max 0 (min (if v<0 then v+(n:Int)else v) (n:Int))=((HT.nR n d (M v):Nat):Int):=by
 show max 0 (min (if v<0 then v+(n:Int)else v) (n:Int))=(((if v<0 then(v+(n:Int)).toNat else min v.toNat n):Nat):Int);by_cases hv:v<0
 .simp only[aQ hv];lia
 .simp only[aE hv];lia
def Ho(a b:Nat):Sd (a:Int) (b:Int) 1=(bg<|b-a).map λm=>a+m:=by
 unfold Sd;have h1:(1:Int)>0:=by lia
 simp only[h1,ki];have e3:(if(a:Int)<(b:Int)then((b:Int)-(a:Int)+1-1) / 1 else 0).toNat=b-a:=by lia
 rw[e3];congr 1;funext k
 lia
def idx_eq(lo hi:aah Int)(n:Nat):fK lo hi 1 n=(bg<|HT.nR n n hi-HT.nR n 0 lo).map λm=>HT.nR n 0 lo+m:=by
 rw[<-Ho];have h1:(1:Int)>0:=by lia
 unfold fK;simp only[h1,ki];cases lo with
 |none=>cases hi with
  |none=>rfl
  |some v=>simp only[KS n n v];rfl
 |some w=>cases hi with
  |none=>simp only[KS n 0 w];rfl
  |some v=>simp only[KS n n v,KS n 0 w]
def QL{α:Type}(l:L α)(i:Nat):∀k:Nat,((bg k).map λ(m:Nat)=>i+m).filterMap (l[·]?)=(l.drop i).take k:=by
 intro k;induction k with
 |zero=>simp
 |succ k ih=>
  rw[List.range_succ,be,List.filterMap_append,ih,oY,nO,List.filterMap_nil];cases h:l[i+k]? with
  |none=>
   have hl:=oh.mp h;simp only[dS];rw[gD (by rw[eV];omega),gD (by rw[eV];omega)]
  |some c=>
   rw[List.take_succ,CP,h];rfl
def WK(a:Array Nat):∀is:L Nat,is.filterMap (a[·]?)=is.filterMap (a.toList[·]?)
|[]=>rfl
|i::r=>by simp
def LX(x:Str)(lo hi:aah Int):(fK lo hi 1 x.length).filterMap (x.cps[·]?)=cut x.cps.toList lo hi:=by
 have len:x.cps.toList.length=x.length:=by rfl
 rw[WK,idx_eq,QL];unfold cut;rw[len]
def yT{α:Type}(l:L α)(lo hi:aah Int):zl (cut l lo hi)<=zl l:=by
 unfold cut;rw[fC,eV]
 lia
def aba(x:Str)(lo hi:aah Int)(h:(fK lo hi 1 x.length).length=x.length):cut x.cps.toList lo hi=x.cps.toList:=by
 have len:x.cps.toList.length=x.length:=by simp[jq]
 rw[idx_eq,ai,gO]at h;have h2:=HT.adu x.length x.length (aM _) hi;unfold cut;rw[len];by_cases hz:x.length=0
 .have:x.cps.toList=[]:=h_ (by lia);rw[this];simp
 .have e0:HT.nR x.length 0 lo=0:=by lia
  rw[e0,Im,gD<|by lia]
section
variable{X:Cx}
set_option tactic.hygienic true in
def slOk:SlR X (wSl X.K):=by
 intro pins s U H x v vl vu lo hi sl Q I rx hs pl pu h;rcases h with⟨z,rfl,hz,q⟩|⟨a,xs,e,hx,q⟩|⟨a,n,xs,rfl,hx,rfl,rfl,h1,h2,q⟩
 .obtain⟨t,rfl⟩:=rx;refine#["str",_,EV.lookup,GU s z t,?_];have key:∀l u:aah<|Int×Tok,vl=partValue l->vu=partValue u->l.map (·.1)=lo->u.map (·.1)=hi->aG (aJ X.prog X.w) X.A (Dv (.str z t)<|.ref sl) (EP X pins U Q) X.xe s:=by
   rintro l u rfl rfl rfl rfl;have hs':=hs;refine wpAny_getItem_str_slice (st:=B) hs' rfl ?_;have len:z.cps.toList.length=z.length:=by simp[jq]
   have hle:=yT z.cps.toList (l.map (·.1)) (u.map (·.1));have ec:=LX z (l.map (·.1)) (u.map (·.1));have fin:∀t' k,EP X pins U Q (.str ⟨(cut z.cps.toList (l.map (·.1)) (u.map (·.1))).toArray⟩ t') { s with toks:=k }:=λt' k=>#[V.e ⟨(cut z.cps.toList (l.map (·.1)) (u.map (·.1))).toArray⟩,H,I.tok _,#[t',rfl],q];show(if((1:Int)==1&&(fK (l.map (·.1)) (u.map (·.1)) 1 z.length).length==z.length)=W then Made.val (.str z t)else Made.str ⟨((fK (l.map (·.1)) (u.map (·.1)) 1 z.length).filterMap (z.cps[·]?)).toArray⟩).post (EP X pins U Q) s;rw[ec];by_cases hc:((1:Int)==1&&(fK (l.map (·.1)) (u.map (·.1)) 1 z.length).length==z.length)=W
   .rw[aQ hc];have hall:cut z.cps.toList (l.map (·.1)) (u.map (·.1))=z.cps.toList:=aba z _ _ (by
     rw[cK]at hc;simpa using hc.2)
    have f:=fin t s.toks;rw[hall]at f;exact f
   .rw[aE hc];exact#[by show(mQ _).size<=ao;rw[aT];omega,fin _ _]
  cases pl with
  |none=>cases pu with
   |none=>exact key B B rfl rfl rfl rfl
   |int j tj=>exact key B (M (j,tj)) rfl rfl rfl rfl
  |int i ti=>cases pu with
   |none=>exact key (M (i,ti)) B rfl rfl rfl rfl
   |int j tj=>exact key (M (i,ti)) (M (j,tj)) rfl rfl rfl rfl
 .exact aa1 pins s U H _ v vl vu lo hi sl Q I rx hs pl pu #[_,xs,e,hx,q]
 ··cases rx;let#[its,r,pt,hz]:=I.tuple hx.sG;have hlen:=r.length;cases pl with
   |int _ tl=>
    cases pu;refine#["tuple",_,CD.lookup,IsTup.typeIs pt,?_];refine getItem_tuple_from pt hs h1 (by rw[aT];omega) ?_ (by rw[aT];omega);refine#[.a s.heap.objs.size,_,I.laid (t':=s.toks) (o:=.b<|xs.drop n) (λb ob q=>aq _ q) (aM _) #[by rw[eV];omega,its.drop n,r.drop n,IsTup.new _ _],rfl,q _<|I.hok.fresh<|aM _]
end
def Bf.val:Bf->Z
|.a=>.builtin "len"|.g=>.builtin "all"|.j=>.builtin "any"|.i=>.type "int"|.c=>.type "list"|.h=>.type "tuple"|.b=>.type "dict"|.d=>.builtin "max"|.e=>.builtin "sorted"
def Bf.boot:∀f:Bf,oS f.name=M f.val:=by
 intro f;cases f<;>decide +kernel
def Bf.ok(f:Bf):f.name≠"__name__"/\(f.name==("__debug__":Str))=J:=by
 cases f<;>decide +kernel
section
variable{X:Cx}
def Fq{Q:Z->aj->Prop}{E:Z->aj->Prop}(hc:X.calm=W)(I:L2.Inv X pins U H s)(hx:jg X.K H a xs)(h:∀(its:L Z),bO xs its->zl xs<=ao->∀ajj:aj,ajj={ s with heap:=s.heap.push { cls:=.type "list_iterator",data:=.fields (List.toArray [.ref a,.int 0 0]) } }->
   Ld X.prog X.w X.A.in1 s.heap.objs.size [s.heap.objs.size,a] [s.heap.objs.size] its.toArray.size (λi v=>its.toArray[i]?=M v) (λi h=>h.IsListIter s.heap.objs.size a i/\h.IsList a its.toArray)->
   (ajj.heap.IsListIter s.heap.objs.size a 0/\ajj.heap.IsList a its.toArray)->(∀b∈[s.heap.objs.size,a],b<ajj.heap.objs.size)->
   (∀h' tk,(∀b o,b∉[s.heap.objs.size]->ajj.heap.get? b=M o->h'.get? b=M o)->L2.Inv X pins U H { ajj with heap:=h',toks:=tk })->Q (.ref s.heap.objs.size) ajj):
  aG (aJ X.prog X.w) X.A.in1 (qi<|.ref a) Q E s:=by
 let#[its,r,pl,hz]:=I.list hx;have hlt:a<s.heap.objs.size:=by let#[o,n,e,_]:=pl;exact aF e
 refine pY pl.isList ?_;have hh:X.A.in1.handled=B:=I.ok.hd hc;refine h its r hz _ rfl (Se hh s.heap.objs.size a (aZ hlt) its.toArray) #[#[_,aU _ rfl,rfl,rfl],pl.isList.push _] (λb hb=>?_) λh' tk k=>?_
 .rw[iC];rcases aY.mp hb with rfl|hb
  .exact ir _
  .rw[aL.mp hb];exact pZ hlt
 .exact I.kept λb o e=>k b o (λz=>aC (aF e) (by rw[aL.mp z];exact dm _))<|aq _ e
def range_all{p:Nat->Bool}{xs:L V}(f:V->Bool)(h:∀i x,xs[i]?=M x->p i=f x):(bg<|zl xs).all p=xs.all f:=by
 rw[xR,bN,bN];constructor
 .intro q x hx;let#[i,hi]:=AF hx;rw[<-h i x hi];exact q i<|fO.mpr (bL.mp hi).1
 .intro q i hi;have hi:=fO.mp hi;rw[h i xs[i]<|aB hi];exact q _<|bY hi
def OX{A:b7}{xs:L V}{its:L Z}(rv:bO xs its)(hb:zV xs=W){i:Nat}{v:Z}{s':aj}{Q':Bool->aj->Prop}{E':Z->aj->Prop}(hi:its[i]?=M v)(hQ:Q' ((xs[i]?.map rH).getD J) s'):aG (aJ X.prog X.w) A (CA v) Q' E' s':=by
 have hlen:=rv.length;have hl:i<xs.length:=by grind
 have hxi:xs[i]?=M xs[i]:=aB hl;let#[u,hu,ru]:=rv.get hxi;rw[hi]at hu;cases hu;have hQ:Q' ((xs[i]?.map rH).getD J) s':=hQ;rw[hxi]at hQ;have hbl:∃b,xs[i]=.c b:=by
  have:=bN.mp hb _<|bY hl;revert this;cases xs[i]<;>intro this<;>first|exact⟨_,rfl⟩|(exact aC (show J=W from this) aN)
 let#[b,eb]:=hbl;rw[eb]at ru hQ;cases ru;refine iK ?_;cases b<;>exact hQ
def J5(hc:X.calm=W):o7 X (.builtin "all") (λvs H Q=>∃a xs,vs=[.a a]/\jg X.K H a xs/\zV xs=W/\Q (.c<|xs.all rH) H):=by
 intro pins s U H vs us Q I r h;let#[a,xs,rfl,hx,hb,q]:=h;let#[u,rfl,ru]:=vals1 r;cases ru;refine call_all_walk<|Fq hc I hx λits rv hz ajj e aad st hfp fin=>#[_,_,_,_,_,_,λi=>(xs[i]?.map rH).getD J,rfl,aad,st,?_,λh' tk k=>?_]
 .intro i v s' Q' E' hP hQ;exact OX rv hb (by simpa using hP) hQ
 .have e1:its.toArray.size=zl xs:=by rw[aT];exact rv.length.symm
  rw[e1];have e2:=range_all (p:=λi=>(xs[i]?.map rH).getD J) (xs:=xs) rH (λi x hi=>by rw[hi];rfl);rw[e2];exact#[.c _,H,fin h' tk k,rfl,q]
def range_any{p:Nat->Bool}{xs:L V}(f:V->Bool)(h:∀i x,xs[i]?=M x->p i=f x):(bg<|zl xs).any p=xs.any f:=by
 rw[xR,dX,dX];constructor
 .rintro⟨i,hi,q⟩;have hi:=fO.mp hi;rw[h i xs[i]<|aB hi]at q;exact#[_,bY hi,q]
 .rintro⟨x,hx,q⟩;let#[i,hi]:=AF hx;rw[<-h i x hi]at q;exact#[i,fO.mpr (bL.mp hi).1,q]
def J6(hc:X.calm=W):o7 X (.builtin "any") (λvs H Q=>∃a xs,vs=[.a a]/\jg X.K H a xs/\zV xs=W/\Q (.c<|xs.any rH) H):=by
 intro pins s U H vs us Q I r h;let#[a,xs,rfl,hx,hb,q]:=h;let#[u,rfl,ru]:=vals1 r;cases ru;refine call_any_walk<|Fq hc I hx λits rv hz ajj e aad st hfp fin=>#[_,_,_,_,_,_,λi=>(xs[i]?.map rH).getD J,rfl,aad,st,?_,λh' tk k=>?_]
 .intro i v s' Q' E' hP hQ;exact OX rv hb (by simpa using hP) hQ
 .have e1:its.toArray.size=zl xs:=by rw[aT];exact rv.length.symm
  rw[e1];have e2:=range_any (p:=λi=>(xs[i]?.map rH).getD J) (xs:=xs) rH (λi x hi=>by rw[hi];rfl);rw[e2];exact#[.c _,H,fin h' tk k,rfl,q]
def vm(h:RelV (kV k) u):(fM P w).is k u=W:=by
 cases k with
 |inl i=>let#[t,rfl]:=h;exact DN P w i t
 |inr x=>let#[t,rfl]:=h;exact DO P w x t
theorem adZ(I:L2.Inv X pins U H s){xs:L V}{ps:L<|Key×V}(q:OS X.K H xs ps):∀{its:L Z},bO xs its->
  ∃rs:L<|Key×Z,KV ps rs/\zl its=zl rs/\∀(i:Nat) (k:Key) (v:Z),rs[i]?=M (k,v)->∃t kv,its[i]?=M (.ref t)/\s.heap.IsTuple t (List.toArray [kv,v])/\(fM X.prog X.w).is k kv=W:=by
 unfold OS at q;induction q with
 |nil=>intro its r;obtain rfl:=Paired.Wc r;exact#[[],.nil,rfl,λi k v e=>by simp at e]
 |@cons _ p _ _ hp _ ih=>
  intro its r;let#[u,us,rfl,hu,ru]:=Paired.C4 r;let#[rs,h1,h2,h3]:=ih ru;let#[t,rfl,ht]:=hp;cases hu;let#[jts,rj,tp,_]:=I.tuple ht;let#[uk,uv,rfl,rk,rvv]:=vals2 rj;refine#[(p.1,uv)::rs,.cons #[rfl,rvv] h1,by simp[h2],?_];intro i k v e;cases i with
  |zero=>
   simp at e;let#[rfl,rfl]:=e;exact#[t,uk,rfl,tp,vm rk]
  |succ i=>exact h3 i k v<|by simpa using e
theorem Ft:∀(ps acc:L<|Key×V),zl (t8 acc ps)<=zl acc+zl ps
|[],acc=>aM _
|p::r,acc=>by
 have h:=Ft r<|putK acc p.1 p.2;have h2:zl (putK acc p.1 p.2)<=zl acc+1:=by
  unfold putK;split
  .rw[ai];lia
  .rw[aW,g9];lia
 show(t8 (putK acc p.1 p.2) r).length<=_;rw[eY]
 lia
def J8(hc:X.calm=W):o7 X (.type "dict") (λvs H Q=>∃a xs ps,vs=[.a a]/\jg X.K H a xs/\OS X.K H xs ps/\∀p,H p=B->Q (.a p) (upd H p<|.c<|t8 [] ps)):=by
 intro pins s U H vs us Q I r h;let#[a,xs,ps,rfl,hx,hp,q]:=h;let#[u,rfl,ru]:=vals1 r;cases ru;let#[its,rv,#[o,n,e,hcl,hno,hdat],hz]:=I.list hx;let#[rs,kv,hl,hrs]:=adZ I hp rv;have hps:=(Paired.length hp).symm;have hlen:=(Paired.length kv).symm;refine E8 (I.ok.hd hc) e (by first|exact hcl|exact hno) hdat (by first|exact hno|exact hcl) #[by simpa using hl,λi k v z=>by
  let#[t,uk,h1,h2,h3]:=hrs i k v z;exact#[t,uk,by simpa using h1,h2,h3]] (by lia) λh' tk hd hk=>?_
 refine#[.a s.heap.objs.size,_,I.laid (o:=.c<|t8 [] ps) hk (aM _) #[?_,?_,merged [] rs,KV.merge kv .nil,hd],rfl,q _<|I.hok.fresh<|aM _]
 .have:=Ft ps [];rw[lU]at this
  lia
 .have:=I.big;rw[fX];intro z;rw[z]at this;exact aC this<|dm _
set_option tactic.hygienic true in
def af_(hc:X.calm=W)(hu:X.A.units+60<fy)(f:Bf):o7 X f.val (Bu X.K f):=by
 intro pins s U H vs us Q I r h;cases f with
 |a=>
  rcases h with h|h
  .exact LB pins s U H _ us Q I r h
  .exact LA pins s U H _ us Q I r h
 |g=>exact J5 hc pins s U H _ us Q I r h
 |j=>exact J6 hc pins s U H _ us Q I r h
 |i=>exact SI pins s U H _ us Q I r<|.inr h
 |c=>
  let#[a,xs,rfl,hx,q]:=h;exact LC pins s U H _ us Q I r #[_,xs,rfl,.inl<|.inl hx,q]
 |h=>
  let#[a,xs,rfl,h1,h2]:=h;exact J2 pins s U H _ us Q I r #[_,xs,rfl,.inl #[.inl h1,h2]]
 |b=>exact J8 hc pins s U H _ us Q I r h
 |d=>exact SH hc pins s U H _ us Q I r h
 |e=>exact LL hc pins s U H _ us Q I r h
end
end L3
end
section
namespace L3
open PySem PySem.Spec PyProof.Rows L2
open PySem.Builtin PySem.Builtin.Str
section
variable{X:Cx}
noncomputable def WL:Mt->String
|.a=>"list.append"
|.f=>"list.insert"
|.d=>"list.extend"
|.e=>"list.remove"
|.g=>"dict.setdefault"
|.c=>"dict.get"
|.b=>"list.index"
structure abb (T:String) (m:Mt) (id:String):Prop where
 pa:PlainAttrs T
 slot:Slot T m.name id
 ty:VS (.builtin id)=pure (.type "method_descriptor")
def WM(m:Mt):abb (Fi m) m (WL m):=by
 cases m with
 |a=>exact#[F.plainAttrs_list,F.slot_list_append,F.type_list_append]
 |f=>exact#[F.plainAttrs_list,F.slot_list_insert,F.type_list_insert]
 |c=>exact#[F.plainAttrs_dict,F.slot_dict_get,F.type_dict_get]
 |e=>exact#[F.plainAttrs_list,F.slot_list_remove,F.type_list_remove]
 |g=>exact#[F.plainAttrs_dict,F.slot_dict_setdefault,F.type_dict_setdefault]
 |b=>exact#[F.plainAttrs_list,F.slot_list_index,F.type_list_index]
 |d=>exact#[F.plainAttrs_list,F.slot_list_extend,F.type_list_extend]
def abc(I:L2.Inv X pins U H s)(r:RelV x v)(h:Fj m x H):s.TypeIs v (Fi m)/\∀a,v=.ref a->∃ob,s.heap.get? a=M ob/\ob.dict=B:=by
 obtain⟨a,rfl,⟨e,h⟩|⟨e,xs,h⟩⟩:=h
 .rw[e];exact SM I r<|.inr<|.inr<|.inl #[rfl,.inl h]
 .rw[e];exact SM I r<|.inl #[rfl,xs,.inl h]
def abd(its:L Z)(u:Z)(j:Nat):(its.toArray.extract 0<|min j its.toArray.size).push u++its.toArray.extract (min j its.toArray.size)=(its.take j++u::its.drop j).toArray:=by
 apply Sb;rw[sO,DE,AG,AG];simp only[aT];by_cases h:j<=zl its
 .rw[xS h];simp[vA];rw[gD (by rw[eV];lia)]
 .rw[E2<|by lia];have e1:its.take j=its:=gD (by lia);have e2:its.drop j=[]:=l_ (by lia);rw[e1,e2];simp[vA]
def Ti:SN X "list.insert" (λx vs H Q=>∃l xs i y,x=.a l/\vs=[.b i,y]/\H l=M (.a xs)/\(0<=i/\i<2 ^ 40/\zl xs<ao)/\Q .d (upd H l<|.a (xs.take i.toNat++y::xs.drop i.toNat))):=by
 intro pins s U H x vs v us Q I rx rv h;let#[l,xs,i,y,rfl,rfl,hH,#[h0,h1,hz],q]:=h;cases rx;let#[u,w,rfl,ru,rw']:=vals2 rv;let#[t,rfl]:=ru;let#[z,its,n,r,hl,e]:=I.LD hH;have hfit:¬(!u5 i)=W:=by
  rw[Il (by lia)<|by lia];exact aN
 refine lR F.slot_list_insert #[_,e,rfl] F.entry_list_insert (F.args_list_insert_3 _ _ _) (CQ l its.toArray n i t w hfit<|by grind) #[e,?_];refine#[.d,_,I.Qv hH e ?_ ((bO.take _ r).append<|.cons rw'<|bO.drop _ r) ?_,rfl,q]
 .have e2:(if i<0 then(i+((its.toArray.size:Nat):Int)).toNat else min i.toNat its.toArray.size)=min i.toNat its.toArray.size:=aE (by lia);rw[e2];exact abd its w i.toNat
 .rw[aW,fC,eY,eV]
  lia
set_option tactic.hygienic true in
def abe(hu:X.A.units+60<fy)(I:L2.Inv X pins U H s)(rx:RelV x v)(rv:bO vs us)(h:LR m x vs H Q):aG (aJ X.prog X.w) X.A (call (.builtin<|WL m) (v::us)) (EP X pins U Q) X.xe s:=by
 cases m with
 |a=>exact SO pins s U H _ _ v us Q I rx rv h
 |f=>exact Ti pins s U H _ _ v us Q I rx rv h
 |e=>exact S9 pins s U H _ _ v us Q I rx rv h
 |g=>exact J4 pins s U H _ _ v us Q I rx rv h
 |d=>exact SQ pins s U H _ _ v us Q I rx rv h
 |b=>
  let#[l,ns,k,rfl,rfl,hx,hk,q]:=h;let#[u,rfl,ru]:=vals1 rv;cases rx;let#[t,rfl]:=ru;let#[its,r,p,hz]:=I.list (.inl hx:jg X.K H l _);exact QB (PlainL.is p) r (by rw[ai]at hz;exact hz) hk #[.b _,H,I.tok _,#[_,rfl],q]
 |c=>
  let#[l,kvs,k,y,rfl,rfl,hk,q]:=h;let#[u,w,rfl,ru,rw']:=vals2 rv;cases rx;exact adE (by omega) I (.inl #[kvs,k,hk,rfl,rfl]) ru rw' λw' s' I' r'=>#[_,H,I',r',q]
noncomputable def Ty.val:Ty->Z
|.b=>.type "int"|.f=>.type "bool"|.d=>.type "str"|.e=>.type "list"|.a=>.type "tuple"|.c=>.type "dict"|.none=>.type "NoneType"
def Ty.boot:∀t:Ty,t≠.none->oS t.name=M t.val:=by
 intro t h;cases t<;>first|decide +kernel|exact aC rfl h
def ad0{Q:Bool->Prop}(I:L2.Inv X pins U H s)(rx:RelV x v)(h:Bv X.K ty x H Q)(ht:ty≠.none):aG (aJ X.prog X.w) X.A (call (.builtin "isinstance") [v,ty.val]) (EP X pins U λu H'=>H'=H/\∃b,u=.c b/\Q b) X.xe s:=by
 cases x with
 |b i=>
  let#[t,rfl]:=rx;have key:∀b:Bool,dY X.K (.type "int") ty.val=M b->Q b->aG (aJ X.prog X.w) X.A (call (.builtin "isinstance") [.int i t,ty.val]) (EP X pins U λu H'=>H'=H/\∃b,u=.c b/\Q b) X.xe s:=
   λb e q=>om Zy I.p_ iT e (λz=>nomatch z) λtk=>#[.c b,H,I.tok _,rfl,rfl,b,rfl,q]
  cases ty with
  |b=>exact key W rfl h
  |none=>exact aC rfl ht
  |_=>exact key J rfl h
 |a a=>
  let#[xs,hx,h]:=h;let#[its,_,#[o,h1,h2,_],_]:=I.tuple hx.sG;cases rx;have key2:∀b:Bool,dY X.K (.type "tuple") ty.val=M b->Q b->aG (aJ X.prog X.w) X.A (call (.builtin "isinstance") [.ref a,ty.val]) (EP X pins U λu H'=>H'=H/\∃b,u=.c b/\Q b) X.xe s:=
   λb e q=>om VV I.p_ #[o,h1,h2] e (λz=>nomatch z) λtk=>#[.c b,H,I.tok _,rfl,rfl,b,rfl,q]
  cases ty with
  |a=>exact key2 W rfl h
  |none=>exact aC rfl ht
  |_=>exact key2 J rfl h
 |_=>cases h
end
end L3
end
section
namespace L3
open PySem PySem.Spec PyProof.Rows L2
def Inv.Hq{t':Nat}{ch:L Addr}(I:L2.Inv X pins U H s)(hf:∀b∈ch,ou X pins H b)(k:∀b o,b∉ch->s.heap.get? b=M o->h'.get? b=M o)(free:∀b o,b∉ch->s.heap.get? b=M o->H b=B->H' b=B)(grow:∀b o,H b=M o->H' b=M o)(hok:gZ X.prog X.w H' h'):L2.Inv X pins U H' { s with heap:=h',toks:=t' }:=by
 refine I.step (λb hb=>?_) (λb o _ _ hc e _=>k b o hc e) (λb o _ _ hc e _=>#[o.slots,k b o hc e]) free
  (λb o hc e=>#[o,k b o hc e]) (λ_ _ e=>grow _ _ e) (λ_ _ _ e=>grow _ _ e) (λb ps e=>#[#[],by rw[grow _ _ e];simp]) (λm hm=>?_) hok I.bare
 .obtain⟨f0,f1,f2,f3,f4,f5⟩:=hf b hb;exact#[f3,f1,f4,f5]
 .obtain⟨o,es,ep,ho,r⟩:=hm;exact#[o,es,ep,k _ o (λz=>(hf _ z).2.1 rfl) ho,r]
def Fv{X:Cx}{pins:L<|Addr×Obj}{H:Hp}{h h':Heap}{ch:L Addr}(x:gZ X.prog X.w H h)(hf:∀b∈ch,H b=B)(k:∀b o,b∉ch->h.get? b=M o->h'.get? b=M o):gZ X.prog X.w H h':=λb u e=>by
 refine(x b u e).stay (λc v hc q=>k c v (λz=>?_) q) (λ_ q=>q) (λ_ _ q=>q) λ_ _ _ q=>q;rcases hc with rfl|hc
 .simp_all
 .simp_all
def ad1(a:Addr):It:=
 #[λi H=>∃xs x,Rd H a (.a xs)/\xs[i]?=M x,λi H x H'=>∃p v,H p=B/\x=.a p/\H'=upd H p (.b [.b (i:Int),v])/\∀xs,Rd H a (.a xs)->xs[i]?=M v,λi H=>∃xs,Rd H a (.a xs)/\zl xs<=i]
def Tj{P:br}{w:bE}{K:ak}{elts:L Expr}{x1}{pos:Pos}(a e it:Addr)(hne:e≠it):Turn P w K (.Tuple elts x1 pos) (ad1 a) [e,it] e (λi h=>(∃old,IsEnum h e it (i:Int) old)/\h.IsListIter it a i) where
 mem:=by simp
 obj:=λi h st b hb=>by
  let#[#[old,st1],st2]:=st;have hb:b=e\/b=it:=by simpa using hb
  rcases hb with rfl|rfl
  .exact#[_,st1,λv z=>by cases z]
  .obtain⟨o,e,c,d⟩:=st2;exact#[o,e,λv z=>by rw[d]at z;cases z]
 keep:=λi h h' st k=>by
  let#[#[old,st1],st2]:=st;exact#[#[old,k e (by simp) _ st1],st2.at λo q=>k it (by simp) o q]
 item:=by
  intro X hP hw hK hc i pins s U H E I hf st hg;subst hP hw hK;let#[#[old,st1],st2]:=st;let#[xs,x,hq,hx]:=hg;let#[its,rv,p,hz]:=I.list (.inl hq:jg X.K H a xs);let#[u,hu,ru]:=rv.get hx;refine wpAny_pyNext_enum_item st1 st2 p.isList (by simpa using hu) hne λh1 heo hit1 ht1 hz1 hk1=>?_;refine#[_,rfl,wpAny_letOwnedTupleGo_enum heo λh2 he2 hs2=>?_];have lee:=aF st1;have ne_e:=gq lee;have ht2:=(hs2.2 _ ne_e).trans ht1;have hk2:∀b o,b∉[e,it]->s.heap.get? b=M o->h2.get? b=M o:=λb o hb q=>by
   have hb:b≠e/\b≠it:=by simpa using hb
   exact(hs2.2 b hb.1).trans (hk1 b o hb.1 hb.2 q)
  have hn:=I.hok.fresh<|aM _;have hfr:=λb hb=>(hf b hb).1;have hok2:gZ X.prog X.w (upd H s.heap.objs.size<|.b [.b (i:Int),x]) h2:=by
   have h0:=Fv (pins:=pins) I.hok hfr hk2;intro b o q;by_cases hb:b=s.heap.objs.size
   .subst hb;rw[c5]at q;cases q;refine#[by show(2:Nat)<=_;have:=cB;lia,[.int (i:Int) s.toks,u],.cons #[_,rfl] #v[ru],#[_,ht2,rfl,_,rfl]]
   .rw[bq hb]at q;exact(h0 b o q).stay (λ_ _ _ r=>r) (λc r=>by rw[bq<|bZ r hn];exact r) (λc ys r=>by rw[bq<|bZ r hn];exact r) λc o ys r=>by rw[bq<|bZ r hn];exact r
  have I2:L2.Inv X pins U (upd H s.heap.objs.size<|.b [.b (i:Int),x]) { s with heap:=h2,toks:=s.toks+1 }:=
   Inv.Hq I hf hk2 (λb o hb q n=>by rw[bq<|aZ<|aF q];exact n) (λb o q=>by rw[bq<|bZ q hn];exact q) hok2
  refine#[.a s.heap.objs.size,_,I2,rfl,#[_,x,hn,rfl,rfl,λys hy=>by rw[I.zQ (.inl hy) (.inl hq:jg X.K H a xs)];exact hx],#[#[u,?_],?_],λb hb=>?_]
  .have:((i:Int)+1)=((i+1:Nat):Int):=by lia
   rw[<-this];exact he2
  .exact hit1.at λo q=>(hs2.2 it<|dc hne).trans q
  .have hlt:b<s.heap.objs.size:=by
    have hb:b=e\/b=it:=by simpa using hb
    rcases hb with rfl|rfl
    .exact lee
    .obtain⟨o,q,_⟩:=st2;exact aF q
   rw[bq<|aZ hlt];exact hfr b hb
 done:=by
  intro X hP hw hK hc i pins s U H E I hf st hg;subst hP hw hK;let#[#[old,st1],st2]:=st;let#[xs,hq,hx]:=hg;let#[its,rv,p,hz]:=I.list (.inl hq:jg X.K H a xs);have hl:=rv.length;have hfr:=λb hb=>(hf b hb).1;refine wpAny_pyNext_enum_end (I.ok.hd hc) st1 st2 p.isList (by simp;lia) λh' eb=>#[rfl,?_];have hk:∀b o,b∉[e,it]->s.heap.get? b=M o->h'.get? b=M o:=λb o hb q=>eb b o (λz=>hb<|by simp[z]) q;exact Inv.Hq (ch:=[e,it]) I hf hk (λ_ _ _ _ n=>n) (λ_ _ q=>q) (Fv (X:=X) (pins:=pins) I.hok hfr hk)
 self:=λ_ _ _ _ _ st h=>by
  let#[#[old,st1],_]:=st;exact DF st1 h
noncomputable def ad2(K:ak)(a:Addr)(n:Nat):It:=
 #[λi H=>∃xs x,jg K H a xs/\zl xs=n/\xs.reverse[i]?=M x,λi H x H'=>H'=H/\∀xs,jg K H a xs->xs.reverse[i]?=M x,λi _=>n<=i]
def WO{w:bE}{K:ak}{tg:Expr}(a it:Addr)(n:Nat):Turn P w K tg (ad2 K a n) [it] it (λi h=>i<=n/\h.IsRevIter it a ((n:Int)-1-(i:Int))) where
 mem:=by simp
 obj:=λi h st b hb=>by
  have e:b=it:=by simpa using hb
  subst e;let#[_,o,e,c,d]:=st;exact#[o,e,λv z=>by rw[d]at z;cases z]
 keep:=λi h h' st k=>#[st.1,st.2.at λo e=>k it (by simp) o e]
 item:=by
  intro X hP hw hK hc i pins s U H E I hf st hg;subst hP hw hK;let#[xs,x,hq,hn,hx]:=hg;let#[its,rv,p,hz]:=I.list hq;have hi:i<zl xs:=by
   have:=(bL.mp hx).1;simpa using this
  have hx':xs[zl xs-1-i]?=M x:=by
   rw[List.getElem?_reverse hi]at hx;exact hx
  let#[u,hu,ru]:=rv.get hx';let#[f0,f1,f2,f3,f4,f5]:=hf it (by simp);have e1:(n:Int)-1-(i:Int)=((zl xs-1-i:Nat):Int):=by omega
  have st2:=st.2;rw[e1]at st2;refine wpAny_pyNext_rev_item st2 p.isList (by simpa using hu) λh' st' sb=>?_;have I1:=I.turned (t':=s.toks) (λb o hb e=>(sb.2 b hb).trans e) f0 f1 f3 f4 f5;let#[o,e,c,d]:=id st';refine#[u,rfl,KQ e c d (by decide) #[x,H,I1,ru,#[rfl,λys hy=>by rw[I.zQ hy hq];exact hx],#[by lia,?_],λb hb=>(hf b hb).1]];have e2:(n:Int)-1-((i+1:Nat):Int)=((zl xs-1-i:Nat):Int)-1:=by lia
  rw[e2];exact st'
 done:=by
  intro X hP hw hK hc i pins s U H E I hf st hg;subst hP hw hK;have e:=Nat.le_antisymm st.1 hg;subst e;let#[f0,f1,f2,f3,f4,f5]:=hf it (by simp);have st2:=st.2;have e1:(i:Int)-1-(i:Int)=-1:=by lia
  rw[e1]at st2;exact wpAny_pyNext_rev_end (I.ok.hd hc) st2 λh' eb=>#[rfl,I.turned (λb o hb e=>eb b o hb e) f0 f1 f3 f4 f5]
 self:=λ_ _ _ _ _ st h=>AH st.2 h
structure uK (aae:It) (ok:Hp->Prop) (items:L Item):Prop where
 go:∀i H it,ok H->items[i]?=M it->aae.go i H
 yld:∀i H it x H',ok H->items[i]?=M it->aae.yld i H x H'->∀k,mkItem it H k->k x H'
 stop:∀i H,ok H->zl items<=i->aae.stop i H
def Tn{K:ak}:uK (Itl K a) (λH=>jg K H a xs) (xs.map .v) where
 go:=λi H it ok hi=>by
  rw[bz]at hi;cases e:xs[i]? with
  |none=>rw[e]at hi;cases hi
  |some x=>exact#[xs,x,ok,e]
 yld:=λi H it x H' ok hi hy k hk=>by
  let#[rfl,hy]:=hy;rw[bz,hy xs ok]at hi;cases hi;exact hk
 stop:=λi H ok hi=>#[xs,ok,by rw[ai]at hi;exact hi]
theorem Bw:∀(xs:L V) (n i:Nat),(qv n xs)[i]?=(xs[i]?).map λx=>Item.a [.b ((n+i:Nat):Int),x]
|[],n,i=>by simp[qv]
|x::r,n,0=>by simp[qv]
|x::r,n,i+1=>by
 simp only[qv,jE,Bw r (n+1) i];have:n+1+i=n+(i+1):=by lia
 rw[this]
theorem IQ:∀(xs:L V) (n:Nat),zl (qv n xs)=zl xs
|[],_=>rfl
|x::r,n=>by simp[qv,IQ r<|n+1]
def To:uK (ad1 a) (λH=>Rd H a<|.a xs) (qv 0 xs) where
 go:=λi H it ok hi=>by
  rw[Bw]at hi;cases e:xs[i]? with
  |none=>rw[e]at hi;cases hi
  |some x=>exact#[xs,x,ok,e]
 yld:=λi H it x H' ok hi hy k hk=>by
  let#[p,v,hp,rfl,rfl,hy]:=hy;rw[Bw,hy xs ok,Nat.zero_add]at hi;cases hi;exact hk p hp
 stop:=λi H ok hi=>#[xs,ok,by rw[IQ]at hi;exact hi]
def WQ{K:ak}:uK (ad2 K a<|zl xs) (λH=>jg K H a xs) (xs.reverse.map .v) where
 go:=λi H it ok hi=>by
  rw[bz]at hi;cases e:xs.reverse[i]? with
  |none=>rw[e]at hi;cases hi
  |some x=>exact#[xs,x,ok,rfl,e]
 yld:=λi H it x H' ok hi hy k hk=>by
  let#[rfl,hy]:=hy;rw[bz,hy xs ok]at hi;cases hi;exact hk
 stop:=λi H ok hi=>by rw[ai,sP]at hi;exact hi
def WR{K:ak}:uK (Itt K a) (λH=>sF K H a xs) (xs.map .v) where
 go:=λi H it ok hi=>by
  rw[bz]at hi;cases e:xs[i]? with
  |none=>rw[e]at hi;cases hi
  |some x=>exact#[xs,x,ok,e]
 yld:=λi H it x H' ok hi hy k hk=>by
  let#[rfl,hy]:=hy;rw[bz,hy xs ok]at hi;cases hi;exact hk
 stop:=λi H ok hi=>#[xs,ok,by rw[ai]at hi;exact hi]
def QM{lo:Int}:uK (ZH lo n) (λ_=>True) ((bg n).map λ(i:Nat)=>Item.v<|.b<|lo+(i:Int)) where
 go:=λi H it ok hi=>by
  have:=(bL.mp hi).1;have:i<n:=by simpa using this
  exact this
 yld:=λi H it x H' ok hi hy k hk=>by
  let#[rfl,rfl]:=hy;have hl:=(bL.mp hi).1;have hl:i<n:=by simpa using hl
  rw[bz,Bk hl]at hi;cases hi;exact hk
 stop:=λi H ok hi=>by
  have:n<=i:=by simpa using hi
  exact this
def uK.mono{ok ok':Hp->Prop}(h:uK aae ok items)(m:∀H,ok' H->ok H):uK aae ok' items:=
 #[λi H it o=>h.go i H it<|m H o,λi H it x H' o=>h.yld i H it x H'<|m H o,λi H o=>h.stop i H<|m H o]
def WS{ok:Hp->Prop}{items:L Item}{g:TG}{body:TS}{D:Ends}{U:L2.St}{H:Hp}(hJ:uK aae ok items)(h:forL ok g body D items U H):∃aad:Nat->Nat->L2.St->Hp->Prop,(∃m,aad 0 m U H)/\∀i m U H,aad i m U H->
   (aae.stop i H/\D.nx U H)\/(aae.go i H/\∃N:L2.St->Hp->Prop,(∀σ' H',N σ' H'->∃m',m'<m/\aad (i+1) m' σ' H')/\∀x H',aae.yld i H x H'->g x U H' fun σ2 H2=>body { D with nx:=N,ct:=N,bk:=D.nx } σ2 H2):=by
 refine#[λi m U H=>m=zl items-i/\i<=zl items/\forL ok g body D (items.drop i) U H,#[zl items,by simp,c7 _,by simpa using h],?_];rintro i m U H ⟨rfl,hi,p⟩;by_cases hlt:i<zl items
 .rw[nY hlt]at p;let#[hok,p]:=p;have e:=aB hlt;refine .inr #[hJ.go i H _ hok e,forL ok g body D<|items.drop<|i+1,fun σ' H' p'=>#[zl items-(i+1),by omega,rfl,hlt,p'],λx H' y=>?_];exact hJ.yld i H _ x H' hok e y _ p
 .rw[l_<|by omega]at p;let#[hok,p]:=p;exact .inl #[hJ.stop i H hok<|by omega,p]
section
variable{X:Cx}{tg:Expr}
def ad3(X:Cx)(pins:L<|Addr×Obj)(U:L2.St)(tg:Expr)(k:(Hp->Prop)->L Item->Hp->Prop)(itv:Z)(s2:aj):Prop:=
 ∃(it:Addr) (fp:L Addr) (tn:Nat->Heap->Prop) (aae:It) (H':Hp),itv=.ref it/\L2.Inv X pins U H' s2/\Turn X.prog X.w X.K tg aae fp it tn/\tn 0 s2.heap/\(∀b∈fp,ou X pins H' b)/\∃ok items,uK aae ok items/\k ok items H'
def IS(X:Cx)(tg iter:Expr)(wi:TIt):Prop:=
 ∀(pins:L<|Addr×Obj) (s:aj) (U:L2.St) (H:Hp) (k:(Hp->Prop)->L Item->Hp->Prop),L2.Inv X pins U H s->wi U H k->
  aG (aJ X.prog X.w) X.A (eval iter X.env) (λv s1=>aG (aJ X.prog X.w) X.A (qi v) (ad3 X pins U tg k) X.xe s1) X.xe s
def aga(hp:xN (aJ X.prog X.w) X.A X.env X.xe)(hc:X.calm=W)(hi:IS X tg iter wi)(hg:PG X tg g)(hb:vL X body tb)(hs:∀x,mw iter X.env x=pure x):PS X (.For tg iter body [] pos) (λD U H=>wi U H λok items H1=>forL ok g tb D items U H1):=by
 intro pins s U H D I h;have hI:PI X tg iter (fun σ0 H0 R=>wi σ0 H0 (λok items H1=>forL ok g tb D items U H1)/\∀ok items H1 aae,forL ok g tb D items U H1->uK aae ok items->R aae H1):=by
  intro pins' s' σ' H' R I' h';refine bG (hi pins' s' σ' H' _ I' h'.1) λv s1 h1=>bG h1 λitv s2 h2=>?_;let#[it,fp,tn,aae,H2,e,I2,T,st,hf,ok,items,hJ,hk]:=h2;exact#[it,fp,tn,aae,H2,e,I2,T,st,hf,h'.2 ok items H2 aae hk hJ]
 exact adg hp hc hI hg hb hs pins s U H D I #[h,λok items H1 aae hk hJ=>WS hJ hk]
def abf{e:Expr}{te:TE}(he:PE X e te):IS X tg e (λU H k=>te U H λx H1=>Hj X.K x H1 k):=by
 intro pins s U H k I h;refine bG (he pins s U H _ I h) λv s1 ⟨x,H1,I1,r1,q1⟩=>?_;cases x with
 |a a=>
  let#[t,xs,hx,q]:=q1;cases r1;rcases hx.sq with⟨rfl,z⟩|⟨rfl,z⟩
  .obtain⟨its,rv,p,hz⟩:=I1.list z;refine pY p.isList ?_;refine#[s1.heap.objs.size,[s1.heap.objs.size],_,_,H1,rfl,I1.kept (t':=s1.toks) λb o e=>aq _ e,SD a _,#[_,aU _ rfl,rfl,rfl],λb hb=>?_,λH'=>jh X.K H' a J xs,_,Tn.mono λH' o=>?_,q]
   .have e:b=s1.heap.objs.size:=by simpa using hb
    subst e;exact I1.vM (aM _)<|I1.hok.fresh<|aM _
   .rcases o.sq with⟨_,z⟩|⟨hf,_⟩
    .exact z
    .cases hf
  .obtain⟨its,rv,p,hz⟩:=I1.tuple z;refine wpAny_pyIter_tuple (show s1.heap.IsTuple a its.toArray from p) ?_;refine#[s1.heap.objs.size,[s1.heap.objs.size],_,_,H1,rfl,I1.kept (t':=s1.toks) λb o e=>aq _ e,Qp a _,#[_,aU _ rfl,rfl,rfl],λb hb=>?_,λH'=>jh X.K H' a W xs,_,WR.mono λH' o=>?_,q]
   .have e:b=s1.heap.objs.size:=by simpa using hb
    subst e;exact I1.vM (aM _)<|I1.hok.fresh<|aM _
   .rcases o.sq with⟨hf,_⟩|⟨_,z⟩
    .cases hf
    .exact z
 |_=>cases q1
def range_it'{k:(Hp->Prop)->L Item->Hp->Prop}{E:Z->aj->Prop}{lo hi:Int}{t u v:Tok}{tk:Nat}(I:L2.Inv X pins U H s)(h1:-(2 ^ 62)<=lo)(h2:lo<2 ^ 62)(h3:-(2 ^ 62)<=hi)(h4:hi<2 ^ 62)(q:k (λ_=>True) ((bg (hi-lo).toNat).map λ(i:Nat)=>Item.v<|.b<|lo+(i:Int)) H):aG (aJ X.prog X.w) X.A (qi<|.ref s.heap.objs.size) (ad3 X pins U tg k) E { s with heap:=s.heap.push { cls:=.type "range",data:=.fields (List.toArray [.int lo t,.int hi u,.int 1 v]) },toks:=tk }:=by
 refine bG (Wl (tg:=tg) (R:=λaae H'=>aae=ZH lo (hi-lo).toNat/\H'=H) I h1 h2 h3 h4 #[rfl,rfl]) λitv s2 h=>?_;let#[it,fp,tn,aae,H',e,I2,T,st,hf,rfl,rfl]:=h;exact#[it,fp,tn,_,H',e,I2,T,st,hf,_,_,QM,q]
def WT{x1:Nat}{tp:Pos}{e:Expr}{te:TE}{p pos:Pos}(hg:Gl X "enumerate")(hm:X.mg "enumerate"=B)(he:PE X e te)(hs:eO [e] X.env=[(J,eval e X.env)]):IS X (.Tuple elts x1 tp) (.Call (.Name "enumerate" p) [e] [] pos) (λU H k=>te U H λx H1=>match x with
   |.a b=>∃xs,Rd H1 b (.a xs)/\k (λH'=>Rd H' b<|.a xs) (qv 0 xs) H1
   |_=>bu):=by
 intro pins s U H k I h;have ha:=C6 he Fc hs;refine G1 (iZ I hg hm boot_enumerate (ck (bG (ha pos pins s U H (λvs H1=>match vs with
   |[x]=>(match x with
    |.a b=>∃xs,Rd H1 b (.a xs)/\k (λH'=>Rd H' b<|.a xs) (qv 0 xs) H1
    |_=>bu)
   |_=>bu) I h) λus s1 ⟨vs,H1,I1,r1,q⟩=>?_) hs rfl))
 match vs,r1,q with
 |[],r1,q=>cases q
 |_::_::_,r1,q=>cases q
 |[x],r1,q=>
  let#[u,rfl,ru]:=vals1 r1;cases x with
  |a b=>
   cases ru;let#[xs,hx,q]:=q;let#[its,rv,pl,hz]:=I1.list (.inl hx:jg X.K H1 b xs);refine call_enumerate_list pl.isList λh' he' hi' hz' hk'=>?_;refine DF he' ?_;refine#[s1.heap.objs.size+1,[s1.heap.objs.size+1,s1.heap.objs.size],_,_,H1,rfl,I1.kept hk',Tj b _ _<|Nat.succ_ne_self _,#[#[_,he'],hi'],λc hc=>?_,_,_,To,q];have hc:c=s1.heap.objs.size+1\/c=s1.heap.objs.size:=by simpa using hc
   rcases hc with rfl|rfl
   .exact I1.vM (jN _) (I1.hok.fresh<|jN _)
   .exact I1.vM (aM _) (I1.hok.fresh<|aM _)
  |_=>cases q
def abg{te:TE}{p pos:Pos}(hg:Gl X "reversed")(hm:X.mg "reversed"=B)(he:PE X e te)(hs:eO [e] X.env=[(J,eval e X.env)]):IS X tg (.Call (.Name "reversed" p) [e] [] pos) (λU H k=>te U H λx H1=>match x with
   |.a b=>∃xs,Rd H1 b (.a xs)/\k (λH'=>Rd H' b<|.a xs) (xs.reverse.map .v) H1
   |_=>bu):=by
 intro pins s U H k I h;have ha:=C6 he Fc hs;refine G1 (iZ I hg hm KH (ck (bG (ha pos pins s U H (λvs H1=>match vs with
   |[x]=>(match x with
    |.a b=>∃xs,Rd H1 b (.a xs)/\k (λH'=>Rd H' b<|.a xs) (xs.reverse.map .v) H1
    |_=>bu)
   |_=>bu) I h) λus s1 ⟨vs,H1,I1,r1,q⟩=>?_) hs rfl))
 match vs,r1,q with
 |[],r1,q=>cases q
 |_::_::_,r1,q=>cases q
 |[x],r1,q=>
  let#[u,rfl,ru]:=vals1 r1;cases x with
  |a b=>
   cases ru;let#[xs,hx,q]:=q;let#[its,rv,pl,hz]:=I1.list (.inl hx:jg X.K H1 b xs);refine CT pl.isList ?_;have el:its.toArray.size=zl xs:=by rw[aT];exact rv.length.symm
   rw[el];refine AH #[_,aU _ rfl,rfl,rfl] ?_;refine#[s1.heap.objs.size,[s1.heap.objs.size],_,_,H1,rfl,I1.kept λb o e=>aq _ e,WO b _<|zl xs,#[c7 _,_,aU _ rfl,rfl,by simp[revObj]],λc hc=>?_,λH'=>Rd H' b<|.a xs,_,WQ.mono λH' o=>.inl o,q];have hc:c=s1.heap.objs.size:=by simpa using hc
   subst hc;exact I1.vM (aM _)<|I1.hok.fresh<|aM _
  |_=>cases q
def Tp{p pos:Pos}(hg:Gl X "range")(hm:X.mg "range"=B)(ha:PA X (e::es) ta)(he:eO (e::es) X.env=(J,eval e X.env)::eO es X.env)(hpl:(qh pos<|eO es X.env).any (·.1)=J):IS X tg (.Call (.Name "range" p) (e::es) [] pos) (λU H k=>ta U H λvs H1=>Fk vs H1 k):=by
 intro pins s U H k I h;refine G1<|iZ I hg hm boot_range<|ck (bG (ha pos pins s U H _ I h) λus s1 ⟨vs,H1,I1,r1,q⟩=>?_) he hpl;have q:Fk vs H1 k:=q;rcases vs with _|⟨v,_|⟨v2,r⟩⟩
 .exact bU q
 .cases v<;>first|exact bU q|skip
  let#[#[q1,q2],q]:=q;let#[u,rfl,ru]:=vals1 r1;let#[t,rfl]:=ru;refine Nz (range_it' I1 (by lia) (by lia) q1 q2 ?_);simpa using q
 .cases v<;>exact bU q
end
section
variable{P:br}{w:bE}{H:Hp}{h h':Heap}{a:Addr}{o:HO}
def Tq(x:gZ P w H h)(hn:H a=B)(new:fR P w (upd H a o) h a o):gZ P w (upd H a o) h:=λb u e=>by
 by_cases hb:b=a
 .subst hb;rw[c5]at e;cases e;exact new
 .rw[bq hb]at e;exact(x b u e).stay (λc v _ q=>q) (λc q=>by rw[bq<|bZ q hn];exact q) (λc xs q=>by rw[bq<|bZ q hn];exact q) λc o xs q=>by rw[bq<|bZ q hn];exact q
end
noncomputable def s9(cells:L<|Str×Addr):L (Str×jn)->L (Str×Addr)->L (Str×Addr)
|[],acc=>acc
|(n,k)::r,acc=>if(k==.free)=W then(match cells.lookup n with|some c=>s9 cells r ((n,c)::acc)|none=>s9 cells r acc)else s9 cells r acc
theorem zW:∀(names:L<|Str×jn) (acc:L<|Str×Addr),(∀n,(n,dK)∈names->∃c,env.cells.lookup n=M c)->
 (forIn names acc λ(x:Str×jn) (r:L<|Str×Addr)=>(match x with
  |(name,kind)=>if(kind==.free)=W then(do let a <-VW env name;pure (lV ((name,a)::r)))else pure (lV r):Sem<|ForInStep<|L<|Str×Addr))=pure (s9 env.cells names acc)
|[],acc,_=>rfl
|(n,k)::r,acc,hn=>by
 rw[List.forIn_cons];have hr:=λm hm=>hn m<|az _ hm;unfold s9;by_cases hk:(k==dK)=W
 .have e:k=.free:=by simpa using hk
  subst e;let#[c,hc]:=hn n aD;have hco:VW env n=pure c:=by unfold VW;rw[hc]
  simp only[hc,hco,jL,ki];exact zW r _ hr
 .simp only[hk,kQ];exact zW r _ hr
def AO(h:∀n,(n,dK)∈scope.names->∃c,env.cells.lookup n=M c):closureFor scope env=pure (s9 env.cells scope.names []):=by
 have e:=zW scope.names [] h;exact wY (qQ (λt=>t >>= λcs=>pure cs) e) rfl
theorem zX:∀(names:L<|Str×jn) (acc:L<|Str×Addr),(∀x c,acc.lookup x=M c->cells.lookup x=M c)->∀x c,(s9 cells names acc).lookup x=M c->cells.lookup x=M c
|[],acc,h=>h
|(n,k)::r,acc,h=>by
 unfold s9;by_cases hk:(k==dK)=W
 .simp only[hk,ki];cases hc:cells.lookup n with
  |none=>exact zX r acc h
  |some c=>
   refine zX r _ λx d hx=>?_;rw[eW]at hx;cases e:x==n with
   |true=>lia
   |false=>rw[e]at hx;exact h x d hx
 .simp only[hk,kQ];exact zX r acc h
theorem vV:∀(names:L<|Str×jn) (acc:L<|Str×Addr) (x:Str),((∃c,acc.lookup x=M c)\/((x,dK)∈names/\∃c,cells.lookup x=M c))->∃c,(s9 cells names acc).lookup x=M c
|[],acc,x,h=>by
 rcases h with h|⟨h,_⟩
 .exact h
 .cases h
|(n,k)::r,acc,x,h=>by
 unfold s9;by_cases hk:(k==dK)=W
 .simp only[hk,ki];have ek:k=.free:=by simpa using hk
  subst ek;cases hc:cells.lookup n with
  |none=>
   refine vV r acc x ?_;rcases h with h|⟨h,h2⟩
   .exact .inl h
   .rcases aY.mp h with e|h
    .cases e;let#[c,hc2]:=h2;rw[hc]at hc2;cases hc2
    .exact .inr #[h,h2]
  |some c=>
   refine vV r _ x ?_;by_cases e:x=n
   .subst e;exact .inl #[c,by rw[eW];simp]
   .grind
 .simp only[hk,kQ];refine vV r acc x ?_;rcases h with h|⟨h,h2⟩
  .exact .inl h
  .grind
def rJ{α:Type}{m x:Str}{n c:α}{acc:L<|Str×α}(h:((m,n)::acc).lookup x=M c):(x=m/\c=n)\/((x=m->bu)/\acc.lookup x=M c):=by grind
theorem zY:∀(names:L<|Str×jn) (n:Nat) (acc:L<|Str×Addr) (x:Str) (c:Addr),(fV n names acc).lookup x=M c->(n<=c/\(x,dM)∈names)\/((x,dM)∉names/\acc.lookup x=M c)
|[],_,_,_,_,h=>.inr #[(λz=>nomatch z),h]
|(m,k)::r,n,acc,x,c,h=>by
 unfold fV at h;by_cases hk:(k==dM)=W
 .rw[aQ hk]at h;have ek:k=.cell:=by simpa using hk
  subst ek;rcases zY r (n+1) _ x c h with⟨h1,h2⟩|⟨h1,h2⟩
  .exact .inl #[by lia,az _ h2]
  .rcases rJ h2 with⟨e1,e2⟩|⟨e1,e2⟩
   .subst e1;subst e2;exact .inl #[aM _,aD]
   .refine .inr #[λz=>?_,e2];rcases aY.mp z with q|q
    .cases q;exact e1 rfl
    .exact h1 q
 .rw[aE hk]at h;rcases zY r n acc x c h with⟨h1,h2⟩|⟨h1,h2⟩
  .exact .inl #[h1,az _ h2]
  .grind
theorem Es:∀(names:L<|Str×jn) (n:Nat) (acc:L<|Str×Addr) (x:Str),(x,dM)∉names->(fV n names acc).lookup x=acc.lookup x
|[],_,_,_,_=>rfl
|(m,k)::r,n,acc,x,h=>by
 unfold fV;by_cases hk:(k==dM)=W
 .rw[aQ hk,Es r _ _ x λz=>h<|az _ z,eW];have ek:k=.cell:=by simpa using hk
  have ne:(x==m)=J:=fX.mpr λz=>h (by rw[z,ek];exact aD);rw[ne]
 .rw[aE hk];exact Es r _ _ x λz=>h<|az _ z
theorem Hr:∀(names:L<|Str×jn) (n:Nat) (acc:L<|Str×Addr) (x:Str),(x,dM)∈names\/(∃c,acc.lookup x=M c)->∃c,(fV n names acc).lookup x=M c
|[],_,_,_,h=>by
 rcases h with h|h
 .cases h
 .exact h
|(m,k)::r,n,acc,x,h=>by
 unfold fV;by_cases hk:(k==dM)=W
 .rw[aQ hk];refine Hr r _ _ x ?_;by_cases e:x=m
  .subst e;exact .inr #[n,by rw[eW];simp]
  .grind
 .rw[aE hk];refine Hr r _ _ x ?_;rcases h with h|h
  .grind
  .exact .inr h
theorem Hs:∀(names:L<|Str×jn) (n:Nat) (acc:L<|Str×Addr),(∀x c,acc.lookup x=M c->c<n)->(∀x y c,acc.lookup x=M c->acc.lookup y=M c->x=y)->∀x y c,(fV n names acc).lookup x=M c->(fV n names acc).lookup y=M c->x=y
|[],_,_,_,h=>h
|(m,k)::r,n,acc,hb,h=>by
 unfold fV;by_cases hk:(k==dM)=W
 .rw[aQ hk];refine Hs r _ _ (λx c hx=>?_) λx y c hx hy=>?_
  .rcases rJ hx with⟨_,e⟩|⟨_,e⟩
   .rw[e];exact ir _
   .exact pZ (hb x c e)
  .rcases rJ hx with⟨e1,e2⟩|⟨_,e2⟩<;>rcases rJ hy with⟨e3,e4⟩|⟨_,e4⟩
   .rw[e1,e3]
   .exact aC (hb y c e4) (by rw[e2];exact dm _)
   .exact aC (hb x c e2) (by rw[e4];exact dm _)
   .exact h x y c e2 e4
 .rw[aE hk];exact Hs r n acc hb h
theorem Et:∀(names:L<|Str×jn) (h:Heap) (acc:L<|Str×Addr) (x:Str) (c:Addr),(fV h.objs.size names acc).lookup x=M c->(pushCells h names).IsCell c B\/acc.lookup x=M c
|[],_,_,_,_,e=>.inr e
|(m,k)::r,h,acc,x,c,e=>by
 unfold fV at e;unfold pushCells;by_cases hk:(k==dM)=W
 .rw[aQ hk]at e ⊢;have e':(fV (h.push { cls:=.type "cell",data:=.cell B }).objs.size r ((m,h.objs.size)::acc)).lookup x=M c:=by rw[iC];exact e
  rcases Et r _ _ x c e' with q|q
  .exact .inl q
  .rcases rJ q with⟨_,e2⟩|⟨_,e2⟩
   .subst e2;exact .inl #[_,xT r _ _ _<|aU _ rfl,rfl]
   .exact .inr e2
 .rw[aE hk]at e ⊢;exact Et r h acc x c e
def WU{E:Z->aj->Prop}{Q:Env->aj->Prop}(hQ:∀h',h'.Ns s.heap.objs.size (λ_=>B)->(∀b o,s.heap.get? b=M o->h'.get? b=M o)->(∀x c,(fV (s.heap.objs.size+1) scope.names closure).lookup x=M c->h'.IsCell c B\/closure.lookup x=M c)->
   Q { scope,locals:=s.heap.objs.size,globals:=env.globals,cells:=fV (s.heap.objs.size+1) scope.names closure,qual:=env.qual,func:=B,code:=env.code,frame:=env.frame,builtins:=env.builtins } { s with heap:=h' }):
  aG aab A (zC scope env.globals closure [] env.qual B .none<|M env) Q E s:=by
 simp only[zC,CF,ki];refine ah<|OB ?_;refine ah (wpAny_layCells _ (λname kind cells=>by cases hkc:kind==dM<;>simp[hkc]) _ _ _ _ ?_);have hc:=Et scope.names (s.heap.push { cls:=.type "dict",data:=.dict #[] }) closure;rw[iC]at hc;rw[show({ s with heap:=s.heap.push { cls:=.type "dict",data:=.dict #[] } }:aj).heap.objs.size=s.heap.objs.size+1 from iC ..];rw[List.forIn_nil];exact ah<|au<|au<|hQ _ ((Heap.Ns.new s.heap<|.type "dict").keeps<|xT _ _) (λb o e=>xT _ _ b o<|aq _ e) hc
def j5(X:Cx)(N:L Str)(scope:iM)(C:Addr)(ajg:aj)(ajr:Hp)(ex:L Addr):Cx where
 prog:=X.prog
 w:=X.w
 K:=X.K
 mg:=X.mg
 base:=X.base
 A:=X.A
 N:=N
 ajg:=ajg
 ajr:=ajr
 env:=compEnvC scope (fV (C+1) scope.names<|s9 X.env.cells scope.names []) C X.env
 outer:=X.stack
 stack:=X.stack
 ex:=ex
 fn:=λx=>scope.names.lookup x==M .cell
 calm:=X.calm
 pn:=[]
 xe:=λ_ _=>bu
def Fw(X:Cx):Prop:=bu
def OY(X:Cx)(ifs:L Expr)(t:TT):Prop:=
 ∀(pins:L<|Addr×Obj) (s:aj) (U:L2.St) (H:Hp) (Q:Bool->Hp->Prop),L2.Inv X pins U H s->t U H Q->
  aG (aJ X.prog X.w) X.A (forIn ifs W λc r=>if r=W then do let ok <-wH c X.env (eval c X.env);pure (lV ok)else pure (lV r)) (TP X pins U Q) X.xe s
def abh:OY X [] (λ_ H Q=>Q W H):=λ_ _ _ H _ I h=>wpAny_tests_nil #[H,I,h]
def abi(h:PT X c t):OY X [c] t:=λpins s U H Q I q=>wpAny_tests_one<|h pins s U H Q I q
section
variable{prog:br}{w:bE}{A:b7}{R:Cv->aj->Prop}{s:aj}
def Tt(I:Nat->aj->Prop)(turn:∀n s,I n s->aG (aJ prog w) A (uz it) (λr aji=>match r with
   |none=>R (.ok .next) aji
   |some v=>aG (aJ prog w) A (rX target it v) (λ_ ajj=>aG (aJ prog w) A (zp target env v) (λ_ ajp=>
     aG (aJ prog w) A (forIn ifs W λc r=>if r=W then do let ok <-wH c env (eval c env);pure (lV ok)else pure (lV r))
      (λok aju=>if ok=W then aG (aJ prog w) A (eval elt env) (λx ajI=>aG (aJ prog w) A (call (.builtin "list.append") [acc,x]) (λ_ ajJ=>∃m,m<n/\I m ajJ) (λ_ _=>bu) ajI) (λ_ _=>bu) aju
       else ∃m,m<n/\I m aju) (λ_ _=>bu) ajp) (λ_ _=>bu) ajj) (λ_ _=>bu) aji) (λ_ _=>bu) s)(n:Nat)(h:I n s):jW (aJ prog w) A (.compLoop (.ListComp elt [#[target,iter,ifs,0]] scope pos) 0 it acc env) R s:=by
 refine codeAny_loop rfl I (λn s hI=>?_) n h;show aG _ A ((compTurn (.ListComp elt [#[target,iter,ifs,0]] scope pos) 0 it acc env).onRaise λx=>do JX x env;theTreesLotGoes x) _ _ s;refine wpAny_noted<|wpAny_noRaise ?_;rw[compTurn_list];refine ah<|qH<|ah<|bG (turn n s hI) λr aji ajl=>?_;cases r with
 |none=>exact au ajl
 |some v=>
  refine ah<|bG ajl λ_ ajj ajv=>ah<|bG ajv λ_ ajp ajt=>ah<|bG ajt λok aju ajK=>?_;cases ok with
  |false=>exact au #[rfl,ajK]
  |true=>exact ah<|ah<|bG ajK λx ajI ajQ=>ah<|bG ajQ λ_ ajJ ajR=>au<|au #[rfl,ajR]
end
structure ZQ (Cm:Cx->Prop) (P:br) (w:bE) (K:ak) (tg:Expr) (aae:It) (fp:L Addr) (it:Addr) (tn:Nat->Heap->Prop):Prop where
 obj:∀i h,tn i h->∀b∈fp,∃o,h.get? b=M o/\∀v,o.data≠.cell v
 keep:∀i h h',tn i h->(∀b∈fp,∀o,h.get? b=M o->h'.get? b=M o)->tn i h'
 item:∀(X:Cx),X.prog=P->X.w=w->X.K=K->Cm X->∀(i:Nat) (pins:L (Addr×Obj)) (s:aj) (U:L2.St) (H:Hp) (E:Z->aj->Prop),L2.Inv X pins U H s->(∀b∈fp,ou X pins H b)->tn i s.heap->aae.go i H->
  aG (aJ P w) X.A (uz (.ref it)) (λr s1=>∃u,r=M u /\
   aG (aJ P w) X.A (rX tg (.ref it) u) (λ_ s2=>∃x H',L2.Inv X pins U H' s2/\RelV x u/\aae.yld i H x H'/\tn (i+1) s2.heap/\∀b∈fp,H' b=B) E s1) E s
 done:∀(X:Cx),X.prog=P->X.w=w->X.K=K->Cm X->∀(i:Nat) (pins:L (Addr×Obj)) (s:aj) (U:L2.St) (H:Hp) (E:Z->aj->Prop),L2.Inv X pins U H s->(∀b∈fp,ou X pins H b)->tn i s.heap->aae.stop i H->
  aG (aJ P w) X.A (uz (.ref it)) (λr s1=>r=B/\L2.Inv X pins U H s1) E s
 self:∀(A:b7) (i:Nat) (s:aj) (Q:Z->aj->Prop) (E:Z->aj->Prop),tn i s.heap->Q (.ref it) s->aG (aJ P w) A (qi (.ref it)) Q E s
def ZR{w:bE}{K:ak}{tg:Expr}{aae:It}{fp:L Addr}{it:Addr}{tn:Nat->Heap->Prop}(T:Turn P w K tg aae fp it tn):ZQ (λX=>X.calm=W) P w K tg aae fp it tn:=#[T.obj,T.keep,T.item,T.done,T.self]
noncomputable abbrev s_(its:L Z)(n:Nat):Obj:={ cls:=.type "list",data:=.seq its.toArray n }
section
variable{X:Cx}{pins:L (Addr×Obj)}{U:L2.St}{H:Hp}{ajj:aj}{tgt iter elt:Expr}{ifs:L Expr}{scope:iM}{pos:Pos}{N:L Str}{σ':L2.St}{it:Addr}{fp:L Addr}{tn:Nat->Heap->Prop}{aae:It}
 {ok:Hp->Prop}{items:L Item}{g:TG}{cond:TT}{te:TE}{k:L V->Hp->Prop}{E:Z->aj->Prop}{RR:Z->Addr->Cv->aj->Prop}
def Fx{Cm:Cx->Prop}(hc:∀(C:Addr) (ajg:aj) (ex:L Addr),(∀b o,ajj.heap.get? b=M o->ajg.heap.get? b=M o)->(∀b∈ex,ajj.heap.objs.size<=b\/b∈fp)->Cm (j5 X N scope C ajg H ex))(I:L2.Inv X pins U H ajj)(T:ZQ Cm X.prog X.w X.K tgt aae fp it tn)(st:tn 0 ajj.heap)(hf:∀b∈fp,ou X pins H b)(hJ:uK aae ok items)(hcell:∀y∈scope.names,y.2=.free->(y.1,dM)∉scope.names)(hkind:scope.kind=.function)(hfree:∀n,(n,dK)∈scope.names->∃c,X.env.cells.lookup n=M c)(hlen:σ'.length=N.length)(hσ:∀(i:Nat) (x:Str) (v:V),N[i]?=M x->σ'[i]?=M (M v)->(x,dK)∈scope.names/\(pN scope X.env).names.lookup x≠M .local/\∃c u,X.env.cells.lookup x=M c/\RelV v u/\ajj.heap.IsCell c (M u))(hvis:∀x,(pN scope X.env).names.lookup x=M .cell\/(pN scope X.env).names.lookup x=M .free->(x,dK)∈scope.names\/(x,dM)∈scope.names)(hg:∀(C:Addr) (ajg:aj) (ex:L Addr),Cm (j5 X N scope C ajg H ex)->PG (j5 X N scope C ajg H ex) tgt g)(ht:∀(C:Addr) (ajg:aj) (ex:L Addr),Cm (j5 X N scope C ajg H ex)->OY (j5 X N scope C ajg H ex) ifs cond)(he:∀(C:Addr) (ajg:aj) (ex:L Addr),Cm (j5 X N scope C ajg H ex)->PE (j5 X N scope C ajg H ex) elt te)(h:vn ok g cond te k items [] σ' H)(hRR:∀D C s' H2 vs,H2 D=B->k vs H2->L2.Inv X pins U (upd H2 D<|.a vs) s'->ou X pins (upd H2 D<|.a vs) C->(∃m,s'.heap.Ns C m)->RR (.ref D) C (.ok .next) s'):aG (aJ X.prog X.w) X.A (newList []) (λacc ajp=>aG (aJ X.prog X.w) X.A (zC scope X.env.globals (s9 X.env.cells scope.names []) [] X.env.qual B .none<|M X.env) (λcenv aju=>
   jW (aJ X.prog X.w) X.A (.compStart (.ListComp elt [#[tgt,iter,ifs,0]] scope pos) 0 (.ref it) acc { cenv with scope:=pN scope X.env }) (RR acc cenv.locals) aju) E ajp) E ajj:=by
 refine dZ<|WU λajl ajx ajy ajz=>?_;dsimp only at ajx ajy ajz ⊢;generalize ajw:({ ajj with heap:=ajj.heap.push { cls:=.type "list",dict:=B,data:=.seq ([]:L Z).toArray } }:aj)=ajg at ajx ajy ajz ⊢;have ajA:ajg.heap=ajj.heap.push { cls:=.type "list",dict:=B,data:=.seq ([]:L Z).toArray }:=by rw[<-ajw]
 have hH2:=ajA.symm;have eos:ajg.os=ajj.os:=by rw[<-ajw]
 have egn:ajg.gens=ajj.gens:=by rw[<-ajw]
 have etk:ajg.toks=ajj.toks:=by rw[<-ajw]
 rw[hH2]at ajx ajy ajz ⊢;have hsz:ajg.heap.objs.size=ajj.heap.objs.size+1:=by rw[ajA,iC]
 generalize hD:ajj.heap.objs.size=D at *;generalize hC:ajg.heap.objs.size=C at *;have hDC:D≠C:=by rw[hsz];exact aZ<|ir _
 have up:∀b o,ajj.heap.get? b=M o->ajg.heap.get? b=M o:=λb o e=>by rw[ajA];exact aq _ e
 have lt2:∀b o,ajj.heap.get? b=M o->b<D:=λb o e=>by rw[<-hD];exact aF e
 have up1:∀b o,ajg.heap.get? b=M o->ajl.get? b=M o:=ajy;have ajS:ajg.heap.get? D=M (s_ [] 0):=by rw[ajA,<-hD];exact aU _ rfl
 have fpD:∀b∈fp,b<D:=λb hb=>by let#[o,e,_]:=T.obj 0 _ st b hb;exact lt2 b o e
 have cellD:∀x c,X.env.cells.lookup x=M c->c<D:=λx c e=>by let#[v,q]:=I.cell x c e;let#[o,ho,_]:=q;exact lt2 c o ho
 have DltC:D<C:=by rw[hsz];exact ir _
 have fpC:∀b∈fp,b≠C:=λb hb=>aZ<|gx (fpD b hb) DltC;have fpnD:∀b∈fp,b≠D:=λb hb=>aZ<|fpD b hb;have freshH:∀b,D<=b->H b=B:=λb hb=>I.hok.fresh (by rw[hD];exact hb)
 let ex:=D::fp
 let X':=j5 X N scope C ajg H ex
 have hcm:Cm X':=hc C ajg ex up λb hb=>(aY.mp hb).elim (λz=>.inl<|CJ z.symm) .inr;have clsub0:∀x c,(s9 X.env.cells scope.names []).lookup x=M c->X.env.cells.lookup x=M c:=zX _ _ (λx c e=>by simp at e);have clsub:∀x c,X'.env.cells.lookup x=M c->C<c\/X.env.cells.lookup x=M c:=λx c e=>by
  rcases zY _ _ _ _ _ e with⟨q,_⟩|⟨_,q⟩
  .exact .inl q
  .exact .inr (clsub0 x c q)
 have neD:∀x c,X'.env.cells.lookup x=M c->c≠D:=λx c e z=>by
  rcases clsub x c e with q|q
  .rw[z]at q;exact dm _<|gx q DltC
  .exact aZ (cellD x c q) z
 have neF:∀x c,X'.env.cells.lookup x=M c->∀b∈fp,c≠b:=λx c e b hb z=>by
  rcases clsub x c e with q|q
  .rw[z]at q;exact dm _<|gx (gx q<|fpD b hb) DltC
  .exact(hf b hb).2.2.2.2.1 x c q z
 have stkD:∀b∈frs X.stack,b<D:=λb hb=>by
  rcases aY.mp (I.yN b hb)with e|hb
  .rw[e,<-hD];exact I.lt
  .obtain⟨_,o,ho,_⟩:=I.rF.mem hb;exact lt2 b o ho
 have ok':X'.Ok:=by
  refine#[I.ok.mod,?_,I.ok.glob,I.ok.blt,CJ hC,Hs _ _ _ (λx c e=>pZ<|gx (cellD x c<|clsub0 x c e) DltC) λx y c h1 h2=>I.ok.inj x y c (clsub0 x c h1)<|clsub0 y c h2,λx hx=>?_,λx c hx=>?_,I.ok.hd,I.ok.frames,.inl rfl,λb hb=>?_,λb o e=>?_,?_,λb o e hb=>?_,λb hb z=>?_,?_,#[I.G9,I.tb]]
  .exact hkind
  .refine Hr _ _ _ x ?_;rcases hvis x hx with q|q
   .obtain⟨c,hc'⟩:=hfree x q;exact .inr<|vV _ _ x<|.inr #[q,c,hc']
   .exact .inl q
  .intro hx2;have hm:(x,dM)∈scope.names:=fW (by simpa using(show(scope.names.lookup x==M .cell)=W from hx));rcases zY _ _ _ _ _ hx2 with⟨q,_⟩|⟨q,_⟩
   .show ajg.heap.objs.size<=c;rw[hC];exact dG q
   .exact aC hm q
  .rcases aY.mp hb with e|hb
   .subst e;exact#[hDC,neD]
   .refine#[?_,λx c e=>neF x c e b hb];exact fpC b hb
  .exact#[up b o (I.bs b o e).1,(I.bs b o e).2]
  .show X.base.objs.size<=ajg.heap.objs.size;refine fB (fB I.ok.bsz I.sz) ?_;rw[hD,hC];exact dG DltC
  .have hbD:b<D:=lt2 b o<|I.bk b o e;rcases aY.mp hb with q|hb
   .exact aZ hbD q
   .rcases(hf b hb).2.2.2.1 with q|q
    .exact I.ok.noex b o e q
    .have h1:=aF (I.ok.bs b o e).1;exact aC (bQ h1 q)<|dm _
  .rcases aY.mp hb with q|hb
   .exact aZ (stkD b z) q
   .obtain⟨_,f1,f2,_⟩:=hf b hb;rcases aY.mp (I.yN b z)with q|q
    .exact f1 q
    .exact f2 q
  .have hfr:=I.stack;have keepF:∀l:L Env,ajj.heap.FunFrames X.base l->ajg.heap.FunFrames X.base l:=by
    intro l;induction l with
    |nil=>intro _;trivial
    |cons env r ih=>
     intro hl;let#[hk,#[aac,o,hf',hn,ho,hd],hr]:=hl;exact#[hk,#[aac,o,hf',hn,up aac o ho,hd],ih hr]
   exact keepF _ hfr
 have fpok:∀(H':Hp) (its:L Z) (n:Nat),(∀b∈fp,H' b=B)->∀b∈fp,ou X' [(D,s_ its n)] H' b:=λH' its n hn b hb=>by
  refine#[hn b hb,?_,?_,.inl<|az _ hb,λx c e=>neF x c e b hb,λp hp=>?_]
  .exact fpC b hb
  .intro z;let#[_,f1,f2,_]:=hf b hb;rcases aY.mp (I.yN b z)with q|q
   .exact f1 q
   .exact f2 q
  .have hp:p∈[(D,s_ its n)]:=hp;have e:p=(D,s_ its n):=by simpa using hp
   subst e;exact dc<|fpnD b hb
 have pinD:∀(s:aj) (H':Hp) (its:L Z) (n:Nat),s.heap.get? D=M (s_ its n)->H' D=B->∀p∈[(D,s_ its n)],s.heap.get? p.1=M p.2/\H' p.1=B/\p.1≠X'.env.locals/\p.1∉X'.fs/\∀v,p.2.data≠.cell v:=by
  intro s H' its n e hn p hp;have q:p=(D,s_ its n):=by simpa using hp
  subst q;refine#[e,hn,hDC,λz=>?_,λv z=>nomatch z];exact dm _<|stkD D z
 let Iv:Nat->aj->Prop:=λn s=>∃(i:Nat) (acc:L V) (its:L Z) (m:Nat) (σ1:L2.St) (H1:Hp),n=items.length+1-i/\i<=items.length/\L2.Inv X' [(D,s_ its m)] σ1 H1 s/\tn i s.heap/\(∀b∈fp,H1 b=B)/\bO acc its/\acc.length<=ao /\
  vn ok g cond te k (items.drop i) acc σ1 H1
 have start:∀tk,L2.Inv X' [(D,s_ [] 0)] σ' H { ajg with heap:=ajl,toks:=tk }:=λtk=>by
  refine#[ok',rfl,by show nJ ajg.gens;rw[egn];exact I.bare,Un.kept up1,#[_,ajx,λi x v h1 h2 h3=>?_],λx c e=>?_,freshH C<|dG DltC,λx c e=>?_,λp hp=>?_,?_,hlen]
  .obtain⟨hx,hnl,c,u,hcu,ru,cellu⟩:=hσ i x v h1 h2;refine#[u,ru,.inr #[?_,?_]]
   .rcases h3 with q|q|q
    .exact aC q hnl
    .exact .inl q
    .exact .inr q
   .obtain⟨c',hc'⟩:=vV (cells:=X.env.cells) scope.names [] x<|.inr #[hx,c,hcu];have e1:=clsub0 x c' hc';rw[hcu]at e1;cases e1;let#[o,ho,hd]:=cellu;exact#[c,(Es _ _ _ x<|hcell _ hx rfl).trans hc',o,up1 _ _<|up _ _ ho,hd]
  .rcases ajz x c e with q|q
   .exact#[B,q]
   .obtain⟨v,o,ho,hd⟩:=I.cell x c<|clsub0 x c q;exact#[v,o,up1 _ _<|up _ _ ho,hd]
  .rcases clsub x c e with q|q
   .exact freshH c (dG<|gx DltC q)
   .exact I.freeC x c q
  .exact pinD { ajg with heap:=ajl,toks:=tk } H [] 0 (up1 _ _ ajS) (freshH D<|aM _) p hp
  .have hk:gZ X.prog X.w H ajl:=I.hok.kept λb u e=>up1 b u<|up b u e;exact hk
 have loop:∀tk,jW (aJ X.prog X.w) X.A (.compLoop (.ListComp elt [#[tgt,iter,ifs,0]] scope pos) 0 (.ref it) (.ref D) X'.env) (RR (.ref D) C) { ajg with heap:=ajl,toks:=tk }:=λtk=>by
  refine Tt Iv ?_ (items.length+1) #[0,[],[],0,σ',H,rfl,c7 _,start tk,T.keep 0 _ _ st λb hb o e=>up1 b o<|up b o e,λb hb=>(hf b hb).1,.nil,c7 _,by simpa using h];rintro n s ⟨i,acc,its,m,σ1,H1,rfl,hi,J1,st1,fr1,rv,hz,q⟩;by_cases hlt:i<items.length
  .rw[nY hlt]at q;let#[hok,hz1,q]:=q;have ei:items[i]?=M items[i]:=aB hlt;refine bG (T.item X' rfl rfl rfl hcm i _ s σ1 H1 _ J1 (fpok H1 its m fr1) st1<|hJ.go i H1 _ hok ei) λr s4 ⟨u,hr,h4⟩=>?_;subst hr;refine bG h4 λ_ s5 ⟨x,H5,I5,r5,y5,st5,fr5⟩=>?_;have I5':=I5.pinned (fpok H5 its m fr5)<|T.obj _ _ st5;refine bG (hg C ajg ex hcm _ s5 σ1 H5 x u _ I5' r5<|hJ.yld i H1 _ x H5 hok ei y5 _ q) λ_ s6 ⟨σ6,H6,I6,q6⟩=>?_;refine bG (ht C ajg ex hcm _ s6 σ6 H6 _ I6 q6) λb s7 ⟨H7,I7,q7⟩=>?_;have keepT:∀{σ8:L2.St}{H8:Hp}{s8:aj},L2.Inv X' ([(D,s_ its m)]++Bm fp s5.heap) σ8 H8 s8->tn (i+1) s8.heap/\(∀b∈fp,H8 b=B):=λ{σ8 H8 s8} I8=>by
    refine#[T.keep _ _ _ st5 λb hb o e=>(I8.pin (b,o)<|bw _<|bw _<|vj hb e).1,λb hb=>?_];let#[o,e,_]:=T.obj _ _ st5 b hb;exact(I8.pin (b,o)<|bw _<|bw _<|vj hb e).2.1
   cases b with
   |false=>
    have q7:=(aE aN)▸q7;let#[t1,t2]:=keepT I7;exact#[items.length+1-(i+1),by omega,i+1,acc,its,m,σ6,H7,rfl,hlt,I7.zR,t1,t2,rv,hz,by simpa using q7]
   |true=>
    have q7:te σ6 H7 (λy H4=>vn ok g cond te k (items.drop<|i+1) (acc++[y]) σ6 H4):=by simpa using q7
    refine bG (he C ajg ex hcm _ s7 σ6 H7 _ I7 q7) λyv s8 ⟨y,H8,I8,r8,q8⟩=>?_;let#[t1,t2]:=keepT I8;have hD8:=I8.pin (D,s_ its m)<|bw _<|cF _<|aL.mpr rfl;let#[e8,n8,_]:=hD8;have hl:=rv.length;refine lR F.slot_list_append #[_,e8,rfl] F.entry_list_append (F.args_list_append_2 _ _) (DA D its.toArray m yv (by rw[aT];lia)) #[e8,?_];have I9:L2.Inv X' [] σ6 H8 s8:=I8.C5 λp hp=>nomatch hp
    have kk:∀b o,b≠D->s8.heap.get? b=M o->(s8.heap.update D<|fJ λx=>x.push yv).get? b=M o:=λb o hb e=>(bM _ _<|dc hb).trans e;have I10:L2.Inv X' [] σ6 H8 { s8 with heap:=s8.heap.update D<|fJ λx=>x.push yv,toks:=s8.toks }:=
     I9.turned kk n8 hDC (.inl aD) neD λp hp=>nomatch hp
    have e9:=EY e8 λx=>x.push yv;rw[List.push_toArray]at e9;obtain⟨m',e10⟩:∃m',({ s8 with heap:=s8.heap.update D<|fJ λx=>x.push yv,toks:=s8.toks }:aj).heap.get? D=M (s_ (its++[yv]) m'):=#[_,e9];refine#[items.length+1-(i+1),by omega,i+1,acc++[y],its++[yv],m',σ6,H8,rfl,hlt,I10.C5<|pinD _ H8 _ m' e10 n8,?_,t2,rv.append #v[r8],by rw[aW,g9];lia,q8];exact T.keep _ _ _ t1 λb hb o e=>kk b o (fpnD b hb) e
  .rw[l_<|by omega]at q;let#[hok,q]:=q;refine bG (T.done X' rfl rfl rfl hcm i _ s σ1 H1 _ J1 (fpok H1 its m fr1) st1 (hJ.stop i H1 hok<|by omega)) λr s4 ⟨hr,I4⟩=>?_;subst hr;let#[e4,n4,_]:=I4.pin (D,s_ its m)<|bw _<|aL.mpr rfl;let#[mC,hnC,_]:=I4.loc;have hCn:H1 C=B:=I4.free;have exD:∀b,b<D->b∉fp->b∉X'.ex:=λb hb hn z=>by
    rcases aY.mp z with q|q
    .exact aZ hb q
    .exact hn q
   have hok':gZ X.prog X.w (upd H1 D<|.a acc) s4.heap:=Tq I4.hok n4 #[hz,its,m,rv,e4];have hU:Un (frs X.stack) fp H (upd H1 D<|.a acc) ajj.heap s4.heap:=by
    have b4:=I4.base;refine#[λb o e n hb hx=>?_,λb o e n hb hx=>?_,λb o e n hx=>?_,λb o e hx=>?_,λb xs e=>?_,λb o u e=>?_,λb ps e=>?_]
    .exact b4.keep b o (up b o e) n hb (exD b (lt2 b o e) hx)
    .exact b4.slot b o (up b o e) n hb (exD b (lt2 b o e) hx)
    .rw[bq<|aZ<|lt2 b o e];exact b4.free b o (up b o e) n<|exD b (lt2 b o e) hx
    .exact b4.there b o (up b o e) (exD b (lt2 b o e) hx)
    .have z:=b4.tups b xs e;rw[bq<|bZ z n4];exact z
    .have z:=b4.aH b o u e;rw[bq<|bZ z n4];exact z
    .obtain⟨more,z⟩:=b4.tbls b ps e;exact#[more,by rw[bq<|bZ z n4];exact z]
   have I5:L2.Inv X pins U (upd H1 D<|.a acc) s4:=I.call' (ch:=fp) (I4.os.trans eos) hU hok' I4.bare λb hb=>by
    let#[f0,f1,f2,f3,f4,f5]:=hf b hb;exact#[f3,f1,f4,f5]
   refine hRR D C s4 H1 acc n4 q I5 ?_ #[mC,hnC];have hle:ajj.heap.objs.size<=C:=by rw[hD];exact dG DltC
   have z:=I.vM (H':=upd H1 D<|.a acc) (b:=C) hle (by rw[bq<|dc hDC];exact hCn);exact z
 subst ajw;exact codeAny_compStart_list (loop _)<|T.self _ 0 _ _ _ (T.keep 0 _ _ st λb hb o e=>up1 b o<|up b o e)<|loop _
end
noncomputable def mj(N nl:L Str)(fr:L Nat):L Str:=nl++fr.map λi=>N.getD i VL
noncomputable def Dc(nl:L Str)(fr:L Nat)(U:L2.St):L2.St:=nl.map (λ_=>B)++fr.map λi=>U.getD i B
structure yU (sc:iM) (N:L Str) (scope:iM) (nl:L Str) (fr:L Nat):Prop where
 kind:scope.kind=.function
 cell:∀y∈scope.names,y.2=.free->(y.1,dM)∉scope.names
 names:∀x∈scope.names,x.2=.local->scope.names.lookup x.1=M .local
 free:∀n,(n,dK)∈scope.names->sc.names.lookup n=M .cell\/sc.names.lookup n=M .free
 fr:∀i∈fr,∃x,N[i]?=M x/\scope.names.lookup x=M .free
def Bx(x:Str)(h:(pN scope env).names.lookup x=M .cell\/(pN scope env).names.lookup x=M .free):(x,dK)∈scope.names\/(x,dM)∈scope.names:=by
 have key:∃k,(x,k)∈(pN scope env).names/\(k=.cell\/k=.free):=by
  rcases h with h|h
  .exact#[_,fW h,.inl rfl]
  .exact#[_,fW h,.inr rfl]
 let#[k,hm,hk]:=key;unfold pN at hm;simp only[bK]at hm;let#[#[n,k0],h0,e]:=hm;simp only at e;split at e
 .lia
 .lia
theorem By{env:Env}:∀{names:L<|Str×jn}{x:Str},names.lookup x=M .free->
 (names.map λ(n,k)=>if(k==dK&&env.scope.kind==.function&&env.kindOf n==M .cell)then(n,dM)else(n,k)).lookup x≠M .local
|[],_,h=>by simp at h
|(n,k)::r,x,h=>by
 have ih:=@By env r x;show List.lookup x ((if(k==dK&&env.scope.kind==.function&&env.kindOf n==M .cell)=W then(n,dM)else(n,k))::_)≠_;cases hx:x==n with
 |true=>
  simp only[eW,hx]at h;cases h;by_cases hc:(dK==dK&&env.scope.kind==.function&&env.kindOf n==M .cell)=W
  .rw[aQ hc];simp only[eW,hx];decide
  .rw[aE hc];simp only[eW,hx];decide
 |false=>
  simp only[eW,hx]at h;by_cases hc:(k==dK&&env.scope.kind==.function&&env.kindOf n==M .cell)=W
  .rw[aQ hc];simp only[eW,hx];exact ih h
  .rw[aE hc];simp only[eW,hx];exact ih h
section
variable{X:Cx}{tgt iter elt:Expr}{ifs:L Expr}{scope:iM}{pos:Pos}{nl:L Str}{fr:L Nat}{wi:TIt}{g:TG}{cond:TT}{te:TE}
def Fy(S:yU X.env.scope X.N scope nl fr)(I:L2.Inv X pins U H s)(i:Nat)(x:Str)(v:V)(h1:(mj X.N nl fr)[i]?=M x)(h2:(Dc nl fr U)[i]?=M (M v)):(x,dK)∈scope.names/\(pN scope X.env).names.lookup x≠M .local/\∃c u,X.env.cells.lookup x=M c/\RelV v u/\s.heap.IsCell c (M u):=by
 unfold mj at h1;unfold Dc at h2;by_cases hi:i<zl nl
 .rw[fc (by simpa using hi),bz,aB hi]at h2;cases h2
 .rw[eU<|by lia]at h1;rw[eU (by simp;lia)]at h2;rw[bz]at h1 h2;rw[ai]at h2;cases e:fr[i-zl nl]? with
  |none=>rw[e]at h1;cases h1
  |some j=>
   rw[e]at h1 h2;have h1:=cA h1;have h2:=cA h2;let#[y,hy,hf]:=S.fr j<|jo e;have exy:y=x:=by
    rw[<-h1];simp[hy]
   subst exy;have hσ:U[j]?=M (M v):=by
    cases q:U[j]? with
    |none=>simp[q]at h2
    |some o=>
     simp[q]at h2;rw[h2]
   have hm:=fW hf;refine#[hm,By hf,?_];let#[m,hn,hl]:=I.loc;have hk:=S.free y hm;let#[u,ru,l]:=hl j y v hy hσ (by rcases hk with q|q;exact .inr<|.inl q;exact .inr<|.inr q);rcases l with⟨l,_⟩|⟨_,c,hc,hcell⟩
   .exfalso;have l:X.env.scope.names.lookup y=M .local:=l;rcases hk with q|q<;>rw[q]at l<;>cases l
   .exact#[c,u,hc,ru,hcell]
def xA(S:yU X.env.scope X.N scope nl fr)(I:L2.Inv X pins U H s):∀n,(n,dK)∈scope.names->∃c,X.env.cells.lookup n=M c:=λn hn=>I.ok.has n<|S.free n hn
def abj(hc:X.calm=W)(S:yU X.env.scope X.N scope nl fr)(hi:IS X tgt iter wi)(hs:∀x,mw iter X.env x=pure x)(hg:∀(C:Addr) (ajg:aj) (H:Hp) (ex:L Addr),PG (j5 X (mj X.N nl fr) scope C ajg H ex) tgt g)(ht:∀(C:Addr) (ajg:aj) (H:Hp) (ex:L Addr),OY (j5 X (mj X.N nl fr) scope C ajg H ex) ifs cond)(he:∀(C:Addr) (ajg:aj) (H:Hp) (ex:L Addr),PE (j5 X (mj X.N nl fr) scope C ajg H ex) elt te):PE X (.ListComp elt [#[tgt,iter,ifs,0]] scope pos) (λU H Q=>wi U H λok items H1=>vn ok g cond te (λvs H2=>∀p,H2 p=B->Q (.a p) (upd H2 p<|.a vs)) items [] (Dc nl fr U) H1):=by
 intro pins s U H Q I h;rw[eval_ListComp];refine wZ rfl hs (AO<|xA S I) S.kind S.names<|bG (hi pins s U H _ I h) λv aji ajl=>bG ajl λitv ajj ajv=>?_;let#[it,fp,tn,aae,H2,e,I2,T,st,hf,ok,items,hJ,hk]:=ajv;subst e;refine Fx (λ_ _ _ _ _=>hc) I2 (ZR T) st hf hJ S.cell S.kind (xA S I2) ?_ (Fy S I2) Bx
  (λC ajg ex _=>hg C ajg H2 ex) (λC ajg ex _=>ht C ajg H2 ex) (λC ajg ex _=>he C ajg H2 ex) hk λD C s' H3 vs hD q I3 f3 hn=>?_
 .unfold Dc mj;simp
 .obtain⟨m,hn⟩:=hn;let#[f0,f1,f2,f3,f4,f5]:=f3;refine#[m,hn,λh' hsb=>#[.a D,_,I3.turned (λb o hb e=>hsb.extBut b o hb e) f0 f1 f3 f4 f5,rfl,q D hD]]
def abk(hc:X.calm=W)(hN:X.N.Nodup)(hiy:X.N[i]?=M y)(hy:X.env.scope.names.lookup y=M .local)(S:yU X.env.scope X.N scope nl fr)(hi:IS X tgt iter wi)(hs:∀x,mw iter X.env x=pure x)(hsw:uy (.ListComp elt [#[tgt,iter,ifs,0]] scope pos) (M<|.Name y py) spos.line X.env=pure W)(hg:∀(C:Addr) (ajg:aj) (H:Hp) (ex:L Addr),PG (j5 X (mj X.N nl fr) scope C ajg H ex) tgt g)(ht:∀(C:Addr) (ajg:aj) (H:Hp) (ex:L Addr),OY (j5 X (mj X.N nl fr) scope C ajg H ex) ifs cond)(he:∀(C:Addr) (ajg:aj) (H:Hp) (ex:L Addr),PE (j5 X (mj X.N nl fr) scope C ajg H ex) elt te):PS X (.Assign [.Name y py] (.ListComp elt [#[tgt,iter,ifs,0]] scope pos) spos) (λD U H=>wi U H λok items H1=>vn ok g cond te (λvs H2=>∀p,H2 p=B->D.nx (U.set i<|M<|.a p) (upd H2 p<|.a vs)) items [] (Dc nl fr U) H1):=by
 intro pins s U H D I h;rw[PySem.exec_Assign_Name_used _ _ _ _ hsw];refine ah<|qH<|ah ?_;refine ah (d9 (wZ rfl hs (AO<|xA S I) S.kind S.names
  (bG (hi pins s U H _ I h) λv aji ajl=>bG ajl λitv ajj ajv=>?_)) (λ_ s' hq=>au<|au hq) λ_ _ e=>e)
 let#[it,fp,tn,aae,H2,e,I2,T,st,hf,ok,items,hJ,hk]:=ajv;subst e;refine Fx (λ_ _ _ _ _=>hc) I2 (ZR T) st hf hJ S.cell S.kind (xA S I2) ?_ (Fy S I2) Bx
  (λC ajg ex _=>hg C ajg H2 ex) (λC ajg ex _=>ht C ajg H2 ex) (λC ajg ex _=>he C ajg H2 ex) hk λDD C s' H3 vs hD q I3 f3 hn=>?_
 .unfold Dc mj;simp
 .obtain⟨m,hn⟩:=hn;let#[f0,f1,f2,f3,f4,f5]:=f3;refine Dw<|IA (v:=.a DD) I3 hN hiy (.inl hy) rfl (λs'' I4 hsame=>?_)<|.inr hy;let#[a,hs',ha]:=hsame;have hCa:C≠a:=by
   rcases ha with q|q
   .rw[q];exact f1
   .exact λz=>f4 y a q z.symm
  refine#[m,hn.sameBut hs' hCa,λh' hsb=>#[_,_,I4.turned (λb o hb e=>hsb.extBut b o hb e) f0 f1 f3 f4 f5,q DD hD]]
end
structure Tab where
 N:L Str
 sc:iM
 gl:L Str
 bn:L Str
 own:Str->Bool
 calm:Bool
 semi:Bool
noncomputable def ad4(sc:iM)(x:Str):Bool:=decide (sc.names.lookup x=M .local)||(decide (sc.names.lookup x=M .cell)||decide (sc.names.lookup x=M .free))
noncomputable def ad5(T:Tab)(x:Str):Bool:=decide (T.sc.names.lookup x=M .local)||(decide (T.sc.names.lookup x=M .cell)&&T.own x)
noncomputable def pQ(sc:iM)(x:Str):Bool:=decide<|sc.names.lookup x=M .globalImplicit
noncomputable def noStar:Expr->Bool
|.Starred ..=>J
|_=>W
def cY(es:L Expr):Bool:=es.all noStar
noncomputable def Dd:Expr->Bool
|.Call ..=>J
|_=>W
noncomputable def zZ:Expr->Bool
|.Slice ..=>J
|_=>W
noncomputable def LY:Expr->Bool
|.Set ..=>J
|_=>W
noncomputable def qY:Expr->Bool
|.ListComp ..=>J
|.SetComp ..=>J
|.DictComp ..=>J
|_=>W
noncomputable def notTuple:Expr->Bool
|.Tuple ..=>J
|.List ..=>J
|_=>W
noncomputable def ad6:V->Const->Bool
|.b i,.int j=>decide<|i=j
|.c a,.bool b=>decide<|a=b
|.e a,.str b=>decide<|a=b
|.d,.none=>W
|_,_=>J
noncomputable def IT(scope sc:iM):iM:=
 { scope with names:=scope.names.map λ(n,k)=>if(k==.free&&sc.kind==.function&&sc.names.lookup n==M .cell)then(n,.cell)else(n,k) }
def KU(T:Tab)(scope:iM)(nl:L Str)(fr:L Nat):Tab:={ N:=mj T.N nl fr,sc:=IT scope T.sc,gl:=T.gl,bn:=T.bn,own:=(λx=>scope.names.lookup x==M .cell),calm:=T.calm,semi:=T.semi }
def vE(sc:iM)(N:L Str)(scope:iM)(nl:L Str)(fr:L Nat):Bool:=
 decide (scope.kind=.function)&&scope.names.all (λy=>decide<|y.2=.free->(y.1,dM)∉scope.names)&&scope.names.all (λx=>decide<|x.2=.local->scope.names.lookup x.1=M .local)
 && scope.names.all (λx=>decide<|x.2=.free->sc.names.lookup x.1=M .cell\/sc.names.lookup x.1=M .free)&&fr.all (λi=>match N[i]? with|some x=>decide (scope.names.lookup x=M .free)|none=>J)
 && decide (mj N nl fr).Nodup
noncomputable def cP(e:Expr):aah (Expr×L Expr×L vJ×Pos):=match e with
|.Call f as ks p=>M (f,as,ks,p)
|_=>B
noncomputable def nP(e:Expr):aah (Str×Pos):=match e with
|.Name x p=>M (x,p)
|_=>B
noncomputable def aP(e:Expr):aah (Expr×Str×Pos):=match e with
|.Attribute l y p=>M (l,y,p)
|_=>B
noncomputable def l1P{α:Type}(l:L α):aah α:=match l with
|[c]=>M c
|_=>B
noncomputable def OZ{α:Type}(l:L α):aah Unit:=match l with
|[]=>M ()
|_=>B
def c2P(e:Expr):aah ((Str×Pos)×(L vJ×Pos)×Expr×L Expr×L vJ×Pos):=(cP e).bind λa=>(nP a.1).bind λx=>(l1P a.2.1).bind λc=>(cP c).bind λb=>M (x,a.2.2,b)
def QN(e:Expr):aah (Str×Str×Expr×Bool):=(c2P e).bind λw=>(OZ w.2.1.1).bind λ_=>(aP w.2.2.1).bind λq=>(OZ w.2.2.2.1).bind λ_=>(OZ w.2.2.2.2.1).bind λ_=>M (w.1.1,q.2.1,q.1,q.2.2.endLine==w.2.2.2.2.2.line)
def ye(e:Expr):aah (Str×Str×Expr):=(c2P e).bind λw=>(OZ w.2.1.1).bind λ_=>(nP w.2.2.1).bind λy=>(l1P w.2.2.2.1).bind λl=>(OZ w.2.2.2.2.1).bind λ_=>M (w.1.1,y.1,l)
def vW(T:Tab)(x y:Str):Bool:=decide (x=y)&&pQ T.sc x&&T.bn.contains x
noncomputable def WV:CI->Expr->Bool
|.c _,e=>match e with
 |.Tuple ..=>W
 |_=>J
|_,_=>W
noncomputable def WW(sc:iM):Expr->Bool
|.Name y _=>!decide (sc.names.lookup y=M .local)
|_=>W
noncomputable def KW(sc scope:iM)(t:Str)(pos vpos:Pos):Bool:=decide (sc.names.lookup t=M .local)&&decide (pos.line=vpos.line)&&!(scope.names.any λ(n,k)=>n==t&&(k==.local||k==.cell))
def xB(T:Tab)(g:Nat)(e:Expr):Bool:=match nP e with
|some a=>decide (T.gl[g]?=M a.1)&&pQ T.sc a.1&&!(a.1==("__debug__":Str))
|none=>J
def z5(T:Tab):L Nat->L Expr->Bool
|[],es=>es.isEmpty
|g::gs,es=>match es with
 |e::er=>xB T g e&&z5 T gs er
 |_=>J
def ZS(T:Tab)(one:Bool)(gs:L Nat)(e:Expr):Bool:=match one with
|true=>match gs with
 |[g]=>xB T g e
 |_=>J
|false=>match e with
 |.Tuple es _ _=>cY es&&z5 T gs es
 |_=>J
noncomputable def fI(k:Nat):Expr->Bool
|.Call f _ _ _=>f.ctorIdx==k
|_=>J
def nI:Expr->Bool
|.Call _ [c] _ _=>c.ctorIdx==16&&fI 23 c
|_=>J
noncomputable def aI:Expr->Bool
|.Call _ [_,c] _ _=>c.ctorIdx==23
|_=>J
noncomputable def uI:Expr->Bool
|.Subscript _ r _=>r.ctorIdx==26
|_=>J
noncomputable def gI2:Stmt->Bool
|.AugAssign t _ _ _=>t.ctorIdx==23
|_=>J
noncomputable def cI2:Stmt->Bool
|.Assign (t::_) e _=>t.ctorIdx==23&&e.ctorIdx==8
|_=>J
def rI:Stmt->Bool
|.Raise (M e) _ _=>e.ctorIdx==16&&fI 23 e
|_=>J
noncomputable def tI:Stmt->Bool
|.Try _ (.ExceptHandler (M a) _ _ _::_) _ _ _=>a.ctorIdx==23
|_=>J
def bI1:L Stmt->Bool
|s::_=>s.ctorIdx==24&&match s with
 |.Expr e _=>e.ctorIdx==16&&fI 23 e
 |_=>J
|_=>J
noncomputable def agb:L (Str×Int)->L (aah Expr)->L Expr->Bool
|[],ks,vs=>ks.isEmpty&&vs.isEmpty
|p::r,ks,vs=>match ks,vs with
 |some (.Constant (.str x) _ _)::ks,.Constant (.int i) _ _::vs=>decide (x=p.1/\i=p.2)&&agb r ks vs
 |_,_=>J
noncomputable def agc:CI->Bool
|_=>J
noncomputable def agd:Bf->Bool
|.g=>W
|.a=>W
|_=>J
mutual
noncomputable def dP(T:Tab):CE->Expr->Bool
|.a i,e=>e.ctorIdx==23&&match e with
 |.Name x _=>decide (T.N[i]?=M x)&&ad4 T.sc x&&!(x==("__debug__":Str))&&!(x==("__classdict__":Str))
 |_=>J
|.e v,e=>e.ctorIdx==19&&match e with
 |.Constant c _ _=>ad6 v c
 |_=>J
|.g op a b,e=>e.ctorIdx==2&&match e with
 |.BinOp l o r _=>decide (op=o)&&dP T a l&&dP T b r
 |_=>J
|.y a,e=>e.ctorIdx==16&&(fI 23 e&&(nI e&&match e with
 |.Call (.Name x _) [.Call (.Name y _) [l] [] _] [] _=>T.calm&&(decide (x=("len":Str))&&pQ T.sc x&&T.bn.contains x&&decide (y=("set":Str))&&pQ T.sc y&&T.bn.contains y&&noStar l&&dP T a l)
 |_=>J))
|.m a,e=>e.ctorIdx==3&&match e with
 |.UnaryOp .USub l _=>dP T a l
 |_=>J
|.p a,e=>e.ctorIdx==3&&match e with
 |.UnaryOp .Not l _=>dP T a l
 |_=>J
|.l a b,e=>e.ctorIdx==0&&match e with
 |.BoolOp .And [x,y] _=>dP T a x&&dP T b y
 |.BoolOp .And (x::y::z::r) pos=>dP T a x&&dP T b (.BoolOp .And (y::z::r) pos)
 |_=>J
|.o a b,e=>e.ctorIdx==0&&match e with
 |.BoolOp .Or [x,y] _=>dP T a x&&dP T b y
 |.BoolOp .Or (x::y::z::r) pos=>dP T a x&&dP T b (.BoolOp .Or (y::z::r) pos)
 |_=>J
|.q c a b,e=>e.ctorIdx==5&&match e with
 |.IfExp t x y _=>dP T c t&&dP T a x&&dP T b y
 |_=>J
|.d op a b,e=>e.ctorIdx==15&&match e with
 |.Compare l [o] [r] _=>decide (op=o)&&!A8 o r&&dP T a l&&dP T b r
 |_=>J
|.t o1 o2 a b c,e=>e.ctorIdx==15&&match e with
 |.Compare l [p1,p2] [m,r] _=>decide (o1=p1)&&decide (o2=p2)&&!JY [p1,p2] [m,r]&&dP T a l&&dP T b m&&dP T c r
 |_=>J
|.c g as,e=>e.ctorIdx==16&&(fI 23 e&&match e with
 |.Call (.Name x _) es [] _=>decide (T.gl[g]?=M x)&&pQ T.sc x&&!(x==("__debug__":Str))&&cY es&&rK T as es
 |_=>J)
|.h f as,e=>e.ctorIdx==16&&(fI 23 e&&match e with
 |.Call (.Name x _) es [] _=>(T.calm||T.semi&&agd f)&&(decide (x=f.name)&&pQ T.sc x&&T.bn.contains x&&cY es&&!es.isEmpty&&rK T as es)
 |_=>J)
|.v a t,e=>e.ctorIdx==16&&(fI 23 e&&(aI e&&match e with
 |.Call (.Name x _) [l,.Name y _] [] _=>decide (x=("isinstance":Str))&&pQ T.sc x&&T.bn.contains x&&decide (y=t.name)&&decide (t≠.none)&&pQ T.sc y&&T.bn.contains y&&noStar l&&dP T a l
 |_=>J))
|.i m o as,e=>e.ctorIdx==16&&(fI 20 e&&match e with
 |.Call (.Attribute l nm apos) es [] cpos=>decide (nm=m.name)&&Dd l&&(apos.endLine==cpos.line&&!es.isEmpty)&&cY es&&decide (zl es<30)&&dP T o l&&rK T as es
 |_=>J)
|.b a b,e=>e.ctorIdx==21&&match e with
 |.Subscript l r _=>zZ r&&dP T a l&&dP T b r
 |_=>J
|.r a lo hi,e=>e.ctorIdx==21&&(uI e&&match e with
 |.Subscript l (.Slice x y B _) _=>dP T a l&&WX T lo x&&WX T hi y
 |_=>J)
|.k as,e=>e.ctorIdx==24&&match e with
 |.List es _=>cY es&&rK T as es
 |_=>J
|.f as,e=>e.ctorIdx==25&&match e with
 |.Tuple es _ _=>cY es&&rK T as es
 |_=>J
|.ab,e=>e.ctorIdx==6&&match e with
 |.Dict [] [] _=>W
 |_=>J
|.j nl fr elt tg src cond,e=>e.ctorIdx==8&&match e with
 |.ListComp l [#[t,it,ifs,0]] sc _=>(T.calm&&!T.semi||T.semi&&agc src)&&(vE T.sc T.N sc nl fr&&(LY it&&WV src t)&&WY T src it&&z6 (KU T sc nl fr) tg t&&ad9 (KU T sc nl fr) cond ifs&&dP (KU T sc nl fr) elt l)
 |_=>J
|.n one gs a,e=>e.ctorIdx==16&&(fI 23 e&&match e with
 |.Call (.Name x _) [l,c] [] _=>decide (x=("isinstance":Str))&&pQ T.sc x&&T.bn.contains x&&noStar l&&ZS T one gs c&&dP T a l
 |_=>J)
|.s g a,e=>e.ctorIdx==16&&(fI 23 e&&(aI e&&match e with
 |.Call (.Name x _) [l,.Name y _] [] _=>decide (x=("isinstance":Str))&&pQ T.sc x&&T.bn.contains x&&decide (y=("ValueError":Str))&&pQ T.sc y&&T.bn.contains y&&noStar l&&dP T a l&&decide (g<zl T.gl)
 |_=>J))
|.z as,e=>match e with
 |.Call (.Name x _) [.Call (.Name y _) es [] _] [] _=>T.calm&&(decide (x=("tuple":Str))&&pQ T.sc x&&T.bn.contains x&&decide (y=("range":Str))&&pQ T.sc y&&T.bn.contains y&&cY es&&!es.isEmpty&&rK T as es)
 |_=>J
|.u a,e=>match QN e with
 |some (x,y,l,b)=>T.calm&&(vW T x "sorted"&&decide (y=("items":Str))&&b&&Dd l&&dP T a l)
 |none=>J
|.x a,e=>match ye e with
 |some (x,y,l)=>T.calm&&(vW T x "sorted"&&vW T y "set"&&noStar l&&dP T a l)
 |none=>J
|.aa a,e=>match ye e with
 |some (x,y,l)=>T.calm&&(vW T x "list"&&vW T y "range"&&noStar l&&dP T a l)
 |none=>J
|.ac a,e=>match ye e with
 |some (x,y,l)=>T.calm&&(vW T x "list"&&vW T y "reversed"&&noStar l&&dP T a l)
 |none=>J
|.w,e=>match e with
 |.Dict [] [] _=>W
 |_=>J
noncomputable def rK(T:Tab):jQ->L Expr->Bool
|.nil,es=>match es with
 |[]=>W
 |_=>J
|.cons a r,es=>match es with
 |e::er=>dP T a e&&rK T r er
 |_=>J
noncomputable def WX(T:Tab):CO->aah Expr->Bool
|.none,e=>match e with
 |none=>W
 |_=>J
|.some a,e=>match e with
 |some x=>dP T a x
 |_=>J
noncomputable def ad9(T:Tab):CO->L Expr->Bool
|.none,es=>match es with
 |[]=>W
 |_=>J
|.some a,es=>match es with
 |[x]=>dP T a x
 |_=>J
noncomputable def z6(T:Tab):CG->Expr->Bool
|.a i,e=>e.ctorIdx==23&&match e with
 |.Name x _=>decide (T.N[i]?=M x)&&ad5 T x
 |_=>J
|.b gs,e=>e.ctorIdx==25&&match e with
 |.Tuple es _ _=>(T.calm||T.semi)&&(cY es&&KY T gs es)
 |_=>J
|.c o i,e=>e.ctorIdx==21&&match e with
 |.Subscript l r _=>zZ r&&dP T o l&&dP T i r
 |_=>J
noncomputable def KY(T:Tab):vU->L Expr->Bool
|.nil,es=>match es with
 |[]=>W
 |_=>J
|.cons g r,es=>match es with
 |e::er=>z6 T g e&&KY T r er
 |_=>J
noncomputable def WY(T:Tab):CI->Expr->Bool
|.a a,e=>dP T a e
|.b as,e=>e.ctorIdx==16&&(fI 23 e&&match e with
 |.Call (.Name x _) es [] _=>decide (x=("range":Str))&&pQ T.sc x&&T.bn.contains x&&cY es&&!es.isEmpty&&rK T as es
 |_=>J)
|.c a,e=>e.ctorIdx==16&&(fI 23 e&&match e with
 |.Call (.Name x _) [l] [] _=>decide (x=("enumerate":Str))&&pQ T.sc x&&T.bn.contains x&&noStar l&&dP T a l
 |_=>J)
|.d a,e=>match e with
 |.Call (.Name x _) [l] [] _=>decide (x=("reversed":Str))&&pQ T.sc x&&T.bn.contains x&&noStar l&&dP T a l
 |_=>J
end
def age(T:Tab)(g:Nat)(as:jQ)(sts:L Stmt):Bool:=bI1 sts&&match sts with
  |[.Expr (.Call (.Name x _) es [] _) _]=>decide (T.gl[g]?=M x)&&pQ T.sc x&&!(x==("__debug__":Str))&&cY es&&!es.isEmpty&&rK T as es
  |_=>J
noncomputable def QO(T:Tab):Tab:={ T with calm:=J,semi:=J }
def agf(T:Tab)(y:Nat)(e:CE)(st:Stmt):Bool:=st.ctorIdx==5&&match st with
|.Assign [t] a _=>qY a&&notTuple t&&z6 T (.a y) t&&dP T e a
|_=>J
def agg(T:Tab)(x c:Nat)(as:jQ)(st:Stmt):Bool:=st.ctorIdx==5&&match st with
|.Assign [t] a p=>qY a&&notTuple t&&z6 T (.a x) t&&age T c as [.Expr a p]
|_=>J
def ZT(T:Tab)(c:Nat)(as:jQ)(x y:Nat)(e:CE)(sts:L Stmt):Bool:=match sts with
|[s1,s2]=>agg T x c as s1&&agf T y e s2
|_=>J
mutual
noncomputable def ad_(T:Tab):CS->Stmt->Bool
|.e c,st=>st.ctorIdx==24&&match st with
 |.Expr e _=>qY e&&dP T c e
 |_=>J
|.c g c,st=>st.ctorIdx==5&&match st with
 |.Assign [t] e _=>(qY e||WW T.sc t)&&notTuple t&&z6 T g t&&dP T c e
 |_=>J
|.g i c,st=>st.ctorIdx==7&&(gI2 st&&match st with
 |.AugAssign (.Name x _) .Add e _=>decide (T.N[i]?=M x)&&decide (T.sc.names.lookup x=M .local)&&dP T c e
 |_=>J)
|.f i c,st=>st.ctorIdx==5&&(cI2 st&&match st with
 |.Assign [.Name y py] (.ListComp l gs sc vpos) _=>(T.calm&&!T.semi)&&(decide (T.N[i]?=M y)&&KW T.sc sc y py vpos&&dP T c (.ListComp l gs sc vpos))
 |_=>J)
|.k g c,st=>match st with
 |.Assign [t] e _=>qY e&&notTuple e&&z6 T g t&&dP T c e
 |_=>J
|.a c,st=>st.ctorIdx==3&&match st with
 |.Return (M e) _=>dP T c e
 |_=>J
|.l k i j a b,st=>st.ctorIdx==12&&match st with
 |.If t x y _=>dP T (LU k i j) t&&mX T a x&&mX T b y
 |_=>J
|.b c a b,st=>st.ctorIdx==12&&match st with
 |.If t x y _=>dP T c t&&mX T a x&&mX T b y
 |_=>J
|.i c b,st=>match st with
 |.While t x [] _=>dP T c t&&mX T b x
 |_=>J
|.d g src b,st=>st.ctorIdx==9&&match st with
 |.For t it x [] _=>T.calm&&((LY it&&WV src t)&&WY T src it&&z6 T g t&&mX T b x)
 |_=>J
|.n,st=>st.ctorIdx==26&&match st with
 |.Break _=>W
 |_=>J
|.m,st=>st.ctorIdx==27&&match st with
 |.Continue _=>W
 |_=>J
|.h g,st=>st.ctorIdx==16&&(rI st&&match st with
 |.Raise (M<|.Call (.Name x _) [] [] _) B _=>T.calm&&(decide (T.gl[g]?=M x)&&pQ T.sc x&&!(x==("__debug__":Str)))
 |_=>J)
|.j i g x c as y e h,st=>st.ctorIdx==17&&(tI st&&match st with
 |.Try body [.ExceptHandler (M<|.Name z _) (M n) (s0::sr) _] [] [] _=>T.calm&&(decide (T.gl[g]?=M z)&&pQ T.sc z&&!(z==("__debug__":Str))&&decide (T.N[i]?=M n)&&decide (T.sc.names.lookup n=M .local)&&ZT T c as x y e body&&mX (QO T) h (s0::sr))
 |_=>J)
noncomputable def mX(T:Tab):cI->L Stmt->Bool
|.nil,sts=>match sts with
 |[]=>W
 |_=>J
|.cons s r,sts=>match sts with
 |st::sr=>ad_ T s st&&mX T r sr
 |_=>J
end
noncomputable def qA(A:b7):b7:={ A with handled:=B }
structure tQ (P:br) (w:bE) (K:ak) (mg:Str->aah Z) (base:Heap) (k:Nat) (f:Addr) (fd:eS) (ps:L Str) (sp:Sp):Prop where
 len:∀vs H Q,sp vs H Q E0->zl vs=zl ps
 run:∀(A:b7) (outer:L Env) (s:aj) (H:Hp) (args:Args) (us:L Z) (vs:L V) (Q:VK) (e:Addr),kj k (qA A)->A.handled=M (.ref e)->Lv P w K mg base A outer s H->Dr s fd args (ps.zip us)->bO vs us->sp vs H Q E0->
  jW (aJ P w) A (.call (.ref f) args) (CR IM outer P w H s Q E0) s
def tQ.mono{P:br}{w:bE}{K:ak}{mg:Str->aah Z}{base:Heap}{j k:Nat}{f:Addr}{fd:eS}{ps:L Str}{sp:Sp}(F:tQ P w K mg base j f fd ps sp)(h:j<=k):tQ P w K mg base k f fd ps sp:=
 #[F.len,λA outer s H args us vs Q e hr=>F.run A outer s H args us vs Q e<|hr.mono h]
def abl{X:Cx}{pins:L<|Addr×Obj}{U:L2.St}{H:Hp}{s:aj}{e:Addr}{k:Nat}{f:Addr}{fd:eS}{ps:L Str}{sp:Sp}{Q:VK}{us:L Z}{vs:L V}(F:tQ X.prog X.w X.K X.mg X.base k f fd ps sp)(hr:kj k<|qA X.A)(hb:Binds X.K fd ps [])(hh:X.A.handled=M (.ref e))(I:L2.Inv X pins U H s)(r:bO vs us)(h:sp vs H Q E0):aG (aJ X.prog X.w) X.A (call (.ref f) us) (EP X pins U Q) X.xe s:=by
 have r2:bO vs (us++[]):=by rw[dS];exact r
 have hl:(us++[]).length=ps.length:=by rw[<-r2.length];exact F.len _ _ _ h
 refine nc<|iR (F.run X.A X.stack s H #[us,[]] (us++[]) vs Q e hr hh I.Wo (hb s us I.p_ hl) r2 h) λr s' hq=>?_;cases r with
 |error v=>cases hq
 |ok fl=>
  cases fl with
  |ret u=>exact I.after hq
  |next=>cases hq
  |brk=>cases hq
  |cont=>cases hq
def aea{P:br}{w:bE}{K:ak}{mg:Str->aah Z}{base:Heap}{k:Nat}{f:Addr}{name qual:Str}{params:JV}{body:L Stmt}{scope:iM}{dV kV doc pm cdv ct oc:Z}{an od:aah Addr}{osl:Array<|aah Z}{N ps:L Str}{sp:Sp}(lk:K.lookup f=M #[oc,od,.func<|gv name qual params body scope dV kV doc pm an cdv ct,osl])(hcd:mP K cdv qual=W)(S:o8 N ps scope)(len:∀vs H Q,sp vs H Q E0->zl vs=zl ps)(hbody:∀(A:b7) (outer:L Env) (s:aj) (H:Hp) (vs:L V) (Q:VK) (e:Addr),kj k ((qA A).deeper<|oU qual scope s.heap.objs.size f cdv)->sp vs H Q E0->
   ∃t,vL ((mV IM P w K mg base N qual scope f cdv (qA A) outer s H E0).hand<|.ref e) body t/\t { nx:=λ_ H'=>Q .d H',rt:=Q } (start N vs) H):
  tQ P w K mg base (k+1) f (gv name qual params body scope dV kV doc pm an cdv ct) ps sp:=by
 refine#[len,λA outer s H args us vs Q e hr hh e0 hb r hsp=>?_];let#[hA,dA,fA,gA,uA]:=A;cases hh;have hl:=len _ _ _ hsp;have KX:=e0.mod.kin.keeps λb o e=>(e0.bs b o e).1;have lim:=e0.mod.nolimit.keeps λb o e=>(e0.bs b o e).1;have hkind:∀y∈ps.zip us,scope.names.lookup y.1=M .local\/(scope.names.lookup y.1=M .cell/\((fV (s.heap.objs.size+1) scope.names []).lookup y.1).isSome=W):=λ⟨n,v⟩ hy=>by
  rcases S.par n (rY hy).1 with q|q
  .exact .inl q
  .exact .inr #[q,qj _ _ _<|.inl q]
 refine zu hr.depth (KX _ _ lk) rfl S.co S.gen rfl (CB KX hcd)<|hb _ _ _ _ ?_;refine uX S.kind hkind λenv he s1 x=>?_;subst he;refine#[lim.keeps x.toInCall.keep,Nn ?_];let#[t,ht,hq]:=hbody #[M<|.ref e,dA,fA,gA,uA] outer s H vs Q e (hr.deeper _) hsp;have I0:L2.Inv (mV IM P w K mg base N qual scope f cdv (qA ⟨M<|.ref e,dA,fA,gA,uA⟩) outer s H E0) [] (start N vs) H s1:=IG S rfl #[e0.frames,e0.mod,e0.bs,e0.bsz,e0.rF,e0.frf,e0.hok,e0.bare] hl r x;refine d9 (ht [] s1 (start N vs) H _ (I0.hand<|.ref e) hq) (λfl s' hs=>?_) λe s' hs=>hs.elim;have fin:∀{σ':L2.St}{H':Hp}{v:V}{u:Z},L2.Inv ((mV IM P w K mg base N qual scope f cdv (qA ⟨M<|.ref e,dA,fA,gA,uA⟩) outer s H E0).hand<|.ref e) [] σ' H' s'->RelV v u->Q v H'->L2.CE outer P w H s Q u s':=
  λ{σ' H' v u} aae rv q=>#[v,H',aae.os,aae.bare,aae.base,aae.hok,rv,q]
 cases fl with
 |ret u=>
  let#[v,σ',H',aae,rv,q]:=hs;exact fin aae rv q
 |next=>
  let#[σ',H',aae,q]:=hs;exact fin (v:=V.d) aae rfl q
 |brk=>
  let#[_,_,_,q]:=hs;exact bU q
 |cont=>
  let#[_,_,_,q]:=hs;exact bU q
structure BA (K:ak) (C:Addr):Prop extends LN K C where
 ha:dg K (.ref C) "__class__"=M (M (.builtin "object.__class__"))
 hn:mD K (.builtin "object.__class__") "__get__"=M (M (.builtin "getset_descriptor.__get__"))
 htk:n9 K (.builtin "object.__class__")=M W
def jM(K:ak)(D:Addr)(Cs:L Addr):Prop:=dY K (.type "NoneType") (.ref D)=M J/\∀C∈Cs,BA K C/\dY K (.ref C) (.ref D)=M (decide<|C=D)
def z7(K:ak)(Cs:L Addr)(as:L Str):Prop:=dY K (.type "NoneType") (.type "ValueError")=M J/\∀C∈Cs,BA K C/\dY K (.ref C) (.type "ValueError")=M W/\∀f∈as,yP K C f
def HN(X:Cx)(x:Str)(sp:Sp):Prop:=∃(e:Addr) (k:Nat) (f:Addr) (fd:eS) (ps:L Str),X.A.handled=M (.ref e)/\tQ X.prog X.w X.K X.mg X.base k f fd ps sp/\kj k (qA X.A)/\X.mg x=M (.ref f)/\dW X.K (.ref f)=W/\Binds X.K fd ps []/\ps≠[]
def HG(X:Cx)(E:XK)(x:Str)(sp:Sp)(dvs:L V):Prop:=E=E0/\X.calm=J/\dvs=[]/\HN X x sp
def HG.comp(h:HG X E x sp dvs)(hc:X.calm=W\/Fw X/\Fw X')(e1:X'.A=X.A)(e2:X'.prog=X.prog)(e3:X'.w=X.w)(e4:X'.K=X.K)(e5:X'.mg=X.mg)(e6:X'.base=X.base)(e7:X'.calm=X.calm):HG X' E0 x sp dvs:=by
 let#[_,h2,_]:=h;rcases hc with hc|⟨hc,_⟩
 .rw[hc]at h2;cases h2
 .exact hc.elim
def GOk(X:Cx)(E:XK)(x:Str):G->Prop
|.j v=>∃u,X.mg x=M u/\RelV v u
|.k a xs=>X.mg x=M (.ref a)/\KSq X.K a W xs
|.a sp dvs=>(∃(k:Nat) (f:Addr) (fd:eS) (ps:L Str) (ds:L Z),jG X.prog X.w X.K X.mg X.base (nT X.prog X.w) k f fd ps sp/\kj k X.A/\X.mg x=M (.ref f)/\dW X.K (.ref f)=W/\Binds X.K fd ps ds/\bO dvs ds/\Bq (nT X.prog X.w) X E)\/HG X E x sp dvs
|.b C=>X.mg x=M (.ref C)/\IP X.K C
|.c D Cs=>X.mg x=M (.ref D)/\jM X.K D Cs
|.h Cs as=>z7 X.K Cs as
|.i aaf _=>X.mg x=M (.ref aaf)/\Fg X.K aaf
|.d sp=>∃(k:Nat) (f:Addr) (fd:eS) (ps:L Str),tQ X.prog X.w X.K X.mg X.base k f fd ps sp/\kj k (qA X.A)/\X.mg x=M (.ref f)/\dW X.K (.ref f)=W/\(Binds X.K fd ps []/\ps≠[])
|.f=>True
def WZ(h:nT P w outer H s E0 e s'):bu:=by
 let#[_,_,_,_,_,_,_,_,_,_,q]:=h;exact q
structure Ok (X:Cx) (T:Tab) (Y:L G) (E:XK):Prop where
 N:X.N=T.N
 nd:X.N.Nodup
 sc:X.env.scope=T.sc
 kind:X.env.scope.kind=.function
 gl:∀(i:Nat) (x:Str) (g:G),T.gl[i]?=M x->Y[i]?=M g->GOk X E x g
 bn:∀x∈T.bn,X.mg x=B
 own:∀x,T.own x=W->X.fn x=W
 calm:T.calm=W->X.calm=W
 semi:T.semi=W->Fw X
 po:xN (aJ X.prog X.w) X.A X.env X.xe
 room:X.A.units+60<fy
def tu(ok:Ok X T Y E)(h:vE T.sc T.N sc nl fr=W)(C:Addr)(ajg:aj)(H:Hp)(ex:L Addr)(hs:T.semi=W->Fw (j5 X (mj X.N nl fr) sc C ajg H ex))(hcs:T.calm=W\/T.semi=W):Ok (j5 X (mj X.N nl fr) sc C ajg H ex) (KU T sc nl fr) Y E0:=by
 unfold vE at h;simp only[cK,iJ]at h;let#[#[#[#[#[h1,h2],h3],h4],h5],h6]:=h;refine#[?_,?_,?_,h1,λi x g hx hg=>?_,ok.bn,λx z=>z,ok.calm,hs,sj,ok.room]
 .show mj X.N nl fr=mj T.N nl fr;rw[ok.N]
 .rw[ok.N];exact h6
 .show pN sc X.env=IT sc T.sc;rw[<-ok.sc];rfl
 .have q:=ok.gl i x g hx hg;cases g with
  |j v=>exact q
  |k a xs=>exact q
  |a sp dvs=>
   rcases q with⟨k,f,fd,ps,ds,q1,q2,q3,q4,q5,q6,q7⟩|q
   .exact .inl #[k,f,fd,ps,ds,q1,q2,q3,q4,q5,q6,λpins U H s e s' I z=>(WZ z).elim]
   .exact .inr (q.comp (hcs.imp ok.calm λz=>#[ok.semi z,hs z]) rfl rfl rfl rfl rfl rfl rfl)
  |_=>exact q
def Tu(h:vE sc N scope nl fr=W):yU sc N scope nl fr:=by
 unfold vE at h;simp only[cK,iJ]at h;let#[#[#[#[#[h1,h2],h3],h4],h5],h6]:=h;refine#[h1,λy hy=>ay<|bN.mp h2 y hy,λx hx=>ay<|bN.mp h3 x hx,λn hn=>?_,λi hi=>?_]
 .exact ay (bN.mp h4 (n,.free) hn) rfl
 .have q:=bN.mp h5 i hi;revert q;cases N[i]? with
  |none=>simp
  |some x=>simp
section
variable{env:Env}
def dH(h:noStar e=W):eO (e::es) env=(J,eval e env)::eO es env:=by
 cases e<;>first|rfl|exact aC h aN
theorem Eu:∀{es:L Expr},cY es=W->eO es env=es.map λe=>(J,eval e env)
|[],_=>rfl
|e::es,h=>by
 have h':noStar e=W/\cY es=W:=aS.mp h;rw[dH h'.1,Eu h'.2];rfl
def pe(h:cY es=W):(qh pos<|eO es env).any (·.1)=J:=by
 rw[Eu h];unfold qh;rw[bV,w5];rw[Dy];intro x _;simp
def W0(h:cY es=W)(hl:zl es<30):((qh pos<|eO es env).all (λx=>!x.1)&&(backToKw pos<|keywordEach [] env).all (λx=>x.1.isSome)&&decide (zl es+zl ([]:L vJ)+(if([]:L vJ).isEmpty then 0 else 1)<30))=W:=by
 rw[Eu h];unfold qh;rw[bV,wW];have e1:(es.all ((λx:Bool×Sem Z=>!x.1)∘(λx:Bool×Sem Z=>(x.1,if x.1 then do let v <-x.2;zq pos;pure v else x.2))∘λe=>(J,eval e env)))=W:=by
  rw[bN];intro x _;rfl
 have e2:decide (zl es+zl ([]:L vJ)+(if([]:L vJ).isEmpty then 0 else 1)<30)=W:=by simp_all
 rw[e2,qJ];exact aS.mpr #[e1,rfl]
set_option tactic.hygienic true in
def O0(h:Dd o=W):attributeBase o nm env whole=whole:=by
 cases o<;>first|rfl|exact aC (show J=W from h) aN
def QR(h:zZ b=W):OM b:=by
 intro o i;cases b<;>first|rfl|exact aC h aN
def BB(h:LY e=W):∀x,mw e env x=pure x:=by
 intro x;cases e<;>first|rfl|exact aC h aN
def Fz(h:qY e=W):uy e t n env=pure J:=by
 cases e<;>first|rfl|exact aC h aN
def aeb(h:ad4 env.scope x=W):Lo env.scope x:=(iP.mp h).imp ay λh=>(iP.mp h).imp ay ay
def nG(h:noStar e=W):jO (e::es) env=(J,zp e env)::jO es env:=by
 cases e<;>first|rfl|exact aC h aN
theorem z8:∀{es:L Expr},cY es=W->zl (jO es env)=zl es/\(jO es env).findIdx? (·.1)=B
|[],_=>#[rfl,rfl]
|e::es,h=>by
 have h':noStar e=W/\cY es=W:=aS.mp h;let#[a,b]:=z8 h'.2;rw[nG h'.1];refine#[by simp[a],?_];rw[List.findIdx?_cons];simp[b]
end
section
variable{X:Cx}{a b c:Expr}{ta tb tc:TE}{pos:Pos}{o:Expr}{to:TE}{es:L Expr}{t:TA}{apos cpos:Pos}{m:Mt}
def pe_and'{rest:L Expr}(ha:PE X a ta)(hb:PE X (.BoolOp .And (b::rest) pos) tb):PE X (.BoolOp .And (a::b::rest) pos) (λU H Q=>ta U H λx H1=>match x with
  |.c c=>if c=W then tb U H1 Q else Q (.c J) H1
  |_=>bu):=by
 intro pins s U H Q I h;refine BoolOp_and<|bG (ha pins s U H _ I h) λv s1 ⟨x,H1,I1,r1,q1⟩=>?_;cases x with
 |c c=>
  cases r1;refine iK ?_;cases c with
  |true=>exact hb pins s1 U H1 Q I1 q1
  |false=>exact#[.c J,H1,I1,rfl,q1]
 |_=>cases q1
def pe_or'{rest:L Expr}(ha:PE X a ta)(hb:PE X (.BoolOp .Or (b::rest) pos) tb):PE X (.BoolOp .Or (a::b::rest) pos) (λU H Q=>ta U H λx H1=>match x with
  |.c c=>if c=W then Q (.c W) H1 else tb U H1 Q
  |_=>bu):=by
 intro pins s U H Q I h;refine BoolOp_or<|bG (ha pins s U H _ I h) λv s1 ⟨x,H1,I1,r1,q1⟩=>?_;cases x with
 |c c=>
  cases r1;refine iK ?_;cases c with
  |false=>exact hb pins s1 U H1 Q I1 q1
  |true=>exact#[.c W,H1,I1,rfl,q1]
 |_=>cases q1
def pe_not'(ha:PE X a ta):PE X (.UnaryOp .Not a pos) (λU H Q=>ta U H λx H1=>mW X.K x H1 λb=>Q (.c<|!b) H1):=by
 intro pins s U H Q I h;refine UnaryOp_<|bG (ha pins s U H _ I h) λv s1 ⟨x,H1,I1,r1,q1⟩=>?_;refine not_of (bG (ZP pins s1 U H1 x v (λb H2=>Q (.c<|!b) H2) I1 r1 ?_) λb s2 qq=>by let#[H2,I2,q2]:=qq;exact#[.c<|!b,H2,I2,rfl,q2]);exact q1
def pe_neg'(ha:PE X a ta):PE X (.UnaryOp .USub a pos) (λU H Q=>ta U H λx H1=>match x with
  |.b i=>Q (.b<|-i) H1
  |_=>bu):=by
 intro pins s U H Q I h;refine UnaryOp_<|bG (ha pins s U H _ I h) λv s1 ⟨x,H1,I1,r1,q1⟩=>?_;cases x with
 |b i=>exact ado pins s1 U H1 (.b i) v Q I1 r1 #[i,rfl,q1]
 |_=>lia
def pe_chain'(hu:X.A.units+60<fy)(ha:PE X a ta)(hb:PE X b tb)(hc:PE X c tc)(hm:JY [op,op'] [b,c]=J):PE X (.Compare a [op,op'] [b,c] pos) (λU H Q=>ta U H λx H1=>tb U H1 λy H2=>qM X.K op x y H2 λz H3=>match z with
  |.c k=>if k=W then tc U H3 λu H4=>qM X.K op' y u H4 Q else Q (.c J) H3
  |_=>bu):=by
 intro pins s U H Q I h;refine Compare_chain (bG (ha pins s U H _ I h) λv s1 ⟨x,H1,I1,r1,q1⟩=>chain_link (bG (hb pins s1 U H1 _ I1 q1) λu s2 ⟨y,H2,I2,r2,q2⟩=>
  bG (C_ hu op pins s2 U H2 x y v u _ I2 r1 r2 q2) λd s3 ⟨z,H3,I3,r3,q3⟩=>?_)) hm
 cases z with
 |c k=>
  cases r3;refine iK ?_;cases k with
  |false=>exact ite_ff #[.c J,H3,I3,rfl,q3]
  |true=>exact ite_tt<|chain_last<|bG (hc pins s3 U H3 _ I3 q3) λw' s4 ⟨z',H4,I4,r4,q4⟩=>C_ hu op' pins s4 U H4 y z' u w' Q I4 r2 r4 q4
 |_=>cases q3
def pt_chain'(hu:X.A.units+60<fy)(ha:PE X a ta)(hb:PE X b tb)(hc:PE X c tc)(hm:JY [op,op'] [b,c]=J):PT X (.Compare a [op,op'] [b,c] pos) (λU H Q=>ta U H λx H1=>tb U H1 λy H2=>qM X.K op x y H2 λz H3=>match z with
  |.c k=>if k=W then tc U H3 λu H4=>qM X.K op' y u H4 λz H5=>match z with
   |.c k=>Q k H5
   |_=>bu
   else Q J H3
  |_=>bu):=by
 intro pins s U H Q I h;refine isTrue_chain (bG (ha pins s U H _ I h) λv s1 ⟨x,H1,I1,r1,q1⟩=>test_link (bG (hb pins s1 U H1 _ I1 q1) λu s2 ⟨y,H2,I2,r2,q2⟩=>
  bG (C_ hu op pins s2 U H2 x y v u _ I2 r1 r2 q2) λd s3 ⟨z,H3,I3,r3,q3⟩=>?_)) hm
 cases z with
 |c k=>
  cases r3;refine iK ?_;cases k with
  |false=>exact ite_ff #[H3,I3,q3]
  |true=>
   refine ite_tt<|test_last<|bG (hc pins s3 U H3 _ I3 q3) λw' s4 ⟨z',H4,I4,r4,q4⟩=>bG (C_ hu op' pins s4 U H4 y z' u w' _ I4 r2 r4 q4) λd' s5 ⟨z2,H5,I5,r5,q5⟩=>?_;cases z2 with
   |c k2=>
    cases r5;exact iK #[H5,I5,q5]
   |_=>cases q5
 |_=>cases q3
def pt_cmp'(hu:X.A.units+60<fy)(ha:PE X a ta)(hb:PE X b tb)(hm:A8 op b=J):PT X (.Compare a [op] [b] pos) (λU H Q=>ta U H λx H1=>tb U H1 λy H2=>qM X.K op x y H2 λz H3=>match z with
  |.c k=>Q k H3
  |_=>bu):=by
 intro pins s U H Q I h;refine wpAny_isTrue_Compare1 (bG (ha pins s U H _ I h) λv s1 ⟨x,H1,I1,r1,q1⟩=>bG (hb pins s1 U H1 _ I1 q1) λu s2 ⟨y,H2,I2,r2,q2⟩=>bG (C_ hu op pins s2 U H2 x y v u _ I2 r1 r2 q2) λd s3 ⟨z,H3,I3,r3,q3⟩=>?_) hm;cases z with
 |c k=>
  cases r3;exact iK #[H3,I3,q3]
 |_=>cases q3
def pt_val'(ha:PE X a ta)(he:∀whole,wH a X.env whole=(do let v <-whole;zq a.pos;tL [v] (CA v))):PT X a (λU H Q=>ta U H λx H1=>mW X.K x H1 λb=>Q b H1):=by
 intro pins s U H Q I h;exact isTrue_plain (bG (ha pins s U H _ I h) λv s1 qq=>by let#[x,H1,I1,r1,q1]:=qq;exact ZP pins s1 U H1 x v Q I1 r1 q1)<|he _
def aec(hu:X.A.units+60<fy)(ho:PE X o to)(ha:PA X (e::er) t)(hb:Dd o=W)(hl:(apos.endLine==cpos.line)=W)(hs:cY (e::er)=W)(hf:zl (e::er)<30):PE X (.Call (.Attribute o m.name apos) (e::er) [] cpos) (λU H Q=>to U H λx H1=>Fj m x H1/\t U H1 λvs H2=>LR m x vs H2 Q):=by
 intro pins s U H Q I h;refine wpAny_Call_method_late (O0 hb) (W0 hs hf) hl rfl<|bG (ho pins s U H _ I h) λv s1 ⟨x,H1,I1,r1,hr,q1⟩=>?_;let#[h1,h2]:=abc I1 r1 hr;have fx:=WM m;refine#[Fi m,WL m,fx.pa,fx.slot,fx.ty,h1,h2,?_];have run:=bG (ha cpos pins s1 U H1 _ I1 q1) λus s2 ⟨vs,H2,I2,r2,q2⟩=>abe hu I2 r1 r2 q2;have hs':noStar e=W/\cY er=W:=aS.mp hs;rw[dH hs'.1]at run ⊢;exact yI (by show(J||(qh cpos<|eO er X.env).any (·.1))=J;rw[pe hs'.2]<;>rfl)<|Calls.evalArgs_plain run
def aed(hg:Gl X x)(hx:x="isinstance")(hm:X.mg x=B)(hgy:Gl X y)(hy:y=ty.name)(hty:ty≠.none)(hmy:X.mg y=B)(ha:PE X a ta)(hs:noStar a=W):PE X (.Call (.Name x p) [a,.Name y py] [] pos) (λU H Q=>ta U H λv H1=>Bv X.K ty v H1 λb=>Q (.c b) H1):=by
 subst hx hy;intro pins s U H Q I h;refine cC<|iZ I hg hm xU ?_;have hst:eO [a,.Name ty.name py] X.env=[(J,eval a X.env),(J,eval (.Name ty.name py) X.env)]:=by rw[dH hs];rfl
 refine eL ?_ (by rw[hst];rfl) rfl;rw[hst];refine cj<|bG (ha pins s U H _ I h) λu s1 ⟨v,H1,I1,r1,q1⟩=>?_;have hn:ty.name≠("__name__":Str):=by cases ty<;>decide +kernel
 have hd:(ty.name==("__debug__":Str))=J:=by cases ty<;>decide +kernel
 refine cj<|iZ I1 hgy hmy (Ty.boot ty hty) (c6 ?_) hn hd;refine bG (ad0 I1 r1 q1 hty) λw s2 ⟨z,H2,I2,r2,e,b,ez,qb⟩=>?_;subst e ez;exact#[.c b,_,I2,r2,qb]
def Bf.abm(f:Bf):(∃id,f.val=.builtin id)\/∃T,f.val=.type T:=by
 cases f<;>first|exact .inl ⟨_,rfl⟩|exact .inr ⟨_,rfl⟩
def aee(hb:o7 X f.val<|Bu X.K f)(hg:Gl X x)(hx:x=f.name)(hm:X.mg x=B)(ha:PA X (e::er) t)(hs:cY (e::er)=W):PE X (.Call (.Name x p) (e::er) [] pos) (λU H Q=>t U H λvs H1=>Bu X.K f vs H1 Q):=by
 subst hx;have hs':noStar e=W/\cY er=W:=aS.mp hs;intro pins s U H Q I h;refine cC<|iZ I hg hm f.boot ?_ f.ok.1 f.ok.2;have run:=bG (ha pos pins s U H _ I h) λus s1 ⟨vs,H1,I1,r1,q1⟩=>hb pins s1 U H1 vs us Q I1 r1 q1;rcases f.abm with⟨id,ev⟩|⟨T,ev⟩
 .rw[ev]at run ⊢;exact eL run (dH hs'.1)<|pe hs'.2
 .rw[ev]at run ⊢;exact ck run (dH hs'.1)<|pe hs'.2
end
section
variable{X:Cx}{T:Tab}{Y:L G}{E:XK}{a:Expr}{ta:TE}{pos:Pos}
def Ok.E_(ok:Ok X T Y E):Ok X.E_ T Y E0:=by
 refine#[ok.N,ok.nd,ok.sc,ok.kind,λi x g hx hg=>?_,ok.bn,ok.own,ok.calm,ok.semi,sj,ok.room];have q:=ok.gl i x g hx hg;cases g with
 |a sp dvs=>
  rcases q with⟨k,f,fd,ps,ds,q1,q2,q3,q4,q5,q6,q7⟩|⟨_,q⟩
  .exact .inl #[k,f,fd,ps,ds,q1,q2,q3,q4,q5,q6,λpins U H s e s' I z=>(WZ z).elim]
  .exact .inr #[rfl,q]
 |_=>exact q
def Ok.hand(ok:Ok X T Y E){e:Addr}(he:e∈X.ex\/X.ajg.heap.objs.size<=e):Ok (X.hand<|.ref e) (QO T) (Y.map<|G.hand e) E0:=by
 refine#[ok.N,ok.nd,ok.sc,ok.kind,λi x g hx hg=>?_,ok.bn,ok.own,(λz=>nomatch z),(λz=>nomatch z),sj,ok.room];rw[bz]at hg;cases e':Y[i]? with
 |none=>rw[e']at hg;cases hg
 |some g0=>
  rw[e']at hg;cases hg;have q:=ok.gl i x g0 hx e';cases g0 with
  |a sp dvs=>exact iT
  |b C=>exact iT
  |d sp=>
   let#[k,f,fd,ps,q]:=q;exact .inr #[rfl,rfl,rfl,e,k,f,fd,ps,rfl,q]
  |_=>exact q
noncomputable def Br:aah Addr->Z
|none=>.type "NoneType"
|some C=>.ref C
theorem FA{K:ak}{c:aah Addr}:∀(gs:L Nat) (b:Bool),(∀g∈gs,∀(D:Addr) (Cs:L Addr),Y[g]?=M (G.c D Cs)->jM K D Cs)->yd Y gs c=M b->∀Ds,C9 Y gs Ds->Io K (Br c) (Ds.map bH)=M b
|[],b,hK,h,Ds,hD=>by
 cases h;cases(show Ds=[]from hD);rfl
|g::gs,b,hK,h,Ds,hD=>by
 let#[D,r,Cs,rfl,hg,hr]:=hD;have hK':=λg' (hg':g'∈gs)=>hK g'<|az _ hg';have h:((QG Y[g]?).bind _)=_:=h;rw[hg]at h;let#[k1,k2]:=hK g aD D Cs hg;show(match dY K (Br c) (.ref D)with|some W=>M W|some J=>Io K (Br c) (r.map bH)|none=>B)=M b;cases c with
 |none=>
  rw[show dY K (Br B) (.ref D)=M J from k1];exact FA gs b hK' h r hr
 |some C=>
  have h:(if C∈Cs then(if C=D then M W else yd Y gs (M C))else B)=M b:=h;by_cases hC:C∈Cs
  .rw[aQ hC]at h;rw[show dY K (Br<|M C) (.ref D)=M (decide<|C=D)from(k2 C hC).2];by_cases hD:C=D
   .rw[aQ hD]at h;rw[aA hD];exact h
   .rw[aE hD]at h;rw[aK hD];exact FA gs b hK' h r hr
  .rw[aE hC]at h;cases h
def Tv{P:br}{w:bE}{H:Hp}{h:Heap}{m:Bool}{e C:Addr}{od:aah Addr}{fs:L<|Str×V}(hok:gZ P w H h)(he:H e=M (vS m e C od))(hd:Xd H od fs):∃oe mA,zB h e oe C mA:=by
 let#[oe,vs,g1,g2,g3,g4,g5]:=af3 hok he;cases od with
 |none=>exact#[oe,B,g1,g2,by unfold Ip;rw[g4],by rw[g3];trivial]
 |some d=>
  let#[mA,n1,_]:=af4 hok hd;let#[od,ho,_]:=SJ n1;exact#[oe,M od,g1,g2,by unfold Ip;rw[g4],by rw[g3];exact ho]
def nU{α:Type}{a:α}{P:Prop}(h:(B:aah α)=M a):P:=nomatch h
def QS{e:Expr}{a}(h:nP e=M a):e=.Name a.1 a.2:=by
 cases e<;>first|exact nU h|(cases h;rfl)
def abn{x:aah G}{p:Addr×L Addr}(h:QG x=M p):x=M (.c p.1 p.2):=by
 cases x with
 |none=>exact nU h
 |some y=>cases y<;>first|exact nU h|(cases h;rfl)
set_option tactic.hygienic true
def O1{pins:L<|Addr×Obj}{U:L2.St}{H:Hp}{s:aj}{x:V}{u cv:Z}{Y:L G}{gs:L Nat}{Q:Bool->Prop}(I:L2.Inv X pins U H s)(rx:RelV x u)(h:LS Y gs x H Q)(hK:∀g∈gs,∀(D:Addr) (Cs:L Addr),Y[g]?=M (G.c D Cs)->jM X.K D Cs)(run:∀(c:aah Addr) (b:Bool) (Hx:Heap->Prop),Nv X.K u (Br c) Hx->Hx s.heap->(u=.builtin "__main__.__loader__#opaque"->bu)->yd Y gs c=M b->Q b->
   aG (aJ X.prog X.w) X.A (call (.builtin "isinstance") [u,cv]) (EP X pins U λy H'=>H'=H/\∃b,y=.c b/\Q b) X.xe s):
  aG (aJ X.prog X.w) X.A (call (.builtin "isinstance") [u,cv]) (EP X pins U λy H'=>H'=H/\∃b,y=.c b/\Q b) X.xe s:=by
 let#[hne,_,_,h]:=h;rcases h with⟨rfl,b,h1,h2⟩|⟨e,rfl,h⟩
 .cases(show u=fH from rx);exact run B b _ DG iT (λz=>nomatch z) h1 h2
 .cases(show u=bH e from rx);let#[m,C,od,fs,he,hd,b,h1,h2]:=h;let#[oe,mA,aae]:=Tv I.hok he hd;have xk:BA X.K C:=by
   cases gs with
   |nil=>exact aC rfl hne
   |cons g gs=>
    let#[p,e1,h1]:=fL.mp h1;have h1:(if C∈p.2 then(if C=p.1 then M W else yd Y gs (M C))else B)=M b:=h1;by_cases hC:C∈p.2
    .exact((hK g aD p.1 p.2<|abn e1).2 C hC).1
    .rw[aE hC]at h1;cases h1
  exact run (M C) b _ (adJ xk.toLN xk.ha xk.hn xk.htk) aae (λz=>nomatch z) h1 h2
def LZ{T:Tab}{g:Nat}{e:Expr}(h:xB T g e=W):∃y p,e=.Name y p/\T.gl[g]?=M y/\pQ T.sc y=W/\(y==("__debug__":Str))=J:=by
 unfold xB at h;cases q:nP e with
 |none=>rw[q]at h;cases h
 |some a=>
  rw[q]at h;let#[h,h3]:=aS.mp h;let#[h1,h2]:=aS.mp h;exact#[a.1,a.2,QS q,ay h1,h2,by cases z:(a.1==("__debug__":Str))<;>first|rfl|(rw[z]at h3;cases h3)]
def Ok.cid(ok:Ok X T Y E):∀{gs:L Nat}{es:L Expr},z5 T gs es=W->∀g∈gs,∀(D:Addr) (Cs:L Addr),Y[g]?=M (G.c D Cs)->jM X.K D Cs
|[],es,h,g,hg=>aC hg aO
|g::gs,[],h,_,_=>aC (show J=W from h) aN
|g::gs,e::er,h,g',hg=>by
 have h':xB T g e=W/\z5 T gs er=W:=aS.mp h;rcases aY.mp hg with rfl|hg
 .intro D Cs e1;let#[y,p,rfl,h1,_]:=LZ h'.1;exact(ok.gl g' _ _ h1 e1).2
 .exact ok.cid h'.2 g' hg
def ZU(ok:Ok X T Y E){g:Nat}{e:Expr}{D:Addr}{Cs:L Addr}(h:xB T g e=W)(hg:Y[g]?=M (G.c D Cs)):∃y p,e=.Name y p/\Gl X y/\X.mg y=M (.ref D)/\(y==("__debug__":Str))=J:=by
 let#[y,p,rfl,h1,h2,h3]:=LZ h;refine#[y,p,rfl,?_,(ok.gl g y _ h1 hg).1,h3];have h2:=ay h2;rw[<-ok.sc]at h2;exact h2
theorem Tw(ok:Ok X T Y E):∀(gs:L Nat) (es:L Expr),z5 T gs es=W->PA X es λ_ H Q=>∃Ds,C9 Y gs Ds/\Q (Ds.map V.a) H
|[],es,h=>by
 cases es with
 |nil=>
  intro pos pins s U H Q I q;let#[Ds,e,q]:=q;cases(show Ds=[]from e);exact Fc pos pins s U H Q I q
 |cons e er=>exact aC (show J=W from h) aN
|g::gs,[],h=>aC (show J=W from h) aN
|g::gs,e::er,h=>by
 have h':xB T g e=W/\z5 T gs er=W:=aS.mp h;intro pos pins s U H Q I q;let#[_,#[D,r,Cs,rfl,hg,hr],q]:=q;let#[y,p,rfl,z1,z2,z3]:=ZU ok h'.1 hg;exact C6 (aaO (v:=.a D) z1 z2 rfl z3) (Tw ok gs er h'.2) rfl pos pins s U H Q I #[r,hr,q]
theorem oA:∀(Ds:L Addr) (us:L Z),bO (Ds.map V.a) us->us=Ds.map bH
|[],us,h=>by cases h;rfl
|D::Ds,us,h=>by
 cases h with
 |cons h1 h2=>rw[oA Ds _ h2,show _=bH D from h1];rfl
def aeg{x:Str}{p:Pos}{c:Expr}{one:Bool}{gs:L Nat}(ok:Ok X T Y E)(hg:Gl X x)(hx:x="isinstance")(hm:X.mg x=B)(ha:PE X a ta)(hs:noStar a=W)(hc:ZS T one gs c=W):PE X (.Call (.Name x p) [a,c] [] pos) (λU H Q=>ta U H λv H1=>LS Y gs v H1 λb=>Q (.c b) H1):=by
 subst hx;intro pins s U H Q I h;refine cC<|iZ I hg hm xU ?_;have hn:noStar c=W:=by
  cases one with
  |true=>cases gs with
   |nil=>exact aC (show J=W from hc) aN
   |cons g gs=>cases gs with
    |nil=>cases c<;>first|rfl|exact aC (show J=W from hc) aN
    |cons g' gs=>exact aC (show J=W from hc) aN
  |false=>cases c<;>first|rfl|exact aC (show J=W from hc) aN
 have hst:eO [a,c] X.env=[(J,eval a X.env),(J,eval c X.env)]:=by rw[dH hs,dH hn];rfl
 refine eL ?_ (dH hs) (pe<|by simp[cY,hn]);rw[hst];show aG _ _ (vF ((J,eval a X.env)::[(J,if J=W then _ else eval c X.env)])) _ _ s;refine cj<|bG (ha pins s U H _ I h) λu s1 ⟨v,H1,I1,r1,q1⟩=>?_;have fin:∀{s2:aj}{cv:Z},L2.Inv X pins U H1 s2->(aG (aJ X.prog X.w) X.A (call (.builtin "isinstance") [u,cv]) (EP X pins U λy H'=>H'=H1/\∃b,y=.c b/\Q (.c b) H1) X.xe s2)->aG (aJ X.prog X.w) X.A (call (.builtin "isinstance") [u,cv]) (EP X pins U Q) X.xe s2:=
  λI2 z=>bG z λw s3 ⟨y,H3,I3,r3,e3,b,e4,qb⟩=>by subst e3 e4;exact#[.c b,_,I3,r3,qb]
 let#[hne,hl,#[Ds,hD],_]:=id q1;cases one with
 |true=>
  cases gs with
  |nil=>exact aC rfl hne
  |cons g gs=>cases gs with
   |cons g' gs=>exact aC (show J=W from hc) aN
   |nil=>
    let#[D,r,Cs,rfl,e1,hr]:=hD;let#[y,py,rfl,z1,z2,z3]:=ZU ok (show xB T g c=W from hc) e1;refine cj<|qW I1 z1 z2 (c6 ?_) z3;have hK:=ok.cid (gs:=[g]) (es:=[.Name y py])<|aS.mpr #[hc,rfl];refine fin I1<|O1 I1 r1 q1 hK λc b Hx aag p hx e2 hq=>?_;have k:=FA [g] b hK e2 [D] #[D,[],Cs,rfl,e1,rfl];have k1:dY X.K (Br c) (.ref D)=M b:=by
     have k:(match dY X.K (Br c) (.ref D)with|some W=>M W|some J=>M J|none=>B)=M b:=k;cases z:dY X.K (Br c) (.ref D)with
     |none=>rw[z]at k;cases k
     |some b'=>rw[z]at k;cases b'<;>exact k
    exact om aag I1.p_ p k1 hx λtk=>#[.c b,H1,I1.tok _,rfl,rfl,b,rfl,hq]
 |false=>
  cases c<;>first|exact aC (show J=W from hc) aN|skip
  rename_i es k tpos;have hc':cY es=W/\z5 T gs es=W:=aS.mp hc;have hlD:∀{Ds:L Addr}{gs:L Nat},C9 Y gs Ds->zl Ds=zl gs:=by
   intro Ds gs;induction gs generalizing Ds with
   |nil=>intro z;cases(show Ds=[]from z);rfl
   |cons g gs ih=>rintro⟨D,r,Cs,rfl,_,z⟩;simp[ih z]
  refine cj<|Be (x1:=k)<|bG (Tw ok gs es hc'.2 tpos pins s1 U H1 (λxs H2=>H2=H1/\xs=Ds.map V.a) I1 #[Ds,hD,rfl,rfl]) λus s2 ⟨xs,H2,I2,r,eH,ex⟩=>?_;subst eH ex;have eu:=oA Ds us r;subst eu;refine#[by rw[ai,hlD hD,cB];omega,c6 ?_];have I3:L2.Inv X pins U H2 { s2 with heap:=s2.heap.push (yS<|Ds.map bH) }:=I2.kept (t':=s2.toks) λb u q=>aq _ q;have hK:=ok.cid hc'.2;refine fin I3<|O1 I3 r1 q1 hK λc b Hx aag p hx e2 hq=>?_;exact PySem.W.kia_tup aag I3.p_ p (aU _ rfl) (FA gs b hK e2 Ds hD) hx λtk=>#[.c b,H2,I3.tok _,rfl,rfl,b,rfl,hq]
def abo:oS ("ValueError":Str)=M (.type "ValueError"):=by decide +kernel
def aeh{x y:Str}{p py:Pos}{g:Nat}(hK:∀Cs as,Y[g]?=M (G.h Cs as)->z7 X.K Cs as)(hg:Gl X x)(hx:x="isinstance")(hm:X.mg x=B)(hgy:Gl X y)(hy:y="ValueError")(hmy:X.mg y=B)(ha:PE X a ta)(hs:noStar a=W):PE X (.Call (.Name x p) [a,.Name y py] [] pos) (λU H Q=>ta U H λv H1=>QH Y g v H1 λb=>Q (.c b) H1):=by
 subst hx hy;intro pins s U H Q I h;refine cC<|iZ I hg hm xU ?_;have hst:eO [a,.Name ("ValueError":Str) py] X.env=[(J,eval a X.env),(J,eval (.Name ("ValueError":Str) py) X.env)]:=by rw[dH hs];rfl
 refine eL ?_ (by rw[hst];rfl) rfl;rw[hst];show aG _ _ (vF ((J,eval a X.env)::[(J,eval (.Name ("ValueError":Str) py) X.env)])) _ _ s;refine cj<|bG (ha pins s U H _ I h) λu s1 ⟨v,H1,I1,r1,q1⟩=>?_;refine cj<|iZ I1 hgy hmy abo<|c6 ?_;let#[Cs,as,e1,q1]:=q1;let#[k1,k2]:=hK Cs as e1;rcases q1 with⟨rfl,q1⟩|⟨e,rfl,m,C,od,fs,he,hd,hC,q⟩
 .cases(show u=fH from r1);exact om DG I1.p_ iT k1 (λz=>nomatch z) λtk=>#[.c J,H1,I1.tok _,rfl,q1]
 .cases(show u=bH e from r1);let#[oe,mA,aae]:=Tv I1.hok he hd;have xk:=(k2 C hC).1;exact om (adJ xk.toLN xk.ha xk.hn xk.htk) I1.p_ aae (k2 C hC).2.1 (λz=>nomatch z) λtk=>#[.c W,H1,I1.tok _,rfl,q]
set_option tactic.hygienic false
end
end L3
end
section
namespace L2
open PySem PySem.W PySem.Calls PyProof.Rows
section
variable{prog:br}{w:bE}{A:b7}{E:Z->aj->Prop}{s:aj}
def J9{R:L Z->aj->Prop}{n:Nat}(hh:A.handled=B)(hr:Iq s.heap r a b 1 t u v)(hsmall:sQ a b 1=W)(hn:lC a b 1=n)(hlen:n<=2 ^ 24)(q:∀(h':Heap) (tk:Nat) (acc:Array Z),(∀b o,s.heap.get? b=M o->h'.get? b=M o)->pL (λ(i:Nat) v=>∃t,v=.int (a+(i:Int)*1) t) acc n->R acc.toList { s with heap:=h',toks:=tk }):aG (aJ prog w) A (vI<|.ref r) R E s:=by
 have hd:=aF hr;have new:(s.heap.push { cls:=.type "list",data:=.seq #[] }).get? s.heap.objs.size=M { cls:=.type "list",data:=.seq #[] }:=aU _ rfl;refine ah<|tO<|fu r9 ?_;rw[dF mU _];refine(ah<|dZ<|au #[iw iF _,fu wQ ?_]);rw[dF iF _];have hr':Iq (s.heap.push { cls:=.type "list",data:=.seq #[] }) r a b 1 t u v:=aq _ hr;have run:=wpAny_extend_range (prog:=prog) (w:=w) (s:={ s with heap:=s.heap.push { cls:=.type "list",data:=.seq #[] } })
  (R:=λz s'=>∃h' tk acc c,z=.ok (.ret<|.ref s.heap.objs.size)/\s'={ s with heap:=h',toks:=tk }/\(∀b o,s.heap.get? b=M o->h'.get? b=M o)/\h'.get? s.heap.objs.size=M { cls:=.type "list",dict:=B,data:=.seq acc c,slots:=#[] }/\pL (λ(i:Nat) v=>∃t,v=.int (a+(i:Int)*1) t) acc n)
  hh hr' hsmall hn hlen s.heap.objs.size (.ref s.heap.objs.size) 0 new
  λh' tk acc c k e it=>#[h',tk,acc,c,rfl,rfl,λb o eb=>k b o (aZ<|aF eb)<|aq _ eb,e,it]
 refine d9 run (λfl s' z=>?_) λ_ _ z=>?_
 .cases fl with
  |done f=>
   let#[h',tk,acc,c,ef,rfl,k,e,it]:=z;cases ef;exact ah<|pJ e<|au<|q h' tk acc k it
  |again g=>
   refine#[z.1,iR z.2 λr s2 y=>?_];let#[h',tk,acc,c,rfl,rfl,k,e,it]:=y;exact ah<|pJ e<|au<|q h' tk acc k it
 .obtain⟨_,_,_,_,ez,_⟩:=z;cases ez
open PySem.F in
theorem Ew{Q₁:Z->aj->Prop}{n:Nat}(hh:A.handled=B)(hr:Iq s.heap r a b 1 t u v)(hsmall:sQ a b 1=W)(hn:lC a b 1=n)(hlen:n<=2 ^ 24)(h:∀(h':Heap) (tk:Nat) (acc:Array Z),(∀b o,s.heap.get? b=M o->h'.get? b=M o)->pL (λ(i:Nat) v=>∃t,v=.int (a+(i:Int)*1) t) acc n->Q₁ (.ref h'.objs.size) { s with heap:=h'.push { cls:=.type "tuple",data:=.seq acc },toks:=tk }):jW (aJ prog w) A (.call (.builtin "tuple.__new__") #[[.type "tuple",.ref r],[]]) (wants Q₁ E) s:=by
 refine se ?_;show aG _ A.in1 (do E3 "tuple.__new__" #[[.type "tuple",.ref r],[]];again (.builtin "tuple.__new__" #[[.type "tuple",.ref r],[]])) _ _ s;refine ah<|yF (F.newCall_tuple_1 _)<|au #[iw F.plain_tuple_new _,fu F.entry_tuple_new ?_];rw[dF F.plain_tuple_new _];have hsub:=sub_tuple_self;have hinit:=init_tuple_lookup;have hmh:=madeHere_tuple;have hT:s.TypeIs (.ref r) "range":=#[_,hr,rfl]
 wp_walk using mL hT,J9 (A:=A.in1) hh hr hsmall hn hlen
 intro h' tk acc hk hacc;show aG _ _ (NB acc.toList.toArray >>= λv=>ret v) _ _ _;refine ah (dZ ?_ (by show acc.toList.toArray.size<=ao;simp only[nq];rw[hacc.1,cB];omega));refine au ?_;have e:acc.toList.toArray=acc:=by simp
 rw[e];exact h h' tk acc hk hacc
def Ey{Q:Z->aj->Prop}{n:Nat}(hh:A.handled=B)(hr:Iq s.heap r a b 1 t u v)(hsmall:sQ a b 1=W)(hn:lC a b 1=n)(hlen:n<=2 ^ 24)(h:∀(h':Heap) (tk:Nat) (acc:Array Z),(∀b o,s.heap.get? b=M o->h'.get? b=M o)->pL (λ(i:Nat) v=>∃t,v=.int (a+(i:Int)*1) t) acc n->Q (.ref h'.objs.size) { s with heap:=h'.push { cls:=.type "tuple",data:=.seq acc },toks:=tk }):aG (aJ prog w) A (call (.type "tuple") [.ref r]) Q E s:=by
 refine zm (Q₁:=λobj aji=>aji.TypeIs obj "tuple"/\Q obj aji) F.called_tuple (F.typeCall_tuple_1 _) F.entry_object_init
  (Ew hh hr hsmall hn hlen λh' tk acc hk hacc=>#[#[_,aU _ rfl,rfl],h h' tk acc hk hacc]) λobj aji ajl=>?_
 exact#[ajl.1,F.args_object_init_2 obj _,object_init_meets F.called_tuple.init.lookup F.called_tuple.made (by decide) prog w A.in1 _ aji #[ajl.1,rfl,ajl.2]]
end
end L2
end
section
namespace L3
open PySem PySem.Spec PyProof.Rows L2
section
variable{X:Cx}
def FE(i:Int):∀(n:Nat) (acc:Array Z),pL (λ(k:Nat) v=>∃t,v=.int (i+(k:Int)*1) t) acc n->bO ((bg n).map λ(k:Nat)=>V.b<|i+(k:Int)) acc.toList:=by
 intro n acc it;have key:∀(l:L Z) (ks:L Nat),zl l=zl ks->(∀(j:Nat) v k,l[j]?=M v->ks[j]?=M k->∃t,v=.int (i+(k:Int)) t)->bO (ks.map λ(k:Nat)=>V.b<|i+(k:Int)) l:=by
  intro l;induction l with
  |nil=>intro ks hl _;cases ks with|nil=>exact .nil|cons _ _=>cases hl
  |cons v r ih=>
   intro ks hl h;cases ks with
   |nil=>cases hl
   |cons k kr=>exact .cons (h 0 v k rfl rfl) (ih kr (by simpa using hl) λj v' k' h1 h2=>h (j+1) v' k' (by simpa using h1)<|by simpa using h2)
 refine key _ _ (by rw[bF,it.1,gO]) λj v k h1 h2=>?_;have hj:j<n:=by
  have:=(bL.mp h2).1;simpa using this
 rw[Bk hj]at h2;cases h2;let#[t,e]:=it.2 j v (by rw[<-eK];exact h1);exact#[t,by rw[e,Ot]]
def aei(hc:X.calm=W)(hg:Gl X "tuple")(hm:X.mg "tuple"=B)(hg2:Gl X "range")(hm2:X.mg "range"=B)(ha:PA X (e::es) ta)(hs:cY (e::es)=W):PE X (.Call (.Name "tuple" p) [.Call (.Name "range" p2) (e::es) [] pos2] [] pos) (λU H Q=>ta U H λvs H1=>WD vs H1 Q):=by
 have hs':noStar e=W/\cY es=W:=aS.mp hs;intro pins s U H Q I h;refine cC (iZ I hg hm (u:=.type "tuple") (by decide +kernel) ?_);refine ck ?_ rfl rfl;refine cj (G1 (iZ I hg2 hm2 (u:=.type "range") (by decide +kernel)<|ck (bG (ha pos2 pins s U H _ I h) λus s1 ⟨vs,H1,I1,r1,q⟩=>?_) (dH hs'.1)<|pe hs'.2));let#[i,j,rfl,#[q1,q2,q3,q4,q5],q]:=q
 ·
  let#[u,u',rfl,ru,ru']:=vals2 r1;let#[t,rfl]:=ru;let#[t',rfl]:=ru';refine call_range_2<|c6 ?_;have I2:L2.Inv X pins U H1 { s1 with heap:=s1.heap.push { cls:=.type "range",data:=.fields (List.toArray [.int i t,.int j t',.int 1 s1.toks]) },toks:=s1.toks+1 }:=I1.kept λb o e=>aq _ e;refine Ey (n:=(j-i).toNat) (I2.ok.hd hc) (D_ ..) (JU q1 q2 q3 q4) (by rw[A7];split<;>omega) q5 λh' tk acc hk it=>?_;have I3:=I2.kept (t':=tk) hk;have I4:L2.Inv X pins U (upd H1 h'.objs.size<|.b<|(bg (j-i).toNat).map λ(k:Nat)=>V.b<|i+(k:Int)) { s1 with heap:=h'.push { cls:=.type "tuple",data:=.seq acc },toks:=tk }:=
   I3.laid (t':=tk) (λb o e=>aq _ e) (aM _) (show fR X.prog X.w _ _ _ (.b _)from#[by rw[ai,gO,cB];omega,acc.toList,FE i _ acc it,by rw[nq];exact IsTup.new _ _])
  exact#[.a h'.objs.size,_,I4,rfl,q _<|I3.hok.fresh<|aM _]
end
def range_getD{α:Type}(d:α)(ss:L α):(bg<|zl ss).map (λi=>ss.getD i d)=ss:=by
 apply ng
 .simp
 .intro i h1 h2;simp[bS,h2]
def L4(ss:L Int):zE (λi=>ss.getD i 0) (zl ss)=kX ss:=by
 unfold zE kX;rw[range_getD]
section
variable{X:Cx}
def abp{e:Expr}{te:TE}{p1 p2 p3 pos:Pos}(hc:X.calm=W)(hg1:Gl X "len")(hm1:X.mg "len"=B)(hg2:Gl X "set")(hm2:X.mg "set"=B)(he:PE X e te)(hs:noStar e=W):PE X (.Call (.Name "len" p1) [.Call (.Name "set" p2) [e] [] p3] [] pos) (λU H Q=>te U H λx H1=>ZO x H1 Q):=by
 intro pins s U H Q I h;refine cC<|iZ I hg1 hm1 (Bf.boot .a) ?_ (Bf.ok .a).1 (Bf.ok .a).2;refine eL ?_ rfl rfl;show aG _ _ (vF ((J,eval (.Call (.Name "set" p2) [e] [] p3) X.env)::qh pos (eO [] X.env))) _ _ s;refine cj (cC (iZ I hg2 hm2 (u:=.type "set") (by decide +kernel) ?_ (by decide)<|by decide));refine ck ?_ (dH hs) rfl;rw[dH hs];show aG _ _ (vF ((J,eval e X.env)::qh p3 (eO [] X.env))) _ _ s;refine cj<|bG (he pins s U H _ I h) λu s1 ⟨x,H1,I1,r1,b,ss,ex,hx,hl,q⟩=>?_;refine c6 ?_;subst ex;cases r1;let#[its,r,p,_]:=I1.list<|Rd.sX hx;have hlen:its.length=ss.length:=by rw[<-r.length,ai]
 have hsz:its.toArray.size=ss.length:=by rw[aT,hlen]
 refine PySem.call_set_list (I1.ok.hd hc) (PlainL.is p) (intsAre_of r) (by rw[hsz];unfold scanBound;lia) λh' tk hS keep=>?_;refine c6 ?_;rw[hsz,L4]at hS;let#[o,es,ep,t,ho,hex,hd,hel,hmem,hb,hf,hn]:=hS;refine call_len_set ho hex hd hf (by rw[hn];have:(kX ss).length<=ss.length:=(by rw[<-L4];exact E7 _ _);lia) #[.b _,H1,(I1.kept (t':=tk) λb u e=>keep b u (aF e) e).tok _,#[_,rfl],?_];rw[hn];exact q
end
end L3
end
section
namespace L2
open PySem PySem.W PySem.Calls PyProof.Rows
theorem QT:vz (.type "list_reverseiterator") "__len__"=pure B:=by rfl
theorem W1:vz (.type "list_reverseiterator") "__length_hint__"=pure (M<|.builtin "list_reverseiterator.__length_hint__"):=by rfl
section
variable{prog:br}{w:bE}{A:b7}{E:Z->aj->Prop}{s:aj}
def W3{Q:Bool->aj->Prop}(hT:s.TypeIs (.ref r) "list_reverseiterator")(h:Q J s):aG (aJ prog w) A (uE<|.ref r) Q E s:=by
 refine ah<|n_ hT QT ?_;refine ah<|n_ hT W1 ?_;generalize hid:("list_reverseiterator.__length_hint__":String)=id0
 wp_delta
 rw[show Qh id0=M ("list_reverseiterator","__length_hint__")from by subst hid;decide +kernel];subst hid;refine ah (qS (b:=W) hT (by rfl) ?_);refine jY (λhab=>aC hab<|by decide) λ_=>?_;refine jY (λ_=>?_) (λhab=>aC (by rfl) hab);refine jY (λhab=>aC hab<|by decide) λ_=>?_;exact au h
def J_{Q:Z->aj->Prop}(hh:A.handled=B)(hne:l≠I)(hI:s.heap.IsRevIter I l<|(items.size:Int)-1)(hl:s.heap.IsList l items)(hn:items.size<=ao)(hQ:∀h' tk acc c,(∀b o,b≠I->s.heap.get? b=M o->h'.get? b=M o)->h'.get? s.heap.objs.size=M { cls:=.type "list",dict:=B,data:=.seq acc c,slots:=#[] }->pL (λi v=>items[items.size-1-i]?=M v) acc items.size->Q (.ref s.heap.objs.size) { s with heap:=h',toks:=tk }):aG (aJ prog w) A (call (.type "list") [.ref I]) Q E s:=by
 have hIs:=let⟨_,e,_⟩:=hI;aF e
 have hls:=let⟨_,e,_⟩:=hl;aF e
 refine zm (Q₁:=λobj aji=>obj=.ref s.heap.objs.size/\aji={ s with heap:=s.heap.push { cls:=.type "list",data:=.seq #[] } }) Sm (NN _) NO
  (code_list_new _ #[rfl,rfl]) λobj aji ajl=>?_
 let#[rfl,rfl]:=ajl;generalize hS0:s.heap.objs.size=S at *;have hS:(s.heap.push { cls:=.type "list",data:=.seq #[] }).get? S=M { cls:=.type "list",data:=.seq #[] }:=hS0▸aU _ rfl;have aad:=Walks.listRev (prog:=prog) (w:=w) (A:=A.in1.in1) hh I l hne items;have hSf:S∉[I,l]:=by simp only[aY,aO,or_false,not_or];exact#[gq hIs,gq hls]
 refine#[#[_,hS,rfl],NC _ _,?_];show aG _ _ (do let old <-OC (.ref S);xo (.ref S) λ_=>#[];letGo old.toList.reverse;uF (.ref S) (.ref I) .none) _ _ _;refine ah ?_;refine ah<|pF hS rfl<|au ?_;refine ah<|xV hS rfl ?_;have ajB:=dN (fJ λ_=>(#[]:Array Z)) hS rfl;have oth:∀b o,s.heap.get? b=M o->((s.heap.push { cls:=.type "list",data:=.seq #[] }).update S<|fJ λ_=>(#[]:Array Z)).get? b=M o:=
  λb o e=>(bM _ _<|gq<|hS0▸aF e).trans<|aq _ e
 have st:(λi (h:Heap)=>i<=items.size/\h.IsRevIter I l ((items.size:Int)-1-(i:Int))/\h.IsList l items) 0 ((s.heap.push { cls:=.type "list",data:=.seq #[] }).update S<|fJ λ_=>(#[]:Array Z)):=
  #[c7 _,by simpa using hI.at λo e=>oth I o e,hl.at λo e=>oth l o e]
 refine ah<|wpAny_letGo ?_;generalize((s.heap.push { cls:=.type "list",data:=.seq #[] }).update S<|fJ λ_=>(#[]:Array Z))=h2 at *;refine ah<|mL (T:="list_reverseiterator") (zF (s:={ s with heap:=h2 }) st.2.1) ?_;have h1:kR (.ref S) (.ref I)=J:=by simp[kR];exact gq hIs
 have h2':(Value.type "list_reverseiterator"==Value.type "list")=J:=by decide
 have h3:(Value.type "list_reverseiterator"==Value.type "tuple")=J:=by decide
 simp only[h1,h2',h3,A9,cJ,kQ];refine ah<|aad.self 0 { s with heap:=h2 } _ _ st ?_;refine ah<|cW<|W3 (zF (s:={ s with heap:=h2 }) st.2.1) ?_;refine jY (λhab=>aC hab<|by decide +kernel) λ_=>?_;refine au #[iw oq _,AI aad.toS hn S hSf .none items.size 0 _ #[] _ rfl (c7 _) st ajB (OD _) λs' acc' c' hm hS' hacc=>?_];rw[KI hm];exact#[rfl,hQ s'.heap s'.toks acc' c' (λb o hb e=>hm.heap b o (λhmem=>by
  rcases aY.mp hmem with e'|hmem
  .exact aC (aF e) (by rw[hS0,e'];exact dm _)
  .exact hb (aL.mp hmem))<|oth b o e) hS' hacc]
end
end L2
end
section
namespace L3
open PySem PySem.Spec PyProof.Rows L2
section
variable{X:Cx}
def W4(r:bO xs its)(hl:zl acc=zl its)(h:∀i v,acc[i]?=M v->its[zl its-1-i]?=M v):bO xs.reverse acc:=by
 have e:acc=its.reverse:=by
  apply ng (by simp_all);intro i h1 h2;have:=h i acc[i]<|aB h1;rw[List.getElem_reverse];rw[aB<|by omega]at this;exact(cA this).symm
 rw[e];exact bO.reverse r
def aej{e:Expr}{te:TE}{p p2 pos pos2:Pos}(hc:X.calm=W)(hg:Gl X "list")(hm:X.mg "list"=B)(hg2:Gl X "range")(hm2:X.mg "range"=B)(he:PE X e te)(hs:noStar e=W):PE X (.Call (.Name "list" p) [.Call (.Name "range" p2) [e] [] pos2] [] pos) (λU H Q=>te U H λx H1=>WI x H1 Q):=by
 intro pins s U H Q I h;refine cC (iZ I hg hm (u:=.type "list") (by decide +kernel) ?_);refine ck ?_ rfl rfl;show aG _ _ (vF [(J,eval (.Call (.Name "range" p2) [e] [] pos2) X.env)]) _ _ s;have hst:eO [e] X.env=[(J,eval e X.env)]:=by rw[dH hs];rfl
 refine cj (G1 (iZ I hg2 hm2 (u:=.type "range") (by decide +kernel)<|ck ?_ (dH hs) rfl));rw[hst];show aG _ _ (vF ((J,eval e X.env)::[])) _ _ s;refine cj<|bG (he pins s U H _ I h) λu s1 ⟨v,H1,I1,r1,q⟩=>c6 ?_;let#[n,rfl,#[h0,hz],q]:=q;let#[t,rfl]:=r1;refine Nz<|c6 ?_;have I2:L2.Inv X pins U H1 { s1 with heap:=s1.heap.push { cls:=.type "range",data:=.fields (List.toArray [.int 0 s1.toks,.int n t,.int 1<|s1.toks+1]) },toks:=s1.toks+1+1 }:=I1.kept λb o e=>aq _ e;refine call_list_range (n:=n.toNat) (I2.ok.hd hc) (D_ ..) (JU (by decide) (by decide) (by omega)<|by omega) (by rw[A7];split<;>omega) hz λh' tk acc c hk hl it=>?_;have I3:L2.Inv X pins U (upd H1 (s1.heap.push { cls:=.type "range",data:=.fields (List.toArray [.int 0 s1.toks,.int n t,.int 1<|s1.toks+1]) }).objs.size<|.a<|(bg n.toNat).map λ(k:Nat)=>V.b (k:Int)) { s1 with heap:=h',toks:=tk }:=
  I2.laid (t':=tk) hk (aM _) (show fR X.prog X.w _ _ _ (.a _)from#[by rw[ai,gO,cB];omega,acc.toList,c,by have:=FE 0 _ acc it;simpa using this,by rw[nq];exact hl])
 exact#[.a _,_,I3,rfl,q _<|I2.hok.fresh<|aM _]
def aek(hc:X.calm=W)(hg:Gl X "list")(hm:X.mg "list"=B)(hg2:Gl X "reversed")(hm2:X.mg "reversed"=B)(he:PE X e te)(hs:noStar e=W):PE X (.Call (.Name "list" p) [.Call (.Name "reversed" p2) [e] [] pos2] [] pos) (λU H Q=>te U H λx H1=>WJ x H1 Q):=by
 intro pins s U H Q I h;refine cC (iZ I hg hm (u:=.type "list") (by rfl) ?_);refine ck ?_ rfl rfl;refine cj<|G1<|iZ I hg2 hm2 KH<|ck ?_ (dH hs) rfl;rw[dH hs];refine cj<|bG (he pins s U H _ I h) λu s1 ⟨x,H1,I1,r1,b,xs,ex,hx,q⟩=>?_;refine c6 ?_;subst ex;cases r1;let#[its,rv,pl,hz]:=I1.list (.inl hx:jg X.K H1 b xs);refine CT pl.isList<|c6 ?_;have hb:=let⟨_,e,_⟩:=pl.isList;aF e
 refine J_ (I1.ok.hd hc) (aZ hb) #[_,aU _ rfl,rfl,rfl] (pl.isList.push _) (by rw[aT,<-rv.length];exact hz) λh' tk acc c k e it=>?_;have I2:L2.Inv X pins U H1 { s1 with heap:=s1.heap.push (revObj b<|(its.toArray.size:Int)-1) }:=I1.kept λb o e=>aq _ e;have k':=λb o e=>k b o (aZ<|aF e)<|aq _ e;refine#[.a _,_,I1.laid k' (dG (by rw[iC];exact ir _)) (show fR X.prog X.w _ h' _ (.a xs.reverse)from#[by rw[sP];exact hz,acc.toList,c,W4 rv (by rw[bF,it.1,aT]) λi v hv=>?_,by rw[nq];exact e]),rfl,q _ (I1.hok.fresh (by show s1.heap.objs.size<=(s1.heap.push _).objs.size;rw[iC];exact jN _))];have:=it.2 i v (by rw[<-eK];exact hv);simpa using this
end
def abq{P:br}{w:bE}{k:Key}{u:Z}(h:(fM P w).is k u=W):RelV (kV k) u:=by
 rcases jf h with⟨i,t,rfl,rfl⟩|⟨x,t,rfl,rfl⟩
 .exact#[t,rfl]
 .exact#[t,rfl]
end L3
end
section
namespace L2
open PySem PySem.W PySem.Calls PyProof.Rows L3
def O2(x:gZ P w H h)(hn:H a=B)(new:fR P w (upd H a o) h a o):gZ P w (upd H a o) h:=λb u e=>by
 by_cases hb:b=a
 .subst hb;rw[c5]at e;cases e;exact new
 .rw[bq hb]at e;exact(x b u e).stay (λ_ _ _ r=>r) (λc r=>by rw[bq<|bZ r hn];exact r) (λc ys r=>by rw[bq<|bZ r hn];exact r) λc o ys r=>by rw[bq<|bZ r hn];exact r
structure Tz (H H':Hp) (h:Heap):Prop where
 grow:∀b o,H b=M o->H' b=M o
 free:∀b o,h.get? b=M o->H b=B->H' b=B
def Tz.add(g:Tz H H' h)(hn:H' a=B)(ha:h.objs.size<=a):Tz H (upd H' a o) h:=
 #[λb u e=>by rw[bq<|bZ (g.grow b u e) hn];exact g.grow b u e,λb u e n=>by rw[bq<|aZ<|bQ (aF e) ha];exact g.free b u e n]
theorem IU:∀{kss:L<|L Key}{ts:L Addr}{H1:Hp}{k:L Addr->Hp->Prop},Paired (qL h') (ts.map bH) kss->(∀x∈kss,zl x<=ao)->gZ P w H1 h'->Tz H H1 h->(∀t∈ts,H1 t=B/\h.objs.size<=t)->ts.Nodup->Fp kss H1 k->
 ∃H2,k ts H2/\gZ P w H2 h'/\Tz H H2 h/\jF H2 kss ts/\(∀b o,H1 b=M o->H2 b=M o)/\∀b,b∉ts->H1 b=B->H2 b=B
|[],[],H1,k,_,_,hok,g,_,_,q=>#[H1,q,hok,g,.nil,λ_ _ e=>e,λ_ _ e=>e]
|x::kss,t::ts,H1,k,.cons p r,hl,hok,g,ht,nd,q=>by
 let#[hn,hs]:=ht t aD;let#[nt,nd]:=cL.mp nd;let#[t',o,us,n,e,h1,h2,h3,h4]:=p;cases e;have hok1:=O2 hok hn (show fR P w _ h' t (.b<|x.map kV)from#[by rw[ai];exact hl x aD,us,h4,o,h1,h2,n,h3]);let#[H2,a1,a2,a3,a4,a5,a6]:=IU r (λy hy=>hl y<|az _ hy) hok1 (g.add hn hs) (λu hu=>#[by rw[bq λz:u=t=>nt<|z▸hu];exact(ht u<|az _ hu).1,(ht u<|az _ hu).2]) nd<|q t hn;refine#[H2,a1,a2,a3,.cons (a5 t _ c5) a4,λb o e=>a5 b o (by rw[bq<|bZ e hn];exact e),λb hb e=>a6 b (λz=>hb<|az _ z) ?_];rw[bq λz:b=t=>hb (by rw[z];exact aD)];exact e
|[],_::_,_,_,r,_,_,_,_,_,_=>nomatch r
|_::_,[],_,_,r,_,_,_,_,_,_=>nomatch r
section
variable{prog:br}{w:bE}{A:b7}{E:Z->aj->Prop}{s:aj}
def QU{lt:Nat->Nat->Bool}{G:L Z->Heap->Prop}{Q:Z->aj->Prop}(hC:∀vs h1 h',G vs h1->(∀b o,h1.get? b=M o->h'.get? b=M o)->2<=zl vs->S1 prog w A.in1.in1 vs lt h')(h64:∀vs h1,G vs h1->zl vs<64)(hc:aG (aJ prog w) A.in1 (vI<|.ref l) (λvs s1=>∃h1 tk,s1={ s with heap:=h1,toks:=tk }/\G vs h1) (λ_ _=>bu) s)(h:∀vs h1 h' a c tk,G vs h1->(∀b o,h1.get? b=M o->h'.get? b=M o)->h1.objs.size<=a->h'.get? a=M (iE "list" (lY vs lt).toArray c)->Q (.ref a) { s with heap:=h',toks:=tk }):aG (aJ prog w) A (call (.builtin "sorted") [.ref l]) Q E s:=by
 refine n6 Ec CK CL (CM _) ?_;refine ah<|au ?_;refine ah<|d9 hc (λvs s1 ⟨g1,tk,e1,hG⟩=>?_) λ_ _ x=>x.elim;subst e1;have h64:=h64 vs g1 hG;dsimp only;refine ah (uY ?_ (by rw[cB];lia));have hoL:(g1.push<|iE "list" vs.toArray 0).get? g1.objs.size=M (iE "list" vs.toArray 0):=aU _ rfl;have keep:∀b o,g1.get? b=M o->(g1.push<|iE "list" vs.toArray 0).get? b=M o:=λb o e=>aq _ e;refine ah<|cW<|gi zy #[_,hoL,rfl] xP ?body<|zz _
 case body=>
  refine vR hoL (λh' k'=>hC vs g1 h' hG λb o e=>k' b o (aZ<|aF e)<|keep b o e) h64 λh' c k' e'=>?_;exact#[_,rfl,au #[_,rfl,h vs g1 h' _ c tk hG (λb o e=>k' b o (aZ<|aF e)<|keep b o e) (aM _) e']]
end
end L2
namespace L3
open PySem PySem.Spec PySem.W PyProof.Rows L2
section
variable{X:Cx}
def abr:∀ks∈l0 ps,ks≠[]:=λks h=>by
 let#[p,_,rfl]:=bK.mp h;exact List.cons_ne_nil _ _
def IV:∀ks∈l0 ps,∀qs∈l0 ps,kq ks qs=W:=λks h qs h'=>by
 let#[p,_,rfl]:=bK.mp h;let#[q,_,rfl]:=bK.mp h';rfl
set_option tactic.hygienic true in
theorem Ez{lo:Addr}:∀{ps:L<|Str×Int}{vs:L<|Key×Z}{as:L Addr},KV (ps.map λp:Str×Int=>(eG p.1,V.b p.2)) vs->zl as=zl vs->KdxG (fM P w) vs lo h as->Paired (qL h) (as.map bH) (l0 ps)
|[],_,as,r,hl,g=>by
 cases r;cases as with
 |nil=>exact .nil
 |cons _ _=>simp at hl
|p::ps,_,as,r,hl,g=>by
 cases r with
 |cons q t=>
  cases as with
  |nil=>simp at hl
  |cons a as=>
   rename_i u vs;let#[key,k,x,e1,e2,e3]:=g.pairs 0 a rfl;simp at e1;subst e1;let#[q1,q2]:=q;have hk:=abq e2;rw[<-(show eG p.1=k from q1)]at hk;refine .cons #[a,_,[key,x],_,rfl,e3,rfl,rfl,#v[hk,q2]] (Ez t (by simpa using hl) #[(List.pairwise_cons.mp g.rise).2,λb hb=>g.above b<|az _ hb,λj b hj=>by simpa using g.pairs (j+1) b<|by simpa using hj])
def ael(hc:X.calm=W)(hg:Gl X "sorted")(hm:X.mg "sorted"=B)(he:PE X e te)(hb:Dd e=W)(hl:(p2.endLine==pos2.line)=W):PE X (.Call (.Name "sorted" p) [.Call (.Attribute e "items" p2) [] [] pos2] [] pos) (λU H Q=>te U H λx H1=>WG x H1 Q):=by
 intro pins s U H Q I h;refine cC (iZ I hg hm (u:=.builtin "sorted") (by decide +kernel) ?_);refine eL ?_ rfl rfl;refine cj<|wpAny_Call_method0_late (O0 hb) hl<|bG (he pins s U H _ I h) λu s1 ⟨x,H1,I1,r1,a,ps,ex,hx,h64,q⟩=>?_;subst ex;cases r1;let#[hz,hS,vs,kv,hd]:=zT I1.hok hx;have hd':=hd;let#[o,es,ep,ho,hx',_]:=id hd;refine#["dict","dict.items",NP,xw,NQ,hd.typeIs,λb e=>by cases e;exact#[o,ho,hx'.2.1],yI rfl<|PySem.evalArgs_none ?_];refine wN xw hd.typeIs ND (Li _) (meets_dict_items (fM X.prog X.w) a hS) #[#[vs,hd],c6 ?_];let#[ep,hat]:=hd.dictAt;have hlen:zl vs=zl ps:=by rw[<-Paired.length kv,ai]
 refine QU (G:=λus h1=>∃as,us=as.map bH/\zl as=zl vs/\KdxG (fM X.prog X.w) vs s1.heap.objs.size h1 as/\s1.heap.objs.size<=h1.objs.size/\∀b o,s1.heap.get? b=M o->h1.get? b=M o)
  (λus h1 h' ⟨as,e1,e2,e3,e5,e4⟩ k h2=>e1▸Em (Paired.imp' (λv ks x=>qL.keep' x k)<|Ez kv e2 e3) abr IV (by rw[<-e1];exact h2))
  (λus h1 qq=>by let#[as,e1,e2,_]:=qq;rw[e1,ai,e2,hlen];exact h64)
  (kdx_collect (knd:=fM X.prog X.w) (kvs:=vs) (ep:=ep) (I1.ok.hd hc) #[_,aU _ rfl,rfl,rfl] (hat.push _) (by rw[hlen,cB];lia) λh' tk as k e2 e3=>#[h',tk,rfl,as,rfl,e2,e3.low (by rw[iC];exact jN _),dG<|aF<|k s1.heap.objs.size _<|aU _ rfl,λb o e=>k b o<|aq _ e])
  λus h1 h' b c tk ⟨as,e1,e2,e3,e5,e4⟩ k hb e=>?_
 have tk1:=Ez kv e2 e3;have hl1:zl as=zl (l0 ps):=by rw[e2,hlen,l0,ai]
 have ok1:=I1.hok.kept e4;have k2:=λb o e=>k b o<|e4 b o e;let#[H2,a1,a2,a3,a4,a5,a6]:=IU (P:=X.prog) (w:=X.w) (H:=H1) (h:=s1.heap) (h':=h') (Paired.imp' (λv ks x=>qL.keep' x k) tk1) (λx hx=>by
   let#[p,_,rfl]:=bK.mp hx;show 2<=ao;rw[cB];lia) (I1.hok.kept k2) #[λ_ _ e=>e,λ_ _ _ e=>e] (λt ht=>#[I1.hok.fresh<|dG<|e3.above t ht,dG<|e3.above t ht]) (e3.rise.imp λh=>aZ h) q
 have hs1:s1.heap.objs.size<=b:=fB e5 hb;have hn:H2 b=B:=a6 b (λz=>aC (e3.there z)<|G2.mpr hb)<|I1.hok.fresh hs1;have eo:lY us (LJ<|l0 ps)=(iQ<|l0 ps).map λi=>us.getD i fH:=by
  unfold lY iQ;rw[e1,ai,hl1]
 have lt:∀i∈iQ (l0 ps),i<zl as:=λi hi=>by rw[hl1];exact yR _ _ i hi
 have ok3:gZ X.prog X.w (upd H2 b<|.a<|(iQ<|l0 ps).map λi=>.a<|as.getD i 0) h':=O2 a2 hn (show fR X.prog X.w _ h' b (.a _)from#[by
   rw[ai];unfold iQ;rw[vD,<-hl1,e2,hlen,cB];lia,_,c,L2.oA as _ lt,by rw[<-e1,<-eo];exact e])
 have g3:=a3.add (o:=.a<|(iQ<|l0 ps).map λi=>.a<|as.getD i 0) hn hs1;exact#[.a b,_,Inv.Hq (s:=s1) (ch:=[]) (t':=tk) I1 (λ_ z=>nomatch z) (λb o _ e=>k2 b o e) (λb o _ e n=>g3.free b o e n) g3.grow ok3,rfl,a1 b hn]
end
end L3
end
section
namespace L3
open PySem PySem.SetTable
def O3(xs:Array Nat):Prop:=∀a b,a<b->b<xs.size->xs.getD a 0<xs.getD b 0
theorem EA{xs:Array Nat}(hr:O3 xs)(j:Nat):∀(f lo hi:Nat),hi-lo<=f->lo<=hi->hi<=xs.size->(∀i<lo,xs.getD i 0<j)->(∀i,hi<=i->i<xs.size->j<=xs.getD i 0)->
 below.go xs j f lo hi<=xs.size/\(∀i<below.go xs j f lo hi,xs.getD i 0<j)/\∀i,below.go xs j f lo hi<=i->i<xs.size->j<=xs.getD i 0
|0,lo,hi,hf,h1,h2,h3,h4=>by
 have e:lo=hi:=by lia
 subst e;exact#[h2,h3,h4]
|f+1,lo,hi,hf,h1,h2,h3,h4=>by
 unfold below.go;split
 .rename_i hl;have hx:xs.getD ((lo+hi) / 2) j=xs.getD ((lo+hi) / 2) 0:=by
   rw[cH,cH,dU<|by lia];rfl
  dsimp only;rw[hx];split
  .rename_i hm;refine EA hr j f _ hi (by lia) (by lia) h2 (λi hi'=>?_) h4;by_cases e:i=(lo+hi) / 2
   .rw[e];exact hm
   .have:=hr i ((lo+hi) / 2) (by lia) (by lia);lia
  .rename_i hm;refine EA hr j f lo _ (by lia) (by lia) (by lia) h3 λi hi' hs=>?_;by_cases e:i=(lo+hi) / 2
   .rw[e];lia
   .have:=hr ((lo+hi) / 2) i (by lia) hs;lia
 .have e:lo=hi:=by lia
  subst e;exact#[h2,h3,h4]
def rL{xs:Array Nat}(hr:O3 xs)(j:Nat):below xs j<=xs.size/\(∀i<below xs j,xs.getD i 0<j)/\∀i,below xs j<=i->i<xs.size->j<=xs.getD i 0:=
 EA hr j xs.size 0 xs.size (by lia) (by lia) (aM _) (λi h=>aC h<|gU _) λi h h'=>by omega
def O4{xs:Array Nat}{i v:Nat}(h:xs[i]?=M v):i<xs.size/\xs.getD i 0=v:=by
 let#[h1,h2]:=nD.mp h;exact#[h1,by rw[cH,h];rfl]
def O5{xs:Array Nat}{i:Nat}(h:i<xs.size):xs[i]?=M (xs.getD i 0):=by
 rw[cH,dU h];rfl
def below_at{xs:Array Nat}(hr:O3 xs){i j:Nat}(h:xs[i]?=M j):below xs j=i:=by
 let#[h1,h2]:=O4 h;let#[b1,b2,b3]:=rL hr j;by_cases e:i<below xs j
 .have:=b2 i e;omega
 .by_cases e2:below xs j=i
  .exact e2
  .have:=b3 (below xs j) (aM _) (by omega);have:=hr (below xs j) i (by omega) h1;omega
def vX(xs:Array Nat)(j:Nat):Prop:=∃i:Nat,xs[i]?=M j
def IW{t:cM}(hr:O3 t.place){i j:Nat}(h:t.place[i]?=M j):t.slot j=.live i:=by
 unfold slot;dsimp only;rw[below_at hr h,h,aQ<|by simp]
def QV{t:cM}(hd:t.dummies=#[]){j:Nat}(h:¬vX t.place j):t.slot j=.empty:=by
 unfold slot;dsimp only;rw[aE λe=>h #[_,eq_of_beq e],hd,aE<|by simp[has]]
noncomputable def dh(t:cM)(h:Int):Nat->Probe
|0=>t.probeStart h
|k+1=>t.advance<|dh t h k
noncomputable def lp(m:Nat)(h:Int):Nat->Nat×Nat
|0=>(bits h%(m+1),bits h)
|r+1=>leap m (lp m h r).1 (lp m h r).2
noncomputable def De(m:Nat)(q:Nat×Nat):Probe:={ j:=q.1,more:=runEnd m q.1-q.1,i:=q.1,perturb:=q.2,dummy:=B }
def IX(m i:Nat):runEnd m i<=i+9/\i<=runEnd m i:=by unfold runEnd;split<;>lia
theorem L5(t:cM)(h:Int){k r:Nat}(e:dh t h k=De t.mask (lp t.mask h r)):∀d,d<=runEnd t.mask (lp t.mask h r).1-(lp t.mask h r).1->
 dh t h (k+d)={ De t.mask (lp t.mask h r)with j:=(lp t.mask h r).1+d,more:=runEnd t.mask (lp t.mask h r).1-(lp t.mask h r).1-d }
|0,_=>e
|d+1,hd=>by
 show t.advance (dh t h<|k+d)=_;rw[L5 t h e d<|by lia];unfold advance;dsimp only;rw[aQ<|by omega];rfl
def O6(t:cM)(h:Int){k r:Nat}(e:dh t h k=De t.mask (lp t.mask h r)):dh t h (k+(runEnd t.mask (lp t.mask h r).1-(lp t.mask h r).1)+1)=De t.mask (lp t.mask h<|r+1):=by
 show t.advance (dh t h<|k+_)=_;rw[L5 t h e _<|aM _];unfold advance;dsimp only;rw[aE<|by lia];rfl
theorem TF(t:cM)(h:Int):∀r,∃k,k<=10*r/\dh t h k=De t.mask (lp t.mask h r)
|0=>#[0,by lia,rfl]
|r+1=>by
 let#[k,h1,h2]:=TF t h r;have:=IX t.mask (lp t.mask h r).1;exact#[_,by lia,O6 t h h2]
def abt(h:Int):bits h<2 ^ 64:=by
 unfold bits
 lia
theorem O7(m:Nat)(h:Int):∀r,(lp m h r).2=bits h / 32 ^ r
|0=>by simp[lp]
|r+1=>by
 show(lp m h r).2 / 32=_;rw[O7 m h r,yJ,Nat.pow_succ]
noncomputable def O8(m:Nat):Nat->Nat->Nat
|0,i=>i
|a+1,i=>O8 m a<|(i*5+1)%(m+1)
theorem O9(m:Nat)(h:Int):∀a r,12<=r->(lp m h<|r+a).1=O8 m a (lp m h r).1
|0,r,_=>rfl
|a+1,r,hr=>by
 rw[show r+(a+1)=(r+1)+a by lia,O9 m h a (r+1)<|by lia];show O8 m a (((lp m h r).1*5+1+(lp m h r).2 / 32)%(m+1))=O8 m a _;have hb:=abt h;have:(lp m h r).2 / 32=0:=by
  rw[O7,yJ];refine Nat.div_eq_of_lt (bQ hb ?_)
  calc 2 ^ 64<=32 ^ 12*32:=by decide
   _<=32 ^ r*32:=Nat.mul_le_mul_right _ (Nat.pow_le_pow_right (by lia) hr)
 rw[this,Nat.add_zero]
def Small(m:Nat):Prop:=m=7\/m=31
def abu{m:Nat}(hm:Small m)(i s:Nat)(hi:i<=m)(hs:s<=m):∃a,a<=m/\O8 m a i=s:=by
 have key:∀m∈[7,31],∀i∈bg (m+1),∀s∈bg (m+1),(bg<|m+1).any (λa=>O8 m a i==s)=W:=by decide +kernel
 let#[a,h1,h2]:=dX.mp (key m (by rcases hm with rfl|rfl<;>simp) i (by simp;lia) s (by simp;lia));exact#[a,by simp at h1;lia,eq_of_beq h2]
def agh(m:Nat)(h:Int)(r:Nat):(lp m h r).1<=m:=by
 cases r with
 |zero=>exact p8<|su _<|w6 m
 |succ r=>exact p8<|su _<|w6 m
def TH{m:Nat}(hm:Small m)(h:Int)(s:Nat)(hs:s<=m):∃r,r<=m+12/\(lp m h r).1=s:=by
 let#[a,h1,h2]:=abu hm (lp m h 12).1 s (agh m h 12) hs;exact#[12+a,by lia,by rw[O9 m h a 12<|aM _,h2]]
def abv{t:cM}(hm:Small t.mask)(h:Int)(s:Nat)(hs:s<=t.mask):∃k,k<=10*(t.mask+12)/\(dh t h k).j=s:=by
 let#[r,h1,h2]:=TH hm h s hs;let#[k,h3,h4]:=TF t h r;exact#[k,by lia,by rw[h4];exact h2]
theorem Ht:∀(n:Nat) (xs:L Nat),(∀s<n,s∈xs)->n<=zl xs
|0,_,_=>c7 _
|n+1,xs,h=>by
 have h1:=h n<|ir n;have h2:=Ht n (xs.erase n) λs hs=>(AJ<|by lia).mpr (h s<|by lia);rw[List.length_erase_of_mem h1]at h2;have:=List.length_pos_of_mem h1;omega
def TJ{xs:Array Nat}{m:Nat}(h:xs.size<=m):∃s,s<=m/\¬vX xs s:=by
 refine jd λhn=>?_;have:=Ht (m+1) xs.toList λs hs=>by
  refine jd λhm=>hn #[s,by lia,λ⟨i,e⟩=>hm ?_];rw[m_];exact Array.mem_of_getElem? e
 rw[bF]at this
 lia
def QW{t:cM}(hm:Small t.mask)(hs:t.place.size<=t.mask)(h:Int):∃K,K<=10*(t.mask+12)/\¬vX t.place (dh t h K).j/\∀k<K,vX t.place (dh t h k).j:=by
 let#[s,h1,h2]:=TJ hs;let#[k,h3,h4]:=abv hm h s h1;have:∀n,n<=k->(∃K,K<=k/\¬vX t.place (dh t h K).j/\∀k<K,vX t.place (dh t h k).j)\/∀k'<n,vX t.place (dh t h k').j:=by
  intro n;induction n with
  |zero=>exact λ_=>.inr λk' h=>aC h<|gU _
  |succ n ih=>
   intro hn;rcases ih (by omega)with h|h
   .exact .inl h
   .by_cases e:vX t.place (dh t ‹Int› n).j
    .refine .inr λk' hk=>?_;by_cases e2:k'=n
     .subst e2;exact e
     .exact h k' (by lia)
    .exact .inl #[n,by omega,e,h]
 rcases this k (aM _)with⟨K,q1,q2,q3⟩|h5
 .exact#[K,by lia,q2,q3]
 .exact#[k,by omega,by rw[h4];exact h2,h5]
structure BC (t:cM) (hs:L Int):Prop where
 m:Small t.mask
 d:t.dummies=#[]
 r:O3 t.place
 z:t.place.size=zl hs
 f:t.place.size<=t.mask
theorem IY(t:cM)(h:Int):∀k,(dh t h k).dummy=B
|0=>rfl
|k+1=>by
 show(t.advance<|dh t h k).dummy=B;unfold advance;split<;>exact IY t h k
theorem IZ{t:cM}{hs:L Int}(aad:BC t hs)(h:Int){K:Nat}(hK:¬vX t.place (dh t h K).j)(hO:∀k<K,vX t.place (dh t h k).j)(G3:Nat->Int):∀(f k:Nat),k<=K->K-k<f->
  probe.go t G3 h f (dh t h k)=M (.empty (dh t h K).j B) \/
  ∃k' i,k<=k'/\k'<K/\t.place[i]?=M (dh t h k').j/\probe.go t G3 h f (dh t h k)=M (.candidate (dh t h k').j i<|dh t h<|k'+1)
|0,k,_,h2=>aC h2<|gU _
|f+1,k,h1,h2=>by
 unfold probe.go;by_cases e:k=K
 .subst e;rw[QV aad.d hK];dsimp only;rw[IY];exact .inl rfl
 .obtain⟨i,hi⟩:=hO k (by omega);rw[IW aad.r hi];dsimp only;by_cases e2:G3 i=h
  .rw[aQ (by rw[e2];simp)];exact .inr #[k,i,aM _,by omega,hi,rfl]
  .rw[aE<|by simpa using e2];rcases IZ aad h hK hO G3 f (k+1) (by omega) (by omega)with q1|⟨k',i',q1,q2,q3,q5⟩
   .exact .inl q1
   .exact .inr #[k',i',by omega,q2,q3,q5]
def getElem?_insertAt{α:Type}(xs:Array α)(p:Nat)(hp:p<=xs.size)(x:α)(i:Nat):(insertAt xs p x)[i]?=if i<p then xs[i]? else if i=p then M x else xs[i-1]?:=by
 rw[<-eK,kT,List.getElem?_append,fC,bF,xS hp];split
 .rename_i h;rw[wL h,eK]
 .rename_i h;by_cases e:i=p
  .subst e;rw[aQ rfl,CU,pR]
  .rw[aE e,show i-p=(i-1-p)+1 by lia,jE,CP,show p+(i-1-p)=i-1 by lia,eK]
def uL{α:Type}(xs:Array α)(p:Nat)(hp:p<=xs.size)(x:α):(insertAt xs p x).size=xs.size+1:=by
 rw[<-bF,kT,aW,fC,bF,eY,eV,bF]
 lia
def BC.put{t t':cM}{hs:L Int}(aad:BC t hs)(h:Int){K p:Nat}(hK:¬vX t.place (dh t h K).j)(hsz:t.place.size+1<=t.mask)(hp:p=below t.place (dh t h K).j)(em:t'.mask=t.mask)(ep:t'.place=insertAt t.place p (dh t h K).j)(ed:t'.dummies=#[]):p<=zl hs/\BC t' (hs.take p++h::hs.drop p):=by
 generalize hjv:(dh t h K).j=j at *;let#[b1,b2,b3]:=rL aad.r j;rw[<-hp]at b1 b2 b3;have hz:=aad.z;refine#[by omega,?_];have hget:=getElem?_insertAt t.place p b1 j;have gd:∀i,(insertAt t.place p j).getD i 0=if i<p then t.place.getD i 0 else if i=p then j else t.place.getD (i-1) 0:=λi=>by
  rw[cH,hget];split
  .rw[cH]
  .split
   .rfl
   .rw[cH]
 have hsz':=uL t.place p b1 j;refine#[em▸aad.m,ed,?_,?_,?_]
 .rw[ep];intro a c hac hc;rw[hsz']at hc;rw[gd a,gd c];have h1:=aad.r a c;have h2:=aad.r a<|c-1;have h3:=aad.r (a-1)<|c-1;have h4:=b2 a;have h6:∀i,p<=i->i<t.place.size->j<t.place.getD i 0:=λi hi hi'=>by
   have:=b3 i hi hi';have:t.place.getD i 0≠j:=λe=>hK #[i,by rw[O5 hi',e]];omega
  have h7:=h6<|c-1
  repeat' split
  all_goals omega
 .rw[ep,hsz',aW,fC,eY,eV];omega
 .rw[ep,hsz',em];exact hsz
abbrev Tkn(ow:Array<|aah Nat)(j:Nat):Prop:=(ow.getD j<|M 0).isNone=J
theorem L6(t:cM)(h:Int)(ow:Array<|aah Nat):∀(f r k:Nat),dh t h k=De t.mask (lp t.mask h r)->(∃r',r<=r'/\r'<r+f/\¬Tkn ow (lp t.mask h r').1)->
 ∃K,layClean.free t.mask ow f (lp t.mask h r).1 (lp t.mask h r).2=M (dh t h K).j/\¬Tkn ow (dh t h K).j
|0,r,k,_,⟨r',h1,h2,_⟩=>by omega
|f+1,r,k,hk,⟨r',h1,h2,h3⟩=>by
 have hin:=L5 t h hk;have hre:=IX t.mask (lp t.mask h r).1;unfold layClean.free;generalize hi:(lp t.mask h r).1=i at *;cases hf:(bg<|runEnd t.mask i+1-i).find? (λk=>(ow.getD (i+k)<|M 0).isNone)with
 |some d=>
  let#[q1,q2,q3]:=List.find?_range_eq_some.mp hf;have hd:d<=runEnd t.mask i-i:=by simp at q2;omega
  refine#[k+d,?_,?_]
  .dsimp only;rw[hin d hd]
  .rw[hin d hd];show ¬((ow.getD (i+d)<|M 0).isNone=J);rw[q1];decide
 |none=>
  have hk2:=O6 t h hk;rw[hi]at hk2;have hlp:leap t.mask i (lp t.mask h r).2=lp t.mask h (r+1):=by show _=leap t.mask (lp t.mask h r).1 _;rw[hi]
  dsimp only;rw[hlp];refine L6 t h ow f (r+1) _ hk2 #[r',?_,by omega,h3];refine Nat.lt_of_le_of_ne h1 λe=>h3 ?_;rw[<-e,hi];exact DC.mpr (List.find?_eq_none.mp hf 0 (by simp;omega))
structure OW (t:cM) (ow:Array (aah Nat)) (hs:L Int) (pl:L Nat):Prop where
 s:ow.size=t.mask+1
 e:∀j,j<=t.mask->∀k:Nat,ow[j]?=M (M k)↔pl[k]?=M j
 l:pl.length=zl hs
 b:∀j∈pl,j<=t.mask
def OW.tkn{t:cM}{ow:Array<|aah Nat}{hs:L Int}{pl:L Nat}(ajb:OW t ow hs pl){j:Nat}(hj:j<=t.mask):Tkn ow j↔j∈pl:=by
 have hs:=ajb.s;have hlt:j<ow.size:=by lia
 show(ow.getD j<|M 0).isNone=J↔_;rw[cH,dU hlt,E4];cases hv:ow[j]with
 |none=>
  refine VX (λh=>by cases h) λh=>?_;let#[k,hk]:=g_.mp h;have:=(ajb.e j hj k).mpr hk;rw[dU hlt,hv]at this;cases this
 |some k=>exact#[λ_=>g_.mpr #[k,(ajb.e j hj k).mp<|by rw[dU hlt,hv]],λ_=>rfl]
def aen(t:cM)(h:Int):∀k,(dh t h k).j<=t.mask:=by
 have key:∀k,(dh t h k).j+(dh t h k).more<=t.mask:=by
  intro k;have hre:∀i,i<=t.mask->i+(runEnd t.mask i-i)<=t.mask:=λi hi=>by unfold runEnd;split<;>lia
  induction k with
  |zero=>exact hre _<|p8<|su _<|w6 _
  |succ k ih=>
   show(t.advance<|dh t h k).j+(t.advance<|dh t h k).more<=t.mask;unfold advance;split
   .show(dh t h k).j+1+((dh t h k).more-1)<=_
    lia
   .exact hre _ (p8<|su _<|w6 _)
 exact λk=>by have:=key k;lia
def OW.step{t:cM}(hm:Small t.mask){ow:Array<|aah Nat}{hs:L Int}{pl:L Nat}(ajb:OW t ow hs pl)(h:Int)(hl:zl hs<=t.mask):∃j pl',layClean.free t.mask ow (turns t.mask) (bits h%(t.mask+1)) (bits h)=M j/\OW t (ow.setIfInBounds j<|M<|zl hs) (hs++[h]) pl':=by
 have hfree:∃s,s<=t.mask/\s∉pl:=jd λhn=>by
  have:=Ht (t.mask+1) pl λs hs=>jd λhm=>hn #[s,by omega,hm];have:=ajb.l;omega
 let#[s,hs1,hs2]:=hfree;let#[r,hr1,hr2]:=TH hm h s hs1;let#[K,q1,q2]:=L6 t h ow (turns t.mask) 0 0 rfl #[r,c7 _,by unfold turns;omega,by rw[hr2,ajb.tkn hs1];exact hs2];have hj:=aen t h K;refine#[_,pl++[(dh t h K).j],q1,?_,λj' hj' k=>?_,by rw[aW,aW,ajb.l];rfl,λj' hm'=>?_]
 .rw[wR];exact ajb.s
 .have hs:=ajb.s;have hl':=ajb.l;rw[Array.getElem?_setIfInBounds];have hnj:=λhm'=>q2<|(ajb.tkn hj).mpr hm';by_cases e:(dh t h K).j=j'
  .subst e;rw[aQ rfl,aQ<|by omega];constructor
   .intro e1;cases e1;rw[<-hl',eU<|aM _,CU];rfl
   .intro e1;by_cases e2:k<pl.length
    .rw[fc e2]at e1;exact aC (g_.mpr #[k,e1]) hnj
    .by_cases e3:k=pl.length
     .rw[e3,hl']
     .rw[jZ (by rw[aW,g9];omega)]at e1;cases e1
  .rw[aE e,ajb.e j' hj' k];by_cases e2:k<pl.length
   .rw[fc e2]
   .rw[jZ<|by omega];refine VX (λh=>by cases h) λh=>?_;rw[eU<|by omega]at h;by_cases e3:k-pl.length=0
    .rw[e3]at h;exact aC (cA h) e
    .rw[jZ (by rw[g9];omega)]at h;cases h
 .rcases bC.mp hm' with h1|h1
  .exact ajb.b j' h1
  .rw[aL.mp h1];exact hj
def L7{t:cM}(hm:Small t.mask)(hs:Array Int)(hl:hs.size<=t.mask):∃ow pl,layClean t.mask hs=M ow/\OW t ow hs.toList pl:=by
 have go:∀(post pre:L Int) (ow:Array<|aah Nat) (pl:L Nat),zl (pre++post)<=t.mask->OW t ow pre pl->∃ow' pl',post.foldl (λacc h=>do
   let(owner,k) <-acc
   let j <-layClean.free t.mask owner (turns t.mask) (bits h%(t.mask+1)) (bits h)
   pure (owner.setIfInBounds j<|M k,k+1)) (M (ow,zl pre))=M (ow',zl<|pre++post)/\OW t ow' (pre++post) pl':=by
  intro post;induction post with
  |nil=>intro pre ow pl _ ajb;exact#[ow,pl,by rw[dS];rfl,by rw[dS];exact ajb]
  |cons h post ih=>
   intro pre ow pl hlen ajb;let#[j,pl',q1,q2]:=ajb.step hm h (by rw[aW]at hlen;omega);let#[ow',pl'',q3,q4]:=ih (pre++[h]) _ pl' (by rw[bR];exact hlen) q2;rw[bR]at q3 q4;refine#[ow',pl'',?_,q4];rw[show pre++h::post=pre++([h]++post)from rfl,<-q3,rZ];congr 1;show(layClean.free t.mask ow (turns t.mask) (bits h%(t.mask+1))<|bits h).bind _=_;rw[q1,aW];rfl
 let#[ow,pl,q1,q2]:=go hs.toList [] (G4 (t.mask+1) B) [] (by rw[lT,bF];exact hl)
  #[Array.size_replicate,λj hj k=>by rw[Array.getElem?_replicate,aQ<|by omega];simp,rfl,λj h=>by simp at h]
 refine#[ow,pl,?_,q2];unfold layClean;rw[<-Array.foldl_toList];show G5 _ (Az _ (M (G4 (t.mask+1) B,zl ([]:L Int))) hs.toList)=_;rw[q1];rfl
theorem TL{α:Type}{f:Nat->aah α}:∀(aac:L Nat) (i:Nat),(∀k∈aac,(f k).isSome=W)->(aac.filterMap f)[i]?=aac[i]?.bind f
|[],i,_=>by simp
|k::aac,i,h=>by
 let#[v,hv]:=wK.mp<|h k aD;rw[List.filterMap_cons_some hv];cases i with
 |zero=>rw[pR,pR];exact hv.symm
 |succ i=>rw[jE,jE];exact TL aac i λk' hk'=>h k'<|az _ hk'
def TM(t:cM)(es:Array<|Int×Z)(wanted:Nat)(hm:Small<|sizeAbove wanted-1)(hl:es.size<=sizeAbove wanted-1):∃t' order,t.relaid (es.map (·.1)) wanted=M (t',order)/\(order.filterMap (es[·]?)).size=es.size/\(order.filterMap (es[·]?)).toList.Perm es.toList /\
   BC t' ((order.filterMap (es[·]?)).toList.map (·.1))/\t'.led=t.led/\t'.plain=t.plain/\t'.mask=sizeAbove wanted-1:=by
 unfold relaid laid;generalize sizeAbove wanted-1=m at *;let#[ow,pl,h1,ajb]:=L7 (t:={ t with mask:=m }) hm (es.map (·.1)) (by rw[Ir];exact hl);rw[h1];have Os:ow.size=m+1:=ajb.s;have Oe:∀j,j<=m->∀k:Nat,ow[j]?=M (M k)↔pl[k]?=M j:=ajb.e;have Ol:pl.length=es.size:=by rw[ajb.l,bF,Ir]
 have Ob:∀j∈pl,j<=m:=ajb.b;generalize hlv:(bg<|m+1).filterMap (λj=>(ow.getD j B).map (j,·))=live;have gd:∀j,j<=m->ow[j]?=M (ow.getD j B):=λj hj=>by
  rw[cH,dU<|by omega];rfl
 have mem:∀j k,(j,k)∈live↔pl[k]?=M j:=by
  intro j k;rw[<-hlv,uB];constructor
  .rintro⟨j',h2,h3⟩;have h2:j'<=m:=by simp at h2;omega
   let#[k',h4,h5]:=fj.mp h3;cases h5;exact(Oe j h2 k).mp (by rw[gd j h2,h4])
  .intro h2;have h3:=Ob j<|g_.mpr #[k,h2];have h4:=(Oe j h3 k).mpr h2;rw[gd j h3]at h4;exact#[j,by simp;omega,by rw[cA h4];rfl]
 have pw:live.Pairwise (λa b=>a.1<b.1):=by
  rw[<-hlv];refine NR _ (λa a' hlt b hb b' hb'=>?_) List.pairwise_lt_range;let#[_,_,e1]:=fj.mp hb;let#[_,_,e2]:=fj.mp hb';rw[<-e1,<-e2];exact hlt
 have nd:(live.map (·.2)).Nodup:=by
  rw[List.Nodup,j7];refine w9 (λ{a b} ha hb hlt e=>?_) pw;let#[a1,a2]:=a;let#[b1,b2]:=b;dsimp only at hlt e;subst e;have q1:=(mem a1 a2).mp ha;rw[(mem b1 a2).mp hb]at q1;cases q1;omega
 have hp:(live.map (·.2)).Perm (bg es.size):=by
  refine(List.perm_ext_iff_of_nodup nd w_).mpr λk=>?_;rw[bK,fO];constructor
  .rintro⟨⟨j,k'⟩,h2,rfl⟩;have:=(mem j k').mp h2;rw[<-Ol];exact(bL.mp this).1
  .intro h2;exact#[(pl[k]'(by omega),k),(mem _ _).mpr<|aB _,rfl]
 have hlen:zl live=es.size:=by have:=hp.length_eq;rwa[ai,gO]at this
 have hpe:((live.map (·.2)).filterMap λk=>es[k]?).Perm es.toList:=by
  have:=hp.filterMap λk=>es[k]?;rwa[filterMap_getElem?_range]at this
 have htl:((live.map (·.2)).toArray.filterMap λk=>es[k]?).toList=(live.map (·.2)).filterMap (λk=>es[k]?):=by rw[Array.toList_filterMap]
 refine#[{ mask:=m,place:=(live.map (·.1)).toArray,dummies:=#[],finger:=t.finger,led:=t.led,moves:=t.movedTo m,plain:=t.plain },(live.map (·.2)).toArray,by rw[<-hlv];rfl,?_,?_,#[hm,rfl,?_,?_,?_],rfl,rfl,rfl]
 .rw[<-bF,htl,hpe.length_eq,bF]
 .rw[htl];exact hpe
 .intro a b hab hb;have hb:b<zl (live.map (·.1)):=by simpa using hb
  have ha:a<zl (live.map (·.1)):=gx hab hb;have:=List.pairwise_iff_getElem.mp ((j7 (f:=Zz) (R:=(·<·))).mpr pw) a b ha hb hab;show(live.map (·.1)).toArray.getD a 0<(live.map (·.1)).toArray.getD b 0;rw[cH,cH,rD,rD,aB hb,aB ha];exact this
 .show(live.map (·.1)).toArray.size=_;rw[htl,ai,hpe.length_eq,bF,aT,ai,hlen]
 .show(live.map (·.1)).toArray.size<=m;rw[aT,ai,hlen];exact hl
section
variable{prog:br}{w:bE}{κ:Type} [dz κ] (knd:KeyKind prog w κ)
noncomputable abbrev Hu(x:L κ×Addr):Int×Z:=(cG knd x.1,.ref x.2)
structure iW (h:Heap) (S:Addr) (xs:L (L κ×Addr)) (o:Obj) (es:Array (Int×Z)) (ep:Nat) (t:cM):Prop where
 ho:h.get? S=M o
 ex:o.ExactSet
 d:o.data=.set es ep t
 e:es.toList=xs.map (Hu knd)
 k:∀x∈xs,gW knd h x.1 x.2
 w:BC t (es.toList.map (·.1))
 b:t.mask=7/\zl xs<=4\/t.mask=31/\zl xs<=18
variable{knd} {A:b7}{E:Z->aj->Prop}{s:aj}
def iW.sz{h:Heap}{S:Addr}{xs:L<|L κ×Addr}{o:Obj}{es:Array<|Int×Z}{ep:Nat}{t:cM}(I:iW knd h S xs o es ep t):es.size=zl xs:=by
 rw[<-bF,I.e,ai]
def BC.fits{t:cM}{hs:L Int}(aad:BC t hs){n:Nat}(e:zl hs=n):t.fits n=W:=by
 unfold SetTable.fits SetTable.fill;have h1:=aad.z;have h2:=aad.f;rw[aad.d];simp
 lia
def iW.fits{h:Heap}{S:Addr}{xs:L<|L κ×Addr}{o:Obj}{es:Array<|Int×Z}{ep:Nat}{t:cM}(I:iW knd h S xs o es ep t):t.fits es.size=W:=
 I.w.fits (by rw[ai,bF])
def iW.at{h:Heap}{S:Addr}{xs:L<|L κ×Addr}{o:Obj}{es:Array<|Int×Z}{ep:Nat}{t:cM}(I:iW knd h S xs o es ep t)(i:Nat):es[i]?=(xs[i]?).map (Hu knd):=by
 rw[<-eK,I.e,bz]
def W5{t:cM}(h:Small t.mask):t.gaveWay=J:=by
 unfold ZA;rcases h with e|e<;>rw[e]<;>rfl
def L8{a:Addr}{ks:L κ}{Q:Z->aj->Prop}(h:gW knd s.heap ks a)(q:Q (.type "tuple") s):aG (aJ prog w) A (VS<|.ref a) Q E s:=by
 let#[o,its,n,e,c,d,r]:=h;exact mL #[o,e,c] q
def L_:∀(n:Nat) {v:Z},tP v=W->vh n v=pure J
|n,v,h=>by
 cases v with
 |ref a=>cases h
 |_=>cases n<;>rfl
def yV{a:Addr}{ks:L κ}{Q:Bool->aj->Prop}(h:gW knd s.heap ks a)(q:Q J s):aG (aJ prog w) A (vh 8<|.ref a) Q E s:=by
 have h0:=h;let#[o,its,n,e,c,d,r]:=h;unfold vh;refine ah<|L8 h0 ?_;dsimp only;rw[aQ<|by decide];refine ah<|au ?_;simp only[lG,cJ,↓jz];refine ah<|pF e d ?_;dsimp only;refine ah ?_;rw[<-CV];refine xd _ (λrest r s'=>r.1=B/\s'=s/\∀v∈rest,tP v=W) _ ?_ ?_ _ _ #[rfl,rfl,r.byValue]
 .rintro v rest r s' ⟨hr,rfl,hall⟩;rw[L_ _<|hall v aD];refine ah<|au ?_;simp only[cJ,↓jz];exact au #[rfl,rfl,λu hu'=>hall u<|az _ hu']
 .rintro⟨r1,r2⟩ s' ⟨hr,rfl,_⟩;simp only at hr;subst hr;exact au q
def aeo{b:Addr}{k:L κ}{Q:Bool->aj->Prop}(hk:gW knd s.heap k b)(st:L Z)(hs:∀v∈st,∃k' b',v=.ref b'/\gW knd s.heap k' b')(q:Q J s):aG (aJ prog w) A (searchCouldBeSeen (.ref b) st) Q E s:=by
 refine ah ?_;refine xd _ (λrest r s'=>r.1=B/\s'=s/\∀v∈rest,∃k' b',v=.ref b'/\gW knd s.heap k' b') _ ?_ ?_ _ _ #[rfl,rfl,hs]
 .rintro v rest r s' ⟨hr,rfl,hall⟩;let#[k',b',rfl,hk']:=hall _ aD;have hrest:=λu hu'=>hall u<|az _ hu';dsimp only;split
  .exact au #[rfl,rfl,hrest]
  .refine ah (zH hk ?_);simp only[lG,cJ,↓jz];refine ah<|zH hk' ?_;simp only[lG,cJ,↓jz];refine ah<|yV hk ?_;simp only[cJ,↓jz];refine ah<|yV hk' ?_;simp only[cJ,↓jz];exact au #[rfl,rfl,hrest]
 .rintro⟨r1,r2⟩ s' ⟨hr,rfl,_⟩;simp only at hr;subst hr;exact au q
end
def I_{t:cM}{hs:L Int}(aad:BC t hs){h:Int}{K:Nat}(hK:¬vX t.place (dh t h K).j)(hO:∀k<K,vX t.place (dh t h k).j)(hb:K<=10*(t.mask+12)){H:Nat->Int}{k:Nat}(hk:k<=K){m:aah Met}(e:t.probe H h (dh t h k)=m):m=M (.empty (dh t h K).j B)\/∃k' i,k<=k'/\k'<K/\t.place[i]?=M (dh t h k').j/\m=M (.candidate (dh t h k').j i<|dh t h<|k'+1):=by
 rw[<-e];exact IZ aad h hK hO H (10*turns t.mask) k hk (by unfold turns;omega)
section
variable{prog:br}{w:bE}{κ:Type} [dz κ] {knd:KeyKind prog w κ}{A:b7}{E:Z->aj->Prop}{s:aj}
variable{S b:Addr}{xs:L (L κ×Addr)}{o:Obj}{es:Array (Int×Z)}{ep:Nat}{t:cM}{k:L κ}
set_option tactic.hygienic true in
theorem FF(hu:A.units<fy)(I:iW knd s.heap S xs o es ep t)(hk:gW knd s.heap k b){K:Nat}(hK:¬vX t.place (dh t (cG knd k) K).j)(hO:∀k'<K,vX t.place (dh t (cG knd k) k').j)(hb:K<=10*(t.mask+12)){Q:SetFound->aj->Prop}(h1:Q (.there B) s)(h2:Q (.free (dh t (cG knd k) K).j J) s):∀(f k0:Nat) (stand:aah Probe),stand.getD (t.probeStart<|cG knd k)=dh t (cG knd k) k0->k0<=K->K-k0<f->
  aG (aJ prog w) A (setSearchFrom S (.ref b) (cG knd k) W f stand) Q E s
|0,k0,stand,_,_,h=>aC h<|gU _
|f+1,k0,stand,hst,hk0,hf=>by
 have hfit:=I.fits;refine ah<|fZ I.ho I.d hfit ?_;dsimp only;rw[W5 I.w.m,hst];simp only[cJ,↓jz];have hget:∀i x,xs[i]?=M x->es[i]?=M (Hu knd x):=λi x e=>by rw[I.at,e];rfl
 split
 .rename_i met heq;rcases I_ I.w hK hO hb hk0 heq with q1|⟨k',i,q1,q2,q3,q5⟩
  .cases q1;exact au h2
  .cases q5;dsimp only;have hi:i<zl xs:=by
    have:=(O4 q3).1;rw[I.w.z,ai,I.e,ai]at this;exact this
   have hx:=aB hi;generalize xs[i]=x at hx;let#[kx,bx]:=x;have hkx:=I.k (kx,bx)<|g_.mpr #[i,hx];have hsm:t.sameMemory t.moves t.mask=M W:=by unfold sameMemory;rw[aQ<|by simp]
   split;refine ah (aeo hk _ (λv hv=>by
    let#[e,he,rfl]:=bK.mp hv;have he:e∈es.toList:=by
     rw[m_];exact(Array.mem_filter.mp<|m_.mp he).1
    rw[I.e]at he;let#[x',hx',rfl]:=bK.mp he;exact#[x'.1,x'.2,rfl,I.k x' hx']) ?_)
   simp only[cJ,↓jz]
   all_goals
    rw[hget i _ hx];dsimp only;refine ah<|cW<|wpAny_eqBool_tuple hu hkx hk ?_;refine ah<|fZ I.ho I.d hfit ?_;dsimp only;by_cases e:kx=k
    .rw[aA e];simp only[KJ,↓jz];exact au h1
    .rw[aK e];simp only[pK,cJ,↓jz];rw[hsm];dsimp only;rw[aQ rfl,IW I.w.r q3];dsimp only;rw[hget i _ hx];dsimp only;refine ah<|wpAny_isSame_ref_self ?_;simp only[↓jz];refine ah<|au ?_;dsimp only;exact FF hu I hk hK hO hb h1 h2 f (k'+1) (M _) rfl (by omega)<|by omega
 .rename_i hno;rcases I_ I.w hK hO hb hk0 (H:=λi=>(es[i]?.map (·.1)).getD 0) rfl with q1|⟨k',i,_,_,_,q5⟩
  .exact(hno _ q1).elim
  .exact(hno _ q5).elim
end
def DU{α β:Type}{f:α->β}{l m:L β}(p:l.Perm m):∀{xs:L α},m=xs.map f->∃ys:L α,ys.Perm xs/\l=ys.map f:=by
 induction p with
 |nil=>intro xs e;cases xs with
  |nil=>exact#[[],.nil,rfl]
  |cons x xs=>cases e
 |cons x _ ih=>intro xs e;cases xs with
  |nil=>cases e
  |cons y xs=>
   injection e with e1 e2;let#[ys,h1,h2]:=ih e2;exact#[y::ys,h1.cons y,by rw[bB,e1,h2]]
 |swap x y l=>intro xs e;match xs,e with
  |a::b::xs,e=>
   injection e with e1 e2;injection e2 with e2 e3;exact#[b::a::xs,.swap a b xs,by rw[bB,bB,<-e1,<-e2,<-e3]]
 |trans _ _ ih1 ih2=>
  intro xs e;let#[ys,h1,h2]:=ih2 e;let#[zs,h3,h4]:=ih1 h2;exact#[zs,h3.trans h1,h4]
section
variable{prog:br}{w:bE}{κ:Type} [dz κ] {knd:KeyKind prog w κ}{A:b7}{E:Z->aj->Prop}{s:aj}
variable{S b:Addr}{xs:L (L κ×Addr)}{o:Obj}{es:Array (Int×Z)}{ep:Nat}{t:cM}{k:L κ}
def vY{h h':Heap}{a:Addr}(x:gW knd h k a)(ho:h.get? S=M o)(ex:o.ExactSet)(hs:gp S h h'):gW knd h' k a:=by
 let#[o',its,n,e,c,r]:=x;refine#[o',its,n,(hs.2 a λz=>?_).trans e,c,r];subst z;rw[e]at ho;cases ho;rw[ex.1]at c;exact aC c<|by decide
def N1(n:Nat){v:Z}(h:tP v=W):∃r,OE n v=pure r:=by
 cases v with
 |ref a=>cases h
 |_=>cases n<;>exact#[_,rfl]
def Ka{a:Addr}{Q:Bool->aj->Prop}(hk:gW knd s.heap k a)(q:∀r,Q r s):aG (aJ prog w) A (OE 8<|.ref a) Q E s:=by
 have hT:=hk.typeIs;let#[o,its,n,e,c,d,r]:=hk;refine ah<|n_ hT F.slot_tuple_hash.lookup ?_;dsimp only;refine ah<|pF e d ?_;refine ah ?_;rw[<-CV];refine xd _ (λrest r s'=>s'=s/\∀v∈rest,tP v=W) _ ?_ ?_ _ _ #[rfl,r.byValue]
 .rintro v rest r s' ⟨rfl,hall⟩;let#[b,hb]:=N1 7<|hall v aD;rw[hb];refine ah<|au ?_;split
  .refine au ?_;exact au<|q _
  .exact au #[rfl,λu hu'=>hall u<|az _ hu']
 .rintro⟨r1,r2⟩ s' ⟨rfl,_⟩;cases r1 with
  |none=>exact au<|q _
  |some v=>exact au<|q _
def Ja(ho:s.heap.get? S=M o)(hd:o.data=.set es ep t)(es':Array<|Int×Z)(t':cM)(hz:es'.size<=100){Q:Unit->aj->Prop}(h:∀h',h'.get? S=M { o with data:=.set es' (ep+1) t' }->gp S s.heap h'->Q () { s with heap:=h' }):aG (aJ prog w) A (storeSet S es' t') Q E s:=by
 refine wpAny_storeSet_of ho hd (h _ ?_<|sL s.heap S _) (by rw[cB];lia);have:=dN (Obj.putSet es' t') ho (by rw[putSet_of es' t' hd];rfl);rw[putSet_of es' t' hd]at this;exact this
def iW.mk'{h:Heap}{xs:L<|L κ×Addr}(ho:h.get? S=M { o with data:=.set es ep t })(ex:o.ExactSet)(e:es.toList=xs.map (Hu knd))(hk:∀x∈xs,gW knd h x.1 x.2)(aad:BC t (es.toList.map (·.1)))(b:t.mask=7/\zl xs<=4\/t.mask=31/\zl xs<=18):iW knd h S xs { o with data:=.set es ep t } es ep t:=#[ho,#[ex.1,ex.2.1,ex.2.2],rfl,e,hk,aad,b]
def abw(hu:A.units<fy)(I:iW knd s.heap S xs o es ep t)(hk:gW knd s.heap k b)(hn:zl xs+1<=18){Q:Bool->aj->Prop}(h:∀r h' xs' o' es' ep' t',gp S s.heap h'->iW knd h' S xs' o' es' ep' t'->xs'.Perm xs\/xs'.Perm (xs++[(k,b)])->t'.led=t.led->Q r { s with heap:=h' }):aG (aJ prog w) A (setAddHashed S (.ref b)<|cG knd k) Q E s:=by
 have hfit:=I.fits;have hsz:=I.sz;have hpz:=I.w.z;rw[ai,bF]at hpz;have hroom:t.place.size+1<=t.mask:=by rcases I.b with⟨e1,e2⟩|⟨e1,e2⟩<;>omega
 let#[K,k1,k2,k3]:=QW I.w.m I.w.f<|cG knd k;refine cW<|ah<|fZ I.ho I.d hfit ?_;dsimp only;rw[show byScan (.ref b) es=J by unfold byScan;rfl];simp only[cJ,↓jz];refine ah (FF hu I hk k2 k3 k1 ?_ ?_ 100000 0 B rfl (c7 _) (by rcases I.w.m with e|e<;>rw[e]at k1<;>omega))
 .dsimp only;refine au ?_;have:=h J s.heap xs o es ep t (Wb S s.heap) I (.inl<|.refl _) rfl;exact this
 .dsimp only;refine ah<|fZ I.ho I.d hfit ?_;dsimp only;have hput:∀t':cM,t'.mask=(t.put (dh t (cG knd k) K).j).1.mask->t'.place=(t.put (dh t (cG knd k) K).j).1.place->t'.dummies=(t.put (dh t (cG knd k) K).j).1.dummies->_:=
   λt' e1 e2 e3=>I.w.put (t':=t') (cG knd k) k2 hroom (p:=(t.put (dh t (cG knd k) K).j).2) rfl e1 e2 (by
    rw[e3];show(if has t.dummies _=W then _ else t.dummies)=_;rw[show has t.dummies _=J by rw[I.w.d];rfl];exact I.w.d)
  have hm':(t.put (dh t (cG knd k) K).j).1.mask=t.mask:=rfl;have hl':(t.put (dh t (cG knd k) K).j).1.led=t.led:=rfl;have hpl:(t.put (dh t (cG knd k) K).j).1.place.size=t.place.size+1:=uL _ _ (rL I.w.r _).1 _;have hdm:(t.put (dh t (cG knd k) K).j).1.dummies=#[]:=by
   show(if has t.dummies _=W then _ else t.dummies)=_;rw[show has t.dummies _=J by rw[I.w.d];rfl];exact I.w.d
  generalize t.put (dh t (cG knd k) K).j=tp at *;let#[t1,p]:=tp;dsimp only at hput hm' hl' hpl hdm ⊢;have tail:∀r:Bool,aG (aJ prog w) A (do
    storeSet S (insertAt es p (cG knd k,.ref b)) (if r=W then t1 else{ t1 with plain:=J })
    if(!false&&(if r=W then t1 else{ t1 with plain:=J }).tooFull)=W then do
      setRelay S (grown<|es.size+1)
      pure W
     else pure W) Q E s:=by
   intro r;have e1:(if r=W then t1 else{ t1 with plain:=J }).mask=t1.mask:=by split<;>rfl
   have e2:(if r=W then t1 else{ t1 with plain:=J }).place=t1.place:=by split<;>rfl
   have e3:(if r=W then t1 else{ t1 with plain:=J }).dummies=t1.dummies:=by split<;>rfl
   have e4:(if r=W then t1 else{ t1 with plain:=J }).led=t1.led:=by split<;>rfl
   generalize(if r=W then t1 else{ t1 with plain:=J })=t2 at *;let#[hp,W2]:=hput t2 e1 e2 e3;rw[ai,bF]at hp;have hins:=uL es p hp (cG knd k,.ref b);refine ah (Ja I.ho I.d _ _ (by omega) λh' ho' hs'=>?_);have hel:(insertAt es p (cG knd k,bH b)).toList=(xs.take p++(k,b)::xs.drop p).map (Hu knd):=by
    rw[kT,I.e,be,nE,bB,nF]
   have hke:∀x∈xs.take p++(k,b)::xs.drop p,gW knd h' x.1 x.2:=λx hx=>by
    rcases bC.mp hx with hx|hx
    .exact vY (I.k x<|sy hx) I.ho I.ex hs'
    .rcases aY.mp hx with rfl|hx
     .exact vY hk I.ho I.ex hs'
     .exact vY (I.k x<|sA hx) I.ho I.ex hs'
   have hpe:(xs.take p++(k,b)::xs.drop p).Perm (xs++[(k,b)]):=by
    refine xf.trans ?_;rw[mR];exact(List.perm_append_singleton _ _).symm
   have hW:BC t2 ((insertAt es p (cG knd k,bH b)).toList.map (·.1)):=by
    rw[kT,be,nE,bB,nF];exact W2
   have hlen:zl (xs.take p++(k,b)::xs.drop p)=zl xs+1:=by rw[aW,fC,eY,eV];omega
   have hfill:t2.fill=zl xs+1:=by unfold fill;rw[e2,e3,hpl,hdm];simp;omega
   split
   .rename_i hfull;have hm7:t2.mask=7/\zl xs=4:=by
     have:t2.fill*5≥t2.mask*3:=by simpa[tooFull]using hfull
     rw[e1,hm']at this ⊢;rcases I.b with⟨z1,z2⟩|⟨z1,z2⟩<;>omega
    have hgr:sizeAbove (grown<|es.size+1)=32:=by rw[hsz,hm7.2];decide
    let#[t3,order,r1,r2,r3,r4,r5,r6,r7]:=TM t2 (insertAt es p (cG knd k,.ref b)) (grown<|es.size+1) (by rw[hgr];exact .inr rfl) (by rw[hgr];omega);unfold setRelay;refine ah (ah (fZ (s:={ s with heap:=h' }) ho' rfl (hW.fits<|by rw[ai,bF]) ?_));dsimp only;rw[aE (by rw[hgr,cB];decide),r1];refine ah ?_;show aG _ _ (if _ then _ else _) _ _ _;rw[aE (by rw[r2];simp)];refine au ?_;dsimp only;let#[ys,y1,y2]:=DU r3 hel;refine Ja (s:={ s with heap:=h' }) ho' rfl _ _ (by omega) λh2 ho2 hs2=>?_;have ex':({ o with data:=.set (insertAt es p (cG knd k,bH b)) (ep+1) t2 }:Obj).ExactSet:=#[I.ex.1,I.ex.2.1,I.ex.2.2];refine au (h W h2 ys _ _ _ _ (hs'.trans hs2) (iW.mk' ho2 ex' y2 (λx hx=>vY (hke x<|y1.mem_iff.mp hx) ho' ex' hs2) r4 (.inr #[by rw[r7,hgr],by rw[y1.length_eq,hlen];omega])) (.inr<|y1.trans hpe)<|by rw[r5,e4,hl'])
   .rename_i hfull;have hnf:t2.fill*5<t2.mask*3:=by simpa[tooFull]using hfull
    refine au (h W h' _ _ _ _ _ hs' (iW.mk' ho' I.ex hel hke hW ?_) (.inr hpe)<|by rw[e4,hl'])
    .rw[hlen,e1,hm'];rw[e1,hm']at hnf;rcases I.b with⟨z1,z2⟩|⟨z1,z2⟩
     .exact .inl #[z1,by omega]
     .exact .inr #[z1,hn]
  split
  .exact ah (Ka hk λr=>tail r)
  .exact ah (au<|tail W)
end
end L3
end
section
namespace PySem.F
def Ma:Manifest.owners.lookup (String.ofList ['r','o','t','a','r','e','t','i','_','t','e','s'].reverse)=M Lj:=by kernel_rfl
def ku:Slot "set_iterator" "__next__" "set_iterator.__next__":=
 .of (owner:="set_iterator") (n:="__next__") (by rw[G6,zJ];kernel_rfl) (by decide +kernel) (by decide +kernel) (by decide +kernel)
  (by first|exact .inl (by decide +kernel)|exact .inr<|by decide +kernel) (by rw[zK];kernel_rfl)
def BD:Slot "set_iterator" "__iter__" "set_iterator.__iter__":=
 .of (owner:="set_iterator") (n:="__iter__") (by rw[G6,zJ];kernel_rfl) (by decide +kernel) (by decide +kernel) (by decide +kernel)
  (by first|exact .inl (by decide +kernel)|exact .inr<|by decide +kernel) (by rw[zK];kernel_rfl)
def AQ:EO RQ "set_iterator.__next__"=M mK.«set_iterator.__next__»:=entryFor_of_tree<|by kernel_rfl
def Kc:EO RQ "set_iterator.__iter__"=M mK.«dict_keyiterator.__iter__»:=Iu (id':="dict_keyiterator.__iter__") (by kernel_rfl) rfl (by decide +kernel)<|by kernel_rfl
def entry_set_iter':EO RQ "set.__iter__"=M mK.«frozenset.__iter__»:=Iu (id':="frozenset.__iter__") (by kernel_rfl) rfl (by decide +kernel)<|by kernel_rfl
def BE(a:Z):NF "set_iterator.__next__" #[[a],[]]:=by
 unfold NF;rw[KL (id:="set_iterator.__next__") (n:=['_','_','t','x','e','n','_','_']) (o:=['r','o','t','a','r','e','t','i','_','t','e','s']) (by kernel_rfl) Ma];kernel_rfl
def Mb(a:Z):NF "set_iterator.__iter__" #[[a],[]]:=by
 unfold NF;rw[KL (id:="set_iterator.__iter__") (n:=['_','_','r','e','t','i','_','_']) (o:=['r','o','t','a','r','e','t','i','_','t','e','s']) (by kernel_rfl) Ma];kernel_rfl
end PySem.F
end
section
namespace L3
open PySem PySem.SetTable
section
variable{aab:RZ}{A:b7}{s:aj}
def QX{E:Z->aj->Prop}(src:Source){n:Nat}{Q:Nat->aj->Prop}(hn:n≠0)(h:∀i d,i<n->Q i { s with drawn:=d }):aG aab A (choose src n) Q E s:=
 λ_ _ _=>#[hn,h _ _<|su _<|Nat.pos_of_ne_zero hn]
theorem AR{α:Type}{E:Z->aj->Prop}:∀(n:Nat) (xs:L α) {s:aj}{Q:L α->aj->Prop},zl xs<=n->(∀ys d,ys.Perm xs->Q ys { s with drawn:=d })->aG aab A (drawOrder n xs) Q E s
|n,[],s,Q,_,h=>by
 have e:drawOrder n ([]:L α)=pure []:=by cases n<;>rfl
 rw[e];exact au<|h [] s.drawn .nil
|0,x::xs,s,Q,hn,h=>aC hn<|AK _
|n+1,x::xs,s,Q,hn,h=>by
 refine ah (QX _ (by simp) λi d hi=>?_);rw[aB hi];dsimp only;have hp:((x::xs)[i]::(x::xs).eraseIdx i).Perm (x::xs):=by
  rw[rE];refine(xf).symm.trans ?_;rw[yK hi,mR]
 refine ah (AR n _ (by rw[u6 hi];simp at hn ⊢;exact hn) λys d' hy=>?_);exact au<|h _ d'<|(hy.cons _).trans hp
end
set_option tactic.hygienic true in
theorem O_{α:Type}(next:Nat->Nat):∀(f k:Nat) (left:L α) (out:Array α),zl left<=f->(CW next f k left out).toList.Perm (out.toList++left)
|0,k,left,out,h=>by
 cases left with
 |nil=>simp[CW]
 |cons _ _=>exact aC h<|AK _
|f+1,k,left,out,h=>by
 unfold CW;split
 .rename_i x hx;let#[hi,hv]:=bL.mp hx;refine(O_ next f (k+1) _ _ (by rw[u6 hi];omega)).trans ?_;rw[DE,bR];refine Qm _ ?_;have hp:(left[next k%zl left]::left.eraseIdx (next k%zl left)).Perm left:=by
   rw[rE];refine(xf).symm.trans ?_;rw[yK hi,mR]
  rw[hv]at hp;exact hp
 .rename_i hx;cases left with
  |nil=>simp
  |cons a l=>
   rw[aB (su _<|by simp)]at hx;cases hx
def TN{α:Type}(next:Nat->Nat)(xs:Array α):(CY next xs).toList.Perm xs.toList:=by
 have:=O_ next xs.size 0 xs.toList #[]<|by simp
 simpa[CY]using this
section
variable{prog:br}{w:bE}{κ:Type} [dz κ] {knd:KeyKind prog w κ}{A:b7}{E:Z->aj->Prop}{s:aj}
variable{S I:Addr}{xs ys:L (L κ×Addr)}{o:Obj}{es:Array (Int×Z)}{ep:Nat}{t:cM}
def TQ(prog:br)(w:bE)(S:Addr)(o:Obj)(ep:Nat)(ys:L Addr)(U:Nat->Nat):Prop:=
 ∀(i:Nat) (A:b7) (E:Z->aj->Prop) (s:aj) (Q:aah (Z×Nat)->aj->Prop),i<=zl ys->s.heap.get? S=M o->Q (ys[i]?.map λy=>(.ref y,U<|i+1)) s->aG (aJ prog w) A (setNext S (U i) i ep) Q E s
def W6(I:iW knd s.heap S xs o es ep t)(hb:w.params.followText "set-order"=W):∃ys:L<|L κ×Addr,ys.Perm xs/\TQ prog w S o ep (ys.map (·.2)) λ_=>0:=by
 let#[ys,h1,h2]:=DU (TN (w.params.setOrder S ep) es) I.e;refine#[ys,h1,λi A E s1 Q hi ho q=>?_];have hb':(aJ prog w).w.params.followText "set-order"=W:=hb;refine ah<|fZ ho I.d I.fits ?_;dsimp only;refine ah<|ah<|kU<|au ?_;dsimp only;rw[aQ hb'];simp only[↓jz,DB,cJ];refine ah<|ah<|fZ ho I.d I.fits ?_;dsimp only;refine ah<|ah<|kU<|au ?_;dsimp only;rw[aQ hb'];refine ah<|kU<|au ?_;refine au ?_;have e:(CY ((aJ prog w).w.params.setOrder S ep) es)[i]?=ys[i]?.map (Hu knd):=by rw[<-eK,show(CY ((aJ prog w).w.params.setOrder S ep) es).toList=_ from h2,bz]
 dsimp only;rw[e];rw[bz]at q;cases hy:ys[i]? with
 |none=>rw[hy]at q;exact q
 |some y=>rw[hy]at q;exact q
noncomputable def slotAt(t:cM):Nat->Nat
|0=>0
|i+1=>t.place.getD i 0+1
def QY(hr:O3 t.place):∀i,i<=t.place.size->below t.place (slotAt t i)=i
|0,_=>by
 let#[h1,h2,_]:=rL hr 0;refine Nat.eq_zero_of_not_pos λh=>?_;exact aC (h2 0 h)<|gU _
|i+1,hi=>by
 let#[h1,h2,h3]:=rL hr<|slotAt t<|i+1;have e:slotAt t (i+1)=t.place.getD i 0+1:=rfl;by_cases q:below t.place (slotAt t<|i+1)<=i
 .have:=h3 i q hi;omega
 .by_cases q2:i+1<below t.place (slotAt t<|i+1)
  .have:=h2 (i+1) q2;have:=hr i (i+1) (by omega) (by omega);omega
  .lia
def TR(I:iW knd s.heap S xs o es ep t)(hb:w.params.followText "set-order"=J)(hl:t.led=W)(hd:(!t.plain&&decide (es.size>1))=J):TQ prog w S o ep (xs.map (·.2)) (slotAt t):=by
 intro i A E s1 Q hi ho q;have hz:=I.w.z;rw[ai,I.e,ai]at hz;rw[ai]at hi;have hb':¬(aJ prog w).w.params.followText "set-order"=W:=λz=>by
  have:w.params.followText "set-order"=W:=z;rw[hb]at this;cases this
 refine ah<|fZ ho I.d I.fits ?_;dsimp only;refine ah<|ah<|kU<|au ?_;dsimp only;rw[aE hb'];split
 .rename_i z;have z:(!t.plain&&decide (es.size>1))=W:=z;rw[hd]at z;cases z
 refine ah ?_;show aG _ _ (if(!t.led&&!es.isEmpty)=W then _ else _) _ _ _;rw[aE (by rw[hl];simp)];refine au<|au ?_;rw[QY I.w.r i<|by lia,I.at];rw[bz]at q;cases hx:xs[i]? with
 |none=>rw[hx]at q;exact q
 |some x=>
  rw[hx]at q;have hi':=(bL.mp hx).1;have:t.place[i]?=M (t.place.getD i 0):=O5 (by lia);rw[this];exact q
end
section
variable{prog:br}{w:bE}{κ:Type} [dz κ] {knd:KeyKind prog w κ}{A:b7}{E:Z->aj->Prop}{s:aj}
variable{S I:Addr}{xs ys:L (L κ×Addr)}{o:Obj}{es:Array (Int×Z)}{ep:Nat}{t:cM}
def FG(h:Heap)(I S:Addr)(f:Z)(i n ep:Nat):Prop:=∃o,h.get? I=M o/\o.cls=.type "set_iterator"/\o.data=.fields (List.toArray [f,.int i 0,.ref S,.int n 0,.int ep 0])
def FG.typeIs{f:Z}{i n ep:Nat}(x:FG s.heap I S f i n ep):s.TypeIs (.ref I) "set_iterator":=let⟨o,ho,hc,_⟩:=x;#[o,ho,hc]
def Tup(h:Heap)(T:Addr)(ps:L Nat):Prop:=∃o c,h.get? T=M o/\o.data=.seq (ps.map λi:Nat=>bT (i:Int)).toArray c
def Mc{aaf B':b7}{h:Heap}(hh:aaf.handled=B){Q:aah Z->aj->Prop}(hQ:∀h',(∀b o,h.get? b=M o->h'.get? b=M o)->Q B { s with heap:=h' }){F:Fin->aj->Prop}:aG (aJ prog w) aaf (newExc (.type "StopIteration") [] >>= λe=>raiseNew (α:=Fin) e) F (λe s'=>aG (aJ prog w) B' (R9 e (.type "StopIteration") >>= λb=>if b=W then pure B else throw e) Q E s') { s with heap:=h }:=by
 refine ah ?_;simp only[newExc,newTuple];refine ah (dZ ?_<|by size_fits);refine ah (yF (by first|rfl|(simp only[firstArgMember];rfl)) ?_);refine dZ ?_ (by size_fits);simp only[raiseNew];refine ah<|KC ?_;rw[hh];refine ah<|au<|Oz ?_;refine ah<|qS #[_,aU _ rfl,rfl] Ij ?_;exact au<|hQ _ λb o e=>aq _<|aq _ e
def Me(I0:iW knd s.heap S xs o es ep t){U:Nat->Nat}{as:L Addr}(hn:TQ prog w S o ep as U)(hl:zl as=es.size){i:Nat}(hi:i<=zl as)(it:FG s.heap I S (.int (U i:Int) 0) i es.size ep)(hne:I≠S)(hh:A.handled=B){Q:aah Z->aj->Prop}(h1:∀a h',as[i]?=M a->FG h' I S (.int (U (i+1):Int) 0) (i+1) es.size ep->(∀b o,b≠I->s.heap.get? b=M o->h'.get? b=M o)->Q (M<|.ref a) { s with heap:=h' })(h2:as[i]?=B->∀h',(∀b o,b≠I->s.heap.get? b=M o->h'.get? b=M o)->Q B { s with heap:=h' }):aG (aJ prog w) A (uz<|.ref I) Q E s:=by
 let#[oI,ho,hc,hd]:=id it;refine ah<|nC<|lD it.typeIs PySem.F.ku<|gi PySem.F.ku it.typeIs PySem.F.AQ ?_<|PySem.F.BE _;refine ah<|au ?_;refine ah<|tM ho hd ?_;refine ah<|sR I0.ho I0.d I0.fits ?_;dsimp only;rw[aE<|by simp];refine ah<|hn i _ _ _ _ hi I0.ho ?_;cases ha:as[i]? with
 |some a=>
  refine ah (gC ho hd (by simp) ?_);have ho1:=dN (gy (·.setIfInBounds 0 (bT (U (i+1):Int)))) ho<|ja<|fm hd _;have hd1:(gy (·.setIfInBounds 0 (bT (U (i+1):Int))) oI).data=.fields (List.toArray [.int (U (i+1):Int) 0,.int i 0,.ref S,.int es.size 0,.int ep 0]):=by rw[fm hd];simp[bT]
  refine ah (gC ho1 hd1 (by simp) ?_);have ho2:=dN (gy (·.setIfInBounds 1 (bT<|(i:Int)+1))) ho1<|ja<|fm hd1 _;refine au #[_,rfl,au<|h1 a _ ha #[_,ho2,?_,?_] λb o' hb e=>?_]
  .rw[mz,mz];exact hc
  .rw[fm hd1];simp[bT]
  .exact(bM _ _<|dc hb).trans ((bM _ _<|dc hb).trans e)
 |none=>
  refine ah (gC ho hd (by simp) ?_);exact Mc (aaf:=A.in1) hh λh' k=>h2 ha h' λb o' hb e=>k b o'<|(bM _ _<|dc hb).trans e
def Mf(I0:iW knd s.heap S xs o es ep t){T:Addr}{ps:L Nat}(hT:Tup s.heap T ps){as:L Addr}(hps:∀i:Nat,as[i]?=(ps[i]?).bind λp=>(xs[p]?).map NG)(hlp:∀p∈ps,p<zl xs){i:Nat}(it:FG s.heap I S (.ref T) i es.size ep)(hh:A.handled=B){Q:aah Z->aj->Prop}(h1:∀a h',as[i]?=M a->FG h' I S (.ref T) (i+1) es.size ep->(∀b o,b≠I->s.heap.get? b=M o->h'.get? b=M o)->Q (M<|.ref a) { s with heap:=h' })(h2:as[i]?=B->∀h',(∀b o,b≠I->s.heap.get? b=M o->h'.get? b=M o)->Q B { s with heap:=h' }):aG (aJ prog w) A (uz<|.ref I) Q E s:=by
 let#[oI,ho,hc,hd]:=id it;let#[oT,cT,hoT,hdT]:=hT;refine ah<|nC<|lD it.typeIs PySem.F.ku<|gi PySem.F.ku it.typeIs PySem.F.AQ ?_<|PySem.F.BE _;refine ah<|au ?_;refine ah<|tM ho hd ?_;refine ah<|sR I0.ho I0.d I0.fits ?_;dsimp only;rw[aE<|by simp];refine ah<|pF hoT hdT ?_;dsimp only;rw[rD,bz,show((i:Int)).toNat=i from rfl];have hi:=hps i;cases hp:ps[i]? with
 |some p=>
  rw[hp]at hi;have hpl:=hlp p<|g_.mpr #[i,hp];have hx:=aB hpl;generalize xs[p]=x at hx;have hi:as[i]?=M x.2:=by rw[hi];show(xs[p]?).map _=_;rw[hx];rfl
  refine ah<|ah<|fZ I0.ho I0.d I0.fits ?_;dsimp only;rw[aE<|by simp];rw[show((p:Int)).toNat=p from rfl,I0.at,hx];refine au ?_;refine ah (gC ho hd (by simp) ?_);have ho2:=dN (gy (·.setIfInBounds 1 (bT<|(i:Int)+1))) ho<|ja<|fm hd _;refine au #[_,rfl,au<|h1 x.2 _ hi #[_,ho2,?_,?_] λb o' hb e=>?_]
  .rw[mz];exact hc
  .rw[fm hd];simp[bT]
  .exact(bM _ _<|dc hb).trans e
 |none=>
  rw[hp]at hi;refine ah (gC ho hd (by simp) ?_);have ho1:=dN (gy (·.setIfInBounds 0 (bT 0))) ho<|ja<|fm hd _;have hd1:(gy (·.setIfInBounds 0 (bT 0)) oI).data=.fields (List.toArray [.int 0 0,.int i 0,.ref S,.int es.size 0,.int ep 0]):=by rw[fm hd];simp[bT]
  refine ah (gC ho1 hd1 (by simp) ?_);exact Mc (aaf:=A.in1) hh λh' k=>h2 hi h' λb o' hb e=>k b o'<|(bM _ _<|dc hb).trans<|(bM _ _<|dc hb).trans e
def Jb{f:Z}{i n:Nat}{Q:Z->aj->Prop}(it:FG s.heap I S f i n ep)(h:Q (.ref I) s):aG (aJ prog w) A (qi<|.ref I) Q E s:=by
 refine vf it.typeIs PySem.F.BD<|gi PySem.F.BD it.typeIs PySem.F.Kc ?_<|PySem.F.Mb _;exact au #[_,rfl,"set_iterator",_,it.typeIs,PySem.F.ku.lookup,h]
end
section
variable{prog:br}{w:bE}{κ:Type} [dz κ] {knd:KeyKind prog w κ}{A:b7}{E:Z->aj->Prop}{s:aj}
variable{S I:Addr}{xs ys:L (L κ×Addr)}{o:Obj}{es:Array (Int×Z)}{ep:Nat}{t:cM}
def iW.at'{h h':Heap}(I0:iW knd h S xs o es ep t)(e:h'.get? S=M o)(k:∀b o,h.get? b=M o->o.cls=.type "tuple"->h'.get? b=M o):iW knd h' S xs o es ep t:=
 #[e,I0.ex,I0.d,I0.e,λx hx=>let⟨o',its,n,e',c,r⟩:=I0.k x hx;#[o',its,n,k _ _ e' c,c,r],I0.w,I0.b]
abbrev ZV(as:L Addr)(i:Nat)(v:Z):Prop:=∃a,as[i]?=M a/\v=.ref a
def TU(h0:Heap)(I0:iW knd h0 S xs o es ep t){U:Nat->Nat}{as:L Addr}(hn:TQ prog w S o ep as U)(hl:zl as=es.size)(hne:I≠S)(hh:A.handled=B)(hI:∀x∈xs,x.2≠I):Ld prog w A I (I::S::xs.map (·.2)) [I] (zl as) (ZV as) λi h=>iW knd h S xs o es ep t/\FG h I S (.int (U i:Int) 0) i es.size ep where
 sub:=λb hb=>by rw[aL.mp hb];exact aD
 frame:=λi h h' ⟨q1,oI,e,r⟩ k=>#[#[k S (by simp) _ q1.ho,q1.ex,q1.d,q1.e,λx hx=>let⟨o',its,n,e',r⟩:=q1.k x hx;#[o',its,n,k _ (by simp;exact .inr<|.inr #[_,hx]) _ e',r],q1.w,q1.b],oI,k I (by simp) _ e,r]
 item:=λi s Q E hi ⟨q1,it⟩ hQ=>Me q1 hn hl (dG hi) it hne hh (λa h' ha it' k=>hQ _ h' s.toks #[a,ha,rfl] #[#[k S _ hne.symm q1.ho,q1.ex,q1.d,q1.e,λx hx=>let⟨o',its,n,e',r⟩:=q1.k x hx;#[o',its,n,k _ _ (hI x hx) e',r],q1.w,q1.b],it'] λb o hb e=>k b o (λz=>hb (by rw[z];exact aL.mpr rfl)) e)
  (λhx=>aC (oh.mp hx)<|Sf.mpr hi)
 done:=λs Q E ⟨q1,it⟩ hQ=>Me q1 hn hl (aM _) it hne hh (λa h' ha=>aC (bL.mp ha).1<|dm _) λ_ h' k=>hQ h' s.toks λb o hb e=>k b o (λz=>hb (by rw[z];exact aL.mpr rfl)) e
 self:=λi s Q E ⟨_,it⟩ h=>Jb it h
def TV{T:Addr}{ps:L Nat}{as:L Addr}(hps:∀i:Nat,as[i]?=(ps[i]?).bind λp=>(xs[p]?).map NG)(hlp:∀p∈ps,p<zl xs)(hne:I≠S)(hTI:T≠I)(hh:A.handled=B)(hI:∀x∈xs,x.2≠I):Ld prog w A I (I::S::T::xs.map (·.2)) [I] (zl as) (ZV as) λi h=>iW knd h S xs o es ep t/\Tup h T ps/\FG h I S (.ref T) i es.size ep where
 sub:=λb hb=>by rw[aL.mp hb];exact aD
 frame:=λi h h' ⟨q1,⟨oT,c,eT,dT⟩,oI,e,r⟩ k=>#[#[k S (by simp) _ q1.ho,q1.ex,q1.d,q1.e,λx hx=>let⟨o',its,n,e',r⟩:=q1.k x hx;#[o',its,n,k _ (by simp;exact .inr<|.inr<|.inr #[_,hx]) _ e',r],q1.w,q1.b],#[oT,c,k T (by simp) _ eT,dT],oI,k I (by simp) _ e,r]
 item:=λi s Q E hi ⟨q1,⟨oT,c,eT,dT⟩,it⟩ hQ=>Mf q1 #[oT,c,eT,dT] hps hlp it hh (λa h' ha it' k=>hQ _ h' s.toks #[a,ha,rfl] #[#[k S _ hne.symm q1.ho,q1.ex,q1.d,q1.e,λx hx=>let⟨o',its,n,e',r⟩:=q1.k x hx;#[o',its,n,k _ _ (hI x hx) e',r],q1.w,q1.b],#[oT,c,k T _ hTI eT,dT],it'] λb o hb e=>k b o (λz=>hb (by rw[z];exact aL.mpr rfl)) e)
  (λhx=>aC (oh.mp hx)<|Sf.mpr hi)
 done:=λs Q E ⟨q1,hT,it⟩ hQ=>Mf q1 hT hps hlp it hh (λa h' ha=>aC (bL.mp ha).1<|dm _) λ_ h' k=>hQ h' s.toks λb o hb e=>k b o (λz=>hb (by rw[z];exact aL.mpr rfl)) e
 self:=λi s Q E ⟨_,_,it⟩ h=>Jb it h
def iW.typeIs(I0:iW knd s.heap S xs o es ep t):s.TypeIs (.ref S) "set":=#[o,I0.ho,I0.ex.1]
def TX(I0:iW knd s.heap S xs o es ep t)(hl:t.led=!(w.params.followText "set-order")){Q:Z->aj->Prop}(h:∀(I:Addr) (h':Heap) d (ys:L<|L κ×Addr) (fp:L Addr) (St:Nat->Heap->Prop),s.heap.objs.size<=I->(∀b o,s.heap.get? b=M o->h'.get? b=M o)->ys.Perm xs->(∀aaf:b7,aaf.handled=B->Ld prog w aaf I fp [I] (zl (ys.map (·.2))) (ZV (ys.map (·.2))) St)->St 0 h'->(∀b∈fp,b∈S::xs.map (·.2)\/s.heap.objs.size<=b)->
   Q (.ref I) { s with heap:=h',drawn:=d }):aG (aJ prog w) A (qi<|.ref S) Q E s:=by
 have hS:=aF I0.ho;have hX:=λx hx=>let⟨_,_,_,e,_⟩:=I0.k x hx;aF e
 have hsz:=I0.sz;refine vf I0.typeIs zL<|gi zL I0.typeIs PySem.F.entry_set_iter' ?_<|NS _;refine ah<|au ?_;refine ah ?_;refine ah<|sR I0.ho I0.d I0.fits<|au ?_;refine ah ?_;refine ah<|fZ I0.ho I0.d I0.fits ?_;dsimp only;refine ah<|ah<|kU<|au ?_;refine au ?_;dsimp only;have old:∀{h1:Heap},(∀b o,s.heap.get? b=M o->h1.get? b=M o)->iW knd h1 S xs o es ep t:=λk=>I0.at' (k _ _ I0.ho) λb o e _=>k b o e;have int:∀(U:Nat->Nat) (ys:L<|L κ×Addr),ys.Perm xs->TQ prog w S o ep (ys.map (·.2)) U->U 0=0->aG (aJ prog w) A.in1 (do
   let first<-pure (bT 0)
   let a <-setEpoch S
   let r <-newFields "set_iterator" [first,bT 0,.ref S,bT es.size,bT a]
   ret r) (λfin s'=>∃v,fin=Fin.done (Flow.ret v)/\∃T' r,s'.TypeIs v T'/\vz (Value.type T') (o5 "__next__")=pure (M r)/\Q v s') E s:=by
  intro U ys hp hn h0;have hlen:zl (ys.map (·.2))=es.size:=by rw[ai,hp.length_eq,hsz]
  refine ah (au (ah (DH I0.ho I0.d I0.fits (ah (dZ (au ?_)<|by size_fits)))));have eI:(s.heap.push ({ cls:=.type "set_iterator",dict:=B,data:=.fields (mQ [bT 0,bT 0,.ref S,bT (es.size:Int),bT (ep:Int)]) }:Obj)).get? s.heap.objs.size=M ({ cls:=.type "set_iterator",dict:=B,data:=.fields (mQ [bT 0,bT 0,.ref S,bT (es.size:Int),bT (ep:Int)]) }:Obj):=aU _ rfl;have keep:∀b o,s.heap.get? b=M o->(s.heap.push ({ cls:=.type "set_iterator",dict:=B,data:=.fields (mQ [bT 0,bT 0,.ref S,bT (es.size:Int),bT (ep:Int)]) }:Obj)).get? b=M o:=λb o e=>aq _ e;refine#[_,rfl,"set_iterator",_,#[_,eI,rfl],PySem.F.ku.lookup,h s.heap.objs.size _ s.drawn ys _ _ (aM _) keep hp (λaaf hB=>TU _ (old keep) hn hlen (gq hS) hB λx hx=>aZ<|hX x hx) #[old keep,_,eI,rfl,?_] λb hb=>?_]
  .rw[h0];rfl
  .rcases aY.mp hb with rfl|hb
   .exact .inr (aM _)
   .exact .inl hb
 split
 .rename_i z;refine ah (AR es.size (bg es.size) (by simp) λps d hp=>?_);have hpl:zl ps=es.size:=by rw[hp.length_eq,gO]
  have hps:∀p∈ps,p<zl xs:=λp hm=>by have:=fO.mp<|hp.mem_iff.mp hm;omega
  have hb4:es.size<=100:=by rcases I0.b with⟨_,q⟩|⟨_,q⟩<;>omega
  refine ah (Ii ?_ (by rw[ai,hpl,cB];omega));have eT:(s.heap.push ({ cls:=.type "tuple",data:=.seq (ps.map λi:Nat=>bT (i:Int)).toArray }:Obj)).get? s.heap.objs.size=M ({ cls:=.type "tuple",data:=.seq (ps.map λi:Nat=>bT (i:Int)).toArray }:Obj):=aU _ rfl;have k1:∀b o,s.heap.get? b=M o->(s.heap.push ({ cls:=.type "tuple",data:=.seq (ps.map λi:Nat=>bT (i:Int)).toArray }:Obj)).get? b=M o:=λb o e=>aq _ e;have hsz1:(s.heap.push ({ cls:=.type "tuple",data:=.seq (ps.map λi:Nat=>bT (i:Int)).toArray }:Obj)).objs.size=s.heap.objs.size+1:=iC _ _;generalize hh1:s.heap.push ({ cls:=.type "tuple",data:=.seq (ps.map λi:Nat=>bT (i:Int)).toArray }:Obj)=h1 at eT k1 hsz1 ⊢;refine ah (DH (k1 _ _ I0.ho) I0.d I0.fits (ah (dZ (au ?_)<|by size_fits)));have eI:(h1.push ({ cls:=.type "set_iterator",dict:=B,data:=.fields (mQ [.ref s.heap.objs.size,bT 0,.ref S,bT (es.size:Int),bT (ep:Int)]) }:Obj)).get? h1.objs.size=M ({ cls:=.type "set_iterator",dict:=B,data:=.fields (mQ [.ref s.heap.objs.size,bT 0,.ref S,bT (es.size:Int),bT (ep:Int)]) }:Obj):=aU _ rfl;have k2:∀b o,h1.get? b=M o->(h1.push ({ cls:=.type "set_iterator",dict:=B,data:=.fields (mQ [.ref s.heap.objs.size,bT 0,.ref S,bT (es.size:Int),bT (ep:Int)]) }:Obj)).get? b=M o:=λb o e=>aq _ e;have hsome:∀k∈ps,(xs[k]?).isSome=W:=λk hk=>by rw[aB<|hps k hk];rfl
  have hyp:(ps.filterMap λk=>xs[k]?).Perm xs:=by
   have:=hp.filterMap λk=>xs[k]?;rwa[hsz,List.filterMap_getElem?_range_length]at this
  have hat:∀i:Nat,((ps.filterMap λk=>xs[k]?).map (·.2))[i]?=(ps[i]?).bind λp=>(xs[p]?).map NG:=λi=>by
   rw[bz,TL _ _ hsome];cases ps[i]?<;>rfl
  have k3:=λb o e=>k2 b o<|k1 b o e;have ZW:s.heap.objs.size<h1.objs.size:=by rw[hsz1];exact ir _
  have q1:h1.objs.size≠S:=gq<|gx hS ZW;have q2:s.heap.objs.size≠h1.objs.size:=aZ ZW;have q3:∀x∈xs,x.2≠h1.objs.size:=λx hx=>aZ<|gx (hX x hx) ZW;refine#[_,rfl,"set_iterator",_,#[_,eI,rfl],PySem.F.ku.lookup,h h1.objs.size _ d _ _ _ (by rw[hsz1];exact jN _) k3 hyp (λaaf hB=>TV hat hps q1 q2 hB q3) #[old k3,#[_,_,k2 _ _ eT,rfl],_,eI,rfl,rfl] λb hb=>?_];simp only[aY]at hb ⊢;rcases hb with rfl|rfl|rfl|hb
  .exact .inr (by rw[hsz1];exact jN _)
  .exact .inl (.inl rfl)
  .exact .inr (aM _)
  .exact .inl (.inr hb)
 .rename_i z;cases hb:w.params.followText "set-order" with
  |true=>
   let#[ys,h1,h2]:=W6 I0 hb;exact int _ ys h1 h2 rfl
  |false=>
   rw[hb]at hl;refine int _ xs (.refl _) (TR I0 hb hl ?_) rfl;have z:¬((!w.params.followText "set-order"&&(!t.plain&&decide (es.size>1)))=W):=z;rw[hb]at z;simpa using z
end
end L3
end
section
namespace PySem
section
variable{prog:br}{w:bE}{A:b7}{E:Z->aj->Prop}{s:aj}{r:Addr}{Q:Bool->aj->Prop}
def W7(hT:s.TypeIs (.ref r) "set")(h:∀b,Q b s):aG (aJ prog w) A (uE<|.ref r) Q E s:=by
 refine ah<|n_ hT Sg.lookup ?_;generalize hid:("set.__len__":String)=id0
 wp_delta
 rw[show Qh id0=M ("set","__len__")from by subst hid;decide +kernel];subst hid;refine ah (qS (b:=W) hT (by rw[zK];kernel_rfl) ?_);refine jY (λhab=>aC hab<|by decide) λ_=>?_;refine jY (λ_=>?_) (λhab=>aC (by decide +kernel) hab);refine ah<|mL hT ?_;exact au<|h _
end
end PySem
namespace L3
open PySem PySem.SetTable L2 PyProof.Rows
section
variable{prog:br}{w:bE}{κ:Type} [dz κ] {knd:KeyKind prog w κ}{A:b7}{E:Z->aj->Prop}{s:aj}
variable{S:Addr}{xs:L (L κ×Addr)}{o:Obj}{es:Array (Int×Z)}{ep:Nat}{t:cM}
def QZ{as:L Addr}{acc:Array Z}(h:pL (ZV as) acc<|zl as):acc.toList=as.map bH:=by
 refine List.ext_getElem? λi=>?_;rw[eK,bz];cases hv:acc[i]? with
 |none=>
  have:=Array.getElem?_eq_none_iff.mp hv;rw[h.1]at this;rw[jZ this];rfl
 |some v=>
  let#[a,e,rfl]:=h.2 i v hv;rw[e];rfl
def Q0{R:Cv->aj->Prop}(hh:A.handled=B)(I0:iW knd s.heap S xs o es ep t)(hl:t.led=!(w.params.followText "set-order"))(aac:Addr)(hLS:aac≠S)(hLx:∀x∈xs,x.2≠aac)(res:Z)(ajM:Nat)(hL:s.heap.get? aac=M { cls:=.type "list",data:=.seq #[] ajM })(hR:∀h' tk d acc c' (ys:L<|L κ×Addr),ys.Perm xs->(∀b o,b≠aac->s.heap.get? b=M o->h'.get? b=M o)->h'.get? aac=M { cls:=.type "list",dict:=B,data:=.seq acc c',slots:=#[] }->acc.toList=(ys.map (·.2)).map bH->R (.ok<|.ret res) { s with heap:=h',toks:=tk,drawn:=d }):aG (aJ prog w) A.in1 (uF (.ref aac) (.ref S) res)
   (λfin s'=>match fin with|.done f=>R (.ok f) s'|.again c'=>c'.quiet=W/\jW (aJ prog w) A c' R s') (λe s'=>R (.error e) s') s:=by
 have hLl:=aF hL;have hb4:zl xs<=100:=by rcases I0.b with⟨_,q⟩|⟨_,q⟩<;>omega
 refine ah<|mL I0.typeIs ?_;have h1:kR (.ref aac) (.ref S)=J:=by simp[kR,hLS]
 have n1:(Value.type "set"==Value.type "list")=J:=by decide
 have n2:(Value.type "set"==Value.type "tuple")=J:=by decide
 simp only[h1,n1,n2,A9,cJ,kQ];refine ah<|TX I0 hl λI h1 d ys fp St hI k1 hp aad st hfp=>?_;have hILne:=aZ<|bQ hLl hI;have hSf:aac∉fp:=λhm=>by
  rcases hfp aac hm with z|z
  .rcases aY.mp z with z|z
   .exact hLS z
   .obtain⟨x,hx,e⟩:=bK.mp z;exact hLx x hx e
  .exact aC hLl (G2.mpr z)
 have hsz:zl (ys.map (·.2))<=ao:=by rw[ai,hp.length_eq,cB];omega
 have key:∀(h2:Heap) (ajE tk:Nat),St 0 h2->(∀b o,b≠aac->s.heap.get? b=M o->h2.get? b=M o)->h2.get? aac=M { cls:=.type "list",data:=.seq #[] ajE }->
   jW (aJ prog w) A (.builtin "list.extend.loop" #[[.ref aac,.ref I,res],[]]) R { s with heap:=h2,toks:=tk,drawn:=d }:=by
  intro h2 ajE tk hst hk ajT;refine AI (aad A.in1 hh).toS hsz aac hSf res _ 0 _ #[] ajE rfl (c7 _) hst ajT (OD _) λs' acc' c' hm hS' hacc=>?_;rw[KI hm];refine hR s'.heap s'.toks d acc' c' ys hp (λb o hb e=>hm.heap b o (λhmem=>?_)<|hk b o hb e) hS'<|QZ hacc;rcases aY.mp hmem with e'|hmem
  .exact hb e'
  .rw[aL.mp hmem]at e;exact aC (aF e)<|G2.mpr hI
 have hL1:=k1 _ _ hL;refine ah<|cW<|W7 #[o,k1 _ _ I0.ho,I0.ex.1] λb=>?_;refine jY (λ_=>?_) λ_=>au #[iw oq _,key _ ajM _ st (λb o _ e=>k1 b o e) hL1];refine ah<|RT ?_;refine ah ?_;refine ah<|xV hL1 rfl ?_;have ajB:=dN (fJ (·.push fH)) hL1 rfl;refine xV ajB rfl ?_;have ajU:=dN (fJ (·.pop)) ajB rfl;refine au #[iw oq _,key _ _ _ ?_ (λb o hb e=>?_) ajU]
 .refine(aad A.in1 hh).frame 0 _ _ st λb hb o e=>?_;have hbS:b≠aac:=λh=>hSf<|h▸hb;exact(bM _ _<|dc hbS).trans ((bM _ _<|dc hbS).trans e)
 .exact(bM _ _<|dc hb).trans ((bM _ _<|dc hb).trans<|k1 b o e)
def N2(hh:A.handled=B)(I0:iW knd s.heap S xs o es ep t)(hl:t.led=!(w.params.followText "set-order")){R:L Z->aj->Prop}(q:∀h' tk d (ys:L<|L κ×Addr),ys.Perm xs->(∀b o,s.heap.get? b=M o->h'.get? b=M o)->s.heap.objs.size<=h'.objs.size->R ((ys.map (·.2)).map bH) { s with heap:=h',toks:=tk,drawn:=d }):aG (aJ prog w) A (vI<|.ref S) R E s:=by
 have hS:=aF I0.ho;have hX:=λx hx=>let⟨_,_,_,e,_⟩:=I0.k x hx;aF e
 have new:(s.heap.push { cls:=.type "list",data:=.seq #[] }).get? s.heap.objs.size=M { cls:=.type "list",data:=.seq #[] }:=aU _ rfl;have keep:∀b o,s.heap.get? b=M o->(s.heap.push { cls:=.type "list",data:=.seq #[] }).get? b=M o:=λb o e=>aq _ e;refine ah<|tO<|fu r9 ?_;rw[dF mU _];refine(ah<|dZ<|au #[iw iF _,fu wQ ?_]);rw[dF iF _];have run:=Q0 (s:={ s with heap:=s.heap.push { cls:=.type "list",data:=.seq #[] } })
  (R:=λz s'=>∃(h':Heap) (tk:Nat) (d:_) (acc:Array Z) (c:Nat) (ys:L<|L κ×Addr),z=.ok (.ret<|.ref s.heap.objs.size)/\s'={ s with heap:=h',toks:=tk,drawn:=d }/\ys.Perm xs/\(∀b o,s.heap.get? b=M o->h'.get? b=M o)/\h'.get? s.heap.objs.size=M { cls:=.type "list",dict:=B,data:=.seq acc c,slots:=#[] }/\acc.toList=(ys.map (·.2)).map bH)
  hh (I0.at' (keep _ _ I0.ho) λb o e _=>keep b o e) hl s.heap.objs.size (gq hS) (λx hx=>aZ<|hX x hx) (.ref s.heap.objs.size) 0 new
  λh' tk d acc c ys hp k e it=>#[h',tk,d,acc,c,ys,rfl,rfl,hp,λb o eb=>k b o (aZ<|aF eb)<|keep b o eb,e,it]
 have fin:∀(h':Heap) (tk:Nat) (d:_) (acc:Array Z) (c:Nat) (ys:L<|L κ×Addr),ys.Perm xs->(∀b o,s.heap.get? b=M o->h'.get? b=M o)->h'.get? s.heap.objs.size=M { cls:=.type "list",dict:=B,data:=.seq acc c,slots:=#[] }->acc.toList=(ys.map (·.2)).map bH->R acc.toList { s with heap:=h',toks:=tk,drawn:=d }:=
  λh' tk d acc c ys hp k e it=>it▸q h' tk d ys hp k (dG<|aF e)
 refine d9 run (λfl s' z=>?_) λ_ _ z=>?_
 .cases fl with
  |done f=>
   let#[h',tk,d,acc,c,ys,ef,rfl,hp,k,e,it]:=z;cases ef;exact ah<|pJ e<|au<|fin h' tk d acc c ys hp k e it
  |again g=>
   refine#[z.1,iR z.2 λr s2 y=>?_];let#[h',tk,d,acc,c,ys,rfl,rfl,hp,k,e,it]:=y;exact ah<|pJ e<|au<|fin h' tk d acc c ys hp k e it
 .obtain⟨_,_,_,_,_,_,ez,_⟩:=z;cases ez
end
end L3
end
section
namespace L3
open PySem PySem.W PySem.Calls PyProof.Rows
section
variable{prog:br}{w:bE}{A:b7}{E:Z->aj->Prop}{s:aj}
noncomputable abbrev z9(led:Bool):Obj:={ cls:=.type "set",dict:=B,data:=.set #[] 0 (.fresh 0 0 led) }
structure aep (prog:br) (w:bE) (u:Nat) (S:Addr) (items:Array Z) (SA:Heap->Nat->Prop):Prop where
 keep:∀i h1 h2,SA h1 i->(∀b o,b<=S->h1.get? b=M o->h2.get? b=M o)->SA h2 i
 step:∀(i:Nat) (v:Z) (aaf:b7) (E:Z->aj->Prop) (s:aj) (Q:Bool->aj->Prop),items[i]?=M v->aaf.units<=u->SA s.heap i->(∀r h' tk,s.toks<=tk->gp S s.heap h'->SA h' (i+1)->Q r { s with heap:=h',toks:=tk })->aG (aJ prog w) aaf (setAdd S v) Q E s
def TY{u:Nat}{S I l:Addr}{items:Array Z}{SA:Heap->Nat->Prop}(F:aep prog w u S items SA)(hh:A.in1.handled=B)(hu:A.in1.units<=u)(hI:S<I)(hl:l<S){R:Cv->aj->Prop}:∀(k i:Nat) (s:aj),items.size-i=k->i<=items.size->s.heap.IsListIter I l i->s.heap.IsList l items->SA s.heap i->(∀h' tk,SA h' items.size->(∀b o,b<S->s.heap.get? b=M o->h'.get? b=M o)->R (.ok<|.ret .none) { s with heap:=h',toks:=tk })->
   jW (aJ prog w) A (.builtin "set.update.loop" #[[.ref S,.ref I],[]]) R s:=by
 have aad:=Se (prog:=prog) (w:=w) (A:=A.in1) hh I l (aZ<|gx hl hI) items;intro k;induction k with
 |zero=>
  intro i s hk hi hit hl' hS hR;obtain rfl:i=items.size:=by omega
  refine fu o6 ?_;rw[dF jT _];refine ah<|aad.done s _ _ #[hit,hl'] λh' tk hm=>?_;have hm':=λb o hb e=>hm b o (by rw[aL];exact aZ<|CZ hb hI) e;exact au<|hR h' tk (F.keep _ _ _ hS hm') λb o hb e=>hm' b o (dG hb) e
 |succ k ih=>
  intro i s hk hi hit hl' hS hR;have hlt:i<items.size:=by omega
  refine fu o6 ?_;rw[dF jT _];refine ah<|aad.item i s _ _ hlt #[hit,hl'] λv h1 tk hv st hm=>?_;have hm':=λb o hb e=>hm b o (by rw[aL];exact aZ<|CZ hb hI) e;refine ah<|cW<|F.step i v A.in1 _ _ _ hv hu (F.keep _ _ _ hS hm') λr h2 tk2 hle hsb hS2=>?_;have e1:=hsb.2 I<|gq hI;have e2:=hsb.2 l<|aZ hl;refine au #[iw jT _,ih (i+1) _ (by omega) hlt ?_ ?_ hS2 λh3 tk3 hS3 hk3=>?_]
  .obtain⟨o,e,r⟩:=st.1;exact#[o,e1.trans e,r]
  .obtain⟨o,e,r⟩:=st.2;exact#[o,e2.trans e,r]
  .exact hR h3 tk3 hS3 λb o hb e=>hk3 b o hb<|(hsb.2 b<|aZ hb).trans<|hm' b o (dG hb) e
noncomputable abbrev vZ(w:bE):Bool:=!(w.params.followText "set-order")
def N3(a:Z){Q₁:Z->aj->Prop}(h:Q₁ (.ref s.heap.objs.size) { s with heap:=s.heap.push (z9<|vZ w) }):jW (aJ prog w) A (.call (.builtin "set.__new__") #[[.type "set",a],[]]) (wants Q₁ E) s:=by
 refine se ?_;show aG _ A.in1 (do E3 "set.__new__" #[[.type "set",a],[]];again (.builtin "set.__new__" #[[.type "set",a],[]])) _ _ s;refine ah<|yF (Qn a)<|au #[iw zM _,fu Qo ?_];rw[dF zM _];unfold mK.«set.__new__» KN;have hsub:=sub_set_self;let#[hp,g,d,tk,os]:=s;dsimp only
 wp_walk
 refine kU<|au ?_;dsimp only;simp only[newObj];refine ah<|OB<|au ?_;exact au h
def Kd{l:Addr}{items:Array Z}{SA:Heap->Nat->Prop}{Q:Z->aj->Prop}(hh:A.handled=B)(hl:s.heap.IsList l items)(F:aep prog w (A.units+20) s.heap.objs.size items SA)(h0:∀h1,h1.get? s.heap.objs.size=M (z9<|vZ w)->(∀b o,s.heap.get? b=M o->h1.get? b=M o)->SA h1 0)(h:∀(h':Heap) (tk:Nat),SA h' items.size->(∀b o,b<s.heap.objs.size->s.heap.get? b=M o->h'.get? b=M o)->Q (.ref s.heap.objs.size) { s with heap:=h',toks:=tk }):aG (aJ prog w) A (call (.type "set") [.ref l]) Q E s:=by
 let#[c,tl,hmro]:=iu.mro;have hmade:=iu.made;have hsub:=iu.sub;refine nc<|se ?_;refine au #[oX _<|by decide +kernel,fu NU ?_];rw[Around.under_plain (weight_type_call_type "set" [.ref l] []) rfl];have h1:=iu.notType;have h2:=iu.canCreate;have hct:=OF<|.ref l
 repeat (any_goals (first|assumption|wp_step))
 refine iR (N3 (.ref l) (E:=E) (Q₁:=λobj aji=>obj=.ref s.heap.objs.size/\aji={ s with heap:=s.heap.push (z9<|vZ w) }) #[rfl,rfl]) λr aji hr=>?_;cases r with
 |error e=>exact hr
 |ok fl=>
  cases fl with
  |ret obj=>
   let#[rfl,rfl]:=hr;have hS:(s.heap.push<|z9<|vZ w).get? s.heap.objs.size=M (z9<|vZ w):=aU _ rfl;have hT:Shared.TypeIs { s with heap:=s.heap.push (z9<|vZ w) } (.ref s.heap.objs.size) "set":=#[_,hS,rfl];have hli:=iu.init.lookup;have hbi:=iu.init.bind<|.ref s.heap.objs.size
   repeat (any_goals (first|assumption|wp_step))
   refine iR (AB (R:=wants (λr ajj=>r=.none/\∃h' tk,ajj={ s with heap:=h',toks:=tk }/\SA h' items.size /\
     (∀b o,b<s.heap.objs.size->s.heap.get? b=M o->h'.get? b=M o)) E) iu.init.plain OG<|check_set_init_1 hT ?_) λajV ajj ajF=>?_
   .obtain⟨ol,hol,hcl,nl,hdl⟩:=hl;let#[ocls,odict,odata,oslots]:=ol;simp only at hcl hdl;subst hcl;subst hdl;have hol':(s.heap.push<|z9<|vZ w).get? l=M { cls:=.type "list",dict:=odict,data:=.seq items nl,slots:=oslots }:=aq _ hol;have hsls:=Sh;have hslf:=KO;have hne:(Value.type "list"==Value.type "dict")=J:=by decide
    have hl1:(s.heap.push<|z9<|vZ w).IsList l items:=#[_,hol',rfl,nl,rfl];unfold mK.«set.__init__» noKeywords Iw;generalize hPI:qi=PI
    wp_walk
    subst hPI;refine pY hl1 ?_;refine ah<|tO ?_;have hlS:l<s.heap.objs.size:=aF hol;have hIS:s.heap.objs.size<(s.heap.push<|z9<|vZ w).objs.size:=by rw[iC];exact ir _
    refine TY F (by simp[hh]) ?hu hIS hlS (items.size-0) 0 _ (by omega) (c7 _) #[_,aU _ rfl,rfl,rfl] (hl1.push _) (h0 _ (aq _ hS) λb o e=>aq _<|aq _ e) ?hR
    case hu=>simp only[Around.in1];omega
    case hR=>
     intro h' tk' hS' hk;show aG _ _ _ _ _ _;refine au ?_;show aG _ _ (ret fH) _ _ _;exact au #[rfl,h',tk',rfl,hS',λb o hb e=>hk b o hb<|aq _<|aq _ e]
   .cases ajV with
    |error e=>exact ajF
    |ok ajW=>
     cases ajW with
     |ret r=>
      let#[rfl,h',tk,rfl,hS',hk']:=ajF
      repeat (any_goals (first|assumption|wp_step))
      exact h _ _ hS' hk'
     |_=>exact ajF
  |_=>exact hr
end
section
variable{prog:br}{w:bE}{κ:Type} [dz κ] {knd:KeyKind prog w κ}{A:b7}{E:Z->aj->Prop}{s:aj}
def SetK(knd:KeyKind prog w κ)(h:Heap)(S:Addr)(kss:L<|L κ)(as:L Addr):Prop:=∃xs o es ep t,iW knd h S xs o es ep t/\zl xs<=18/\t.led=vZ w/\∀x∈xs,∃i:Nat,kss[i]?=M x.1/\as[i]?=M x.2
def Ke{l:Addr}{items:Array Z}{kss:L<|L κ}{as:L Addr}{Q:Z->aj->Prop}(hh:A.handled=B)(hu:A.units+30<fy)(hl:s.heap.IsList l items)(hi:items.toList=as.map bH)(hk:zl kss=zl as)(hn:zl kss<=18)(ht:∀(i:Nat) k a,kss[i]?=M k->as[i]?=M a->gW knd s.heap k a)(h:∀(h':Heap) (tk:Nat),SetK knd h' s.heap.objs.size kss as->(∀b o,b<s.heap.objs.size->s.heap.get? b=M o->h'.get? b=M o)->Q (.ref s.heap.objs.size) { s with heap:=h',toks:=tk }):aG (aJ prog w) A (call (.type "set") [.ref l]) Q E s:=by
 have hlt:=λi k a e1 e2=>let⟨_,_,_,e,_⟩:=ht i k a e1 e2;aF e
 have hsz:items.size=zl kss:=by rw[<-bF,hi,ai,hk]
 refine Kd (SA:=λh' i=>(∃xs o es ep t,iW knd h' s.heap.objs.size xs o es ep t/\zl xs<=i/\t.led=vZ w/\∀x∈xs,∃i:Nat,kss[i]?=M x.1/\as[i]?=M x.2)/\∀(j:Nat) k a,kss[j]?=M k->as[j]?=M a->gW knd h' k a) hh hl #[?_,?_] ?_ ?_
 .rintro i h1 h2 ⟨⟨xs,o,es,ep,t,I,p,le,lx⟩,hT⟩ k;refine#[#[xs,o,es,ep,t,#[k _ _ (aM _) I.ho,I.ex,I.d,I.e,λx hx=>?_,I.w,I.b],p,le,lx],λj kk a e1 e2=>?_]
  .obtain⟨o',its,n,e,r⟩:=I.k x hx;let#[i,e1,e2]:=lx x hx;exact#[o',its,n,k _ _ (dG<|hlt i _ _ e1 e2) e,r]
  .obtain⟨o',its,n,e,r⟩:=hT j kk a e1 e2;exact#[o',its,n,k _ _ (dG<|hlt j kk a e1 e2) e,r]
 .rintro i v aaf E s1 Q1 hv hB ⟨⟨xs,o,es,ep,t,I,p,le,lx⟩,hT⟩ q;have hv:items.toList[i]?=M v:=by rw[eK];exact hv
  rw[hi,bz]at hv;let#[a,ha,rfl]:=fj.mp hv;have hil:i<zl kss:=by rw[hk];exact(bL.mp ha).1
  have hkk:=aB hil;generalize kss[i]=kk at hkk;have hkey:=hT i kk a hkk ha;refine cW (ah (wpAny_pyHash_tuple (by omega) hkey ?_));refine abw (A:=aaf) (s:={ s1 with toks:=s1.toks+(zl kk+1) }) (by omega) I hkey (by omega) λr h' xs' o' es' ep' t' hs I' p' le'=>q r h' _ (Nat.le_add_right s1.toks _) hs #[#[xs',o',es',ep',t',I',?_,le'.trans le,λx hx=>?_],λj k2 a2 e1 e2=>vY (hT j k2 a2 e1 e2) I.ho I.ex hs]
  .rcases p' with p'|p'<;>have:=p'.length_eq
   .omega
   .rw[aW]at this;show _<=i+1;rw[this];exact EX p
  .rcases p' with p'|p'
   .exact lx x (p'.mem_iff.mp hx)
   .rcases bC.mp (p'.mem_iff.mp hx)with hx|hx
    .exact lx x hx
    .rw[aL.mp hx];exact#[i,hkk,ha]
 .intro h1 e k;refine#[#[[],_,#[],0,_,#[e,#[rfl,rfl,rfl],rfl,rfl,λx hx=>(nomatch hx),?_,.inl #[rfl,c7 _]],c7 _,rfl,λx hx=>nomatch hx],λj k2 a e1 e2=>?_]
  .exact#[.inl rfl,rfl,λa b _ h=>aC h<|gU _,rfl,c7 _]
  .obtain⟨o',its,n,e,r⟩:=ht j k2 a e1 e2;exact#[o',its,n,k _ _ e,r]
 .rintro h' tk ⟨⟨xs,o,es,ep,t,I,p,le,lx⟩,hT⟩ keep;exact h h' tk #[xs,o,es,ep,t,I,by omega,le,lx] keep
end
end L3
end
section
namespace L2
open PySem PySem.Spec PySem.W PyProof.Rows
section
variable{X:Cx}{prog:br}{w:bE}{A:b7}{E:Z->aj->Prop}{s:aj}
def N4{ι:Type}{l:Addr}{lt:ι->Nat->Nat->Bool}{G:ι->L Z->Heap->Prop}{Q:Z->aj->Prop}(hC:∀i vs h1 h',G i vs h1->(∀b o,h1.get? b=M o->h'.get? b=M o)->2<=zl vs->S1 prog w A.in1.in1 vs (lt i) h')(h64:∀i vs h1,G i vs h1->zl vs<64)(hc:aG (aJ prog w) A.in1 (vI<|.ref l) (λvs s1=>∃i h1 tk d,s1={ s with heap:=h1,toks:=tk,drawn:=d }/\G i vs h1) (λ_ _=>bu) s)(h:∀i vs h1 h' a c tk d,G i vs h1->(∀b o,h1.get? b=M o->h'.get? b=M o)->h1.objs.size<=a->h'.get? a=M (iE "list" (lY vs<|lt i).toArray c)->Q (.ref a) { s with heap:=h',toks:=tk,drawn:=d }):aG (aJ prog w) A (call (.builtin "sorted") [.ref l]) Q E s:=by
 refine n6 Ec CK CL (CM _) ?_;refine ah<|au ?_;refine ah<|d9 hc (λvs s1 ⟨i,g1,tk,d,e1,hG⟩=>?_) λ_ _ x=>x.elim;subst e1;have h64:=h64 i vs g1 hG;dsimp only;refine ah (uY ?_ (by rw[cB];omega));have hoL:(g1.push<|iE "list" vs.toArray 0).get? g1.objs.size=M (iE "list" vs.toArray 0):=aU _ rfl;have keep:∀b o,g1.get? b=M o->(g1.push<|iE "list" vs.toArray 0).get? b=M o:=λb o e=>aq _ e;refine ah<|cW<|gi zy #[_,hoL,rfl] xP ?body<|zz _
 case body=>
  refine vR hoL (λh' k'=>hC i vs g1 h' hG λb o e=>k' b o (aZ<|aF e)<|keep b o e) h64 λh' c k' e'=>?_;exact#[_,rfl,au #[_,rfl,h i vs g1 h' _ c tk d hG (λb o e=>k' b o (aZ<|aF e)<|keep b o e) (aM _) e']]
def Inv.drew{pins:L<|Addr×Obj}{U:St}{H:Hp}{d:_}(I:Inv X pins U H s):Inv X pins U H { s with drawn:=d }:=by
 cases I;constructor<;>assumption
end
end L2
namespace L3
open PySem PySem.Spec PySem.W PyProof.Rows L2
section
variable{X:Cx}
theorem BF:∀{ts:L Addr}{us:L Z},bO (ts.map V.a) us->us=ts.map bH
|[],_,.nil=>rfl
|t::ts,_,.cons r q=>by cases r;rw[BF q];rfl
theorem tups_of':∀{H:Hp} (ys:L<|L Key×Addr),(∀y∈ys,H y.2=M (.b<|y.1.map kV))->jF H (ys.map (·.1)) (ys.map (·.2))
|_,[],_=>.nil
|_,y::ys,h=>.cons (h y aD)<|tups_of' ys λz hz=>h z<|az _ hz
theorem Mg{H:Hp}{kss:L<|L Key}{ts:L Addr}(p:jF H kss ts):∀(i:Nat) k a,kss[i]?=M k->ts[i]?=M a->H a=M (.b<|k.map kV):=by
 unfold jF at p;induction p with
 |nil=>intro i k a h;simp at h
 |cons e _ ih=>
  intro i k a h1 h2;cases i with
  |zero=>cases h1;cases h2;exact e
  |succ i=>exact ih i k a h1 h2
def aeq{e:Expr}{te:TE}{p1 p2 p3 pos:Pos}(hu:X.A.units+60<fy)(hc:X.calm=W)(hg1:Gl X "sorted")(hm1:X.mg "sorted"=B)(hg2:Gl X "set")(hm2:X.mg "set"=B)(he:PE X e te)(hs:noStar e=W):PE X (.Call (.Name "sorted" p1) [.Call (.Name "set" p2) [e] [] p3] [] pos) (λU H Q=>te U H λx H1=>WH x H1 Q):=by
 intro pins s U H Q I h;refine cC (iZ I hg1 hm1 (u:=.builtin "sorted") (by decide +kernel) ?_);refine eL ?_ rfl rfl;refine cj (cC (iZ I hg2 hm2 (u:=.type "set") (by decide +kernel) ?_ (by decide)<|by decide));refine ck ?_ (dH hs) rfl;rw[dH hs];refine cj<|bG (he pins s U H _ I h) λu s1 ⟨x,H1,I1,r1,b,ts,kss,ex,hx,ht,hk,hn,q⟩=>?_;refine c6 ?_;subst ex;cases r1;let#[its,r,p,_]:=I1.list<|Rd.sX hx;let#[k1,k2,k3]:=x_ hk;have hkl:=Paired.length ht;refine Ke (knd:=fM X.prog X.w) (kss:=kss) (as:=ts) (I1.ok.hd hc) (by omega) (PlainL.is p) (by rw[BF r]) hkl hn (λi k a e1 e2=>vN I1.hok<|Mg ht i k a e1 e2) λh' tk hS keep=>?_;refine c6 ?_;let#[xs,o,es,ep,t,hS,hlen,hl,hx']:=hS;have kp:=λb u e=>keep b u (aF e) e;have I2:=I1.kept (t':=tk) kp;have hS1:=dG<|aF hS.ho;have hy:∀ys:L<|L Key×Addr,ys.Perm xs->jF H1 (ys.map (·.1)) (ys.map (·.2)):=λys py=>tups_of' ys λy hy=>by
  let#[i,e1,e2]:=hx' y<|py.mem_iff.mp hy;exact Mg ht i _ _ e1 e2
 have hin:∀ys:L<|L Key×Addr,ys.Perm xs->∀k∈ys.map (·.1),k∈kss:=λys py k hk'=>by
  let#[y,hy',rfl]:=bK.mp hk';let#[i,e1,_]:=hx' y<|py.mem_iff.mp hy';exact g_.mpr #[i,e1]
 have hok:∀h2,(∀b o,h'.get? b=M o->h2.get? b=M o)->∀ys:L<|L Key×Addr,ys.Perm xs->Paired (qL h2) ((ys.map (·.2)).map bH) (ys.map (·.1)):=λh2 k ys py=>LK (I2.hok.kept k)<|hy ys py;refine N4 (s:={ s1 with heap:=h',toks:=tk }) (lt:=λys=>LJ (ys.map (·.1))) (G:=λ(ys:L<|L Key×Addr) us h1=>ys.Perm xs/\us=(ys.map (·.2)).map bH/\(∀b o,h'.get? b=M o->h1.get? b=M o)/\h'.objs.size<=h1.objs.size) ?_ ?_ ?_ ?_
 .rintro ys us h1 h2 ⟨py,rfl,k4,_⟩ k5 h2';exact Em (hok h2 (λb o e=>k5 b o<|k4 b o e) ys py) (λk hk'=>k2 k<|hin ys py k hk') (λk hk' k' hk''=>k3 k (hin ys py k hk') k'<|hin ys py k' hk'') h2'
 .rintro ys us h1 ⟨py,rfl,_⟩;rw[ai,ai,py.length_eq];omega
 .refine N2 (s:={ s1 with heap:=h',toks:=tk }) (show X.A.in1.handled=B from I2.ok.hd hc) hS hl λh1 tk' d ys py k4 le=>?_;exact#[ys,h1,tk',d,rfl,py,rfl,k4,le]
 .rintro ys us h1 h2 a c tk' d ⟨py,rfl,k4,le⟩ k5 ha e;have k6:∀b o,h'.get? b=M o->h2.get? b=M o:=λb o e=>k5 b o<|k4 b o e;have hle:h'.objs.size<=a:=fB le ha;have hl':zl (ys.map (·.2))=zl (ys.map (·.1)):=by rw[ai,ai]
  have eo:lY ((ys.map (·.2)).map bH) (LJ (ys.map (·.1)))=(iQ (ys.map (·.1))).map λi=>((ys.map (·.2)).map bH).getD i fH:=by
   unfold lY iQ;rw[ai,hl']
  have lt:∀i∈iQ (ys.map (·.1)),i<zl (ys.map (·.2)):=λi hi=>by rw[hl'];exact yR _ _ i hi
  have I3:L2.Inv X pins U _ { s1 with heap:=h2,toks:=tk',drawn:=d }:=(I2.laid (a:=a) (o:=.a ((iQ (ys.map (·.1))).map λi=>.a ((ys.map (·.2)).getD i 0))) (t':=tk') k6 hle #[by
    rw[ai];unfold iQ;rw[vD,ai,py.length_eq,cB];omega,_,c,L2.oA _ _ lt,by rw[<-eo];exact e]).drew
  exact#[.a a,_,I3,rfl,q a _<|I2.hok.fresh hle]
end
end L3
end
section
namespace L3
open PySem PySem.Spec PyProof.Rows L2
def band(h:(a&&b)=W):a=W/\b=W:=by simpa using h
def qx(h:(x1&&x2&&x3)=W):(x1=W/\x2=W)/\x3=W:=#[band (band h).1,(band h).2]
def tR(h:(x1&&x2&&x3&&x4)=W):((x1=W/\x2=W)/\x3=W)/\x4=W:=#[qx (band h).1,(band h).2]
def Df(h:(x1&&x2&&x3&&x4&&x5)=W):(((x1=W/\x2=W)/\x3=W)/\x4=W)/\x5=W:=#[tR (band h).1,(band h).2]
def xC(h:(x1&&x2&&x3&&x4&&x5&&x6)=W):((((x1=W/\x2=W)/\x3=W)/\x4=W)/\x5=W)/\x6=W:=#[Df (band h).1,(band h).2]
def KZ(h:(x1&&x2&&x3&&x4&&x5&&x6&&x7)=W):(((((x1=W/\x2=W)/\x3=W)/\x4=W)/\x5=W)/\x6=W)/\x7=W:=#[xC (band h).1,(band h).2]
def agi(h:(x1&&x2&&x3&&x4&&x5&&x6&&x7&&x8)=W):((((((x1=W/\x2=W)/\x3=W)/\x4=W)/\x5=W)/\x6=W)/\x7=W)/\x8=W:=#[KZ (band h).1,(band h).2]
def Q2(h:(x1&&x2&&x3&&x4&&x5&&x6&&x7&&x8&&x9)=W):(((((((x1=W/\x2=W)/\x3=W)/\x4=W)/\x5=W)/\x6=W)/\x7=W)/\x8=W)/\x9=W:=#[agi (band h).1,(band h).2]
def yf(h:(!a)=W):a=J:=by simpa using h
def no{P:Prop}(h:J=W):P:=aC h aN
section
variable{X:Cx}{T:Tab}{Y:L G}{E:XK}
def Ok.jc(ok:Ok X T Y E)(h:pQ T.sc x=W):Gl X x:=by
 have h:=ay h;rw[<-ok.sc]at h;exact h
def Ok.jU(ok:Ok X T Y E)(h:T.bn.contains x=W):X.mg x=B:=ok.bn x<|by simpa using h
def Ok.Mh(ok:Ok X T Y E){x:Str}{i:Nat}(h:decide (T.N[i]?=M x)=W):X.N[i]?=M x:=by rw[ok.N];exact ay h
def Ok.FH(ok:Ok X T Y E)(h:vE T.sc T.N scope nl fr=W):yU X.env.scope X.N scope nl fr:=by rw[ok.sc,ok.N];exact Tu h
def aer{v:V}(h:ad6 v c=W):PE X (.Constant c j pos) (λ_ H Q=>Q v H):=by
 cases v<;>cases c<;>first|exact no h|skip
 .exact ac2
 .have e:=ay h;subst e;exact afN
 .have e:=ay h;subst e;exact ac1
 .have e:=ay h;subst e;exact ac3
def abx(hN:X.N[i]?=M x)(hv:Lo X.env.scope x)(h1:(x==("__debug__":Str))=J)(h2:(x==("__classdict__":Str))=J):PE X (.Name x p) (λU H Q=>Fo U i λv=>Q v H):=by
 intro pins s U H Q I h;exact Sx hN hv h1 h2 pins s U H Q I h
set_option tactic.hygienic true
def agj{p pos:Pos}{g:Nat}{es:L Expr}{t:TA}(ok:Ok X T Y E)(hx:T.gl[g]?=M x)(hg:Gl X x)(hd:(x==("__debug__":Str))=J)(ha:PA X es t)(hn:es=[]->t=λ_ H Q=>Q [] H)(hs:cY es=W):PE X (.Call (.Name x p) es [] pos) (λU H Q=>match Y[g]? with
   |some (.a sp dvs)=>t U H λvs H1=>sp (vs++dvs) H1 Q E
   |_=>bu):=by
 intro pins s U H Q I h;split at h
 .rename_i sp dvs e;rcases ok.gl g x _ hx e with⟨k,f,fd,ps,ds,q1,q2,q3,q4,q5,q6,q7⟩|⟨eE,_,e0,e',k,f,fd,ps,q1,q2,q3,q4,q5,q6⟩
  rotate_left 1
  .subst e0 eE;cases es with
   |nil=>
    have e:=hn rfl;subst e;refine aC ?_ q6.2;have h:sp ([]++[]) H Q E0:=h;exact h_ (q2.len _ _ _ h).symm
   |cons e er=>
    have hs':noStar e=W/\cY er=W:=aS.mp hs;refine cC<|qW I hg q4 ?_ hd;refine uC (h₀:=X.base) I.ok.mod.kin q5 (bG (ha pos pins s U H _ I h) λus s1 ⟨vs,H1,I1,r,q⟩=>#[I1.p_,?_]) (dH hs'.1)<|pe hs'.2;exact abl q2 q3 q6.1 q1 I1 r (by have q:sp (vs++[]) H1 Q E0:=q;rwa[dS]at q)
  .cases es with
   |nil=>
    have e:=hn rfl;subst e;exact Wp q1 q2 hg q3 q4 q5 q6 q7 hd pins s U H Q I h
   |cons e er=>
    have hs':noStar e=W/\cY er=W:=aS.mp hs;exact aaV q1 q2 hg q3 q4 q5 q6 q7 ha hd (dH hs'.1) (pe hs'.2) pins s U H Q I h
 .exact h.elim
def aby{x:Str}(ok:Ok X T Y E)(hi:X.N[i]?=M x)(hl:ad5 T x=W):PG X (.Name x p) (λv U H Q=>Q (U.set i<|M v) H):=by
 have hsc:=ok.sc;rcases iP.mp hl with e|e
 .have e:=ay e;rw[<-hsc]at e;exact OH ok.nd hi (.inl e)<|.inr e
 .have e':=ay (aS.mp e).1;rw[<-hsc]at e';exact OH ok.nd hi (.inr e')<|.inl<|ok.own x (aS.mp e).2
def pg_tup'{gs:vU}{k:Nat}{pos:Pos}{t:Lp}(hc:X.calm=W\/Fw X)(h:Fb X es t)(hn:zl es=gs.len)(hs:cY es=W):PG X (.Tuple es k pos) (λv U H Q=>match v with
  |.a a=>WB X.K H a λt' xs=>t'=W/\zl xs=gs.len/\t xs U H Q
  |_=>bu):=by
 intro pins s U H v u Q I r hw;cases v with
 |a a=>
  let#[t',xs,hx,ht,hl,hw]:=hw;subst ht;rcases hx.sq with⟨hf,_⟩|⟨_,z⟩
  .cases hf
  .rcases hc with hc|hc
   .exact ac9 hc h (z8 hs).1 (z8 hs).2 pins s U H _ u Q I r #[a,xs,rfl,z,by lia,hw]
   .exact hc.elim
 |_=>cases hw
def pg_sub'{o i:Expr}(hu:X.A.units+60<fy)(hp:zZ i=W)(ho:PE X o to)(hi:PE X i ti):PG X (.Subscript o i pos) (λv U H Q=>to U H λx H1=>ti U H1 λy H2=>WE x y v H2<|Q U):=by
 have hS:Wi X (λx y v H2 Q=>WE x y v H2 Q):=by
  intro pins s U H o i v ov iv u Q I ro ri rv h;rcases h with⟨a,xs,k,j,rfl,hx,rfl,hj,q⟩|⟨a,kvs,k,rfl,hk,rfl,hl,q⟩|⟨a,kvs,k,b,rfl,hk,rfl,hb,hl,q⟩
  .exact set_list pins s U H _ _ v ov iv u Q I ro ri rv #[_,_,_,j,rfl,rfl,hx,hj,q]
  .cases(show ov=bH a from ro);exact IK (by omega) I (.inl #[kvs,k,hk,rfl,hl,rfl]) ri rv λs' I'=>#[_,I',q]
  .cases(show ov=bH a from ro);exact IK (by omega) I (.inr #[kvs,k,b,hk,rfl,hb,hl,rfl]) ri rv λs' I'=>#[_,I',q]
 intro pins s U H v u Q I r h;exact ac_ ho hi hS (λ_=>by cases i<;>first|rfl|exact no hp) pins s U H v u Q I r h
set_option tactic.hygienic false
def iX:PT X e (λ_ _ _=>bu):=λ_ _ _ _ _ _ h=>h.elim
def aes(hc:PT X c tc)(ha:PT X a ta)(hb:PT X b tb):PT X (.IfExp c a b pos) (λU H Q=>tc U H λk H1=>if k=W then ta U H1 Q else tb U H1 Q):=by
 intro pins s U H Q I h;refine isTrue_IfExp<|bG (hc pins s U H _ I h) λd s1 ⟨H1,I1,q1⟩=>?_;cases d with
 |true=>exact ha pins s1 U H1 Q I1 q1
 |false=>exact hb pins s1 U H1 Q I1 q1
theorem Pa{K:ak}{Q:Bool->Hp->Prop}:wT K Y E (.c g as) U H Q=wE K Y E (.c g as) U H (λx H2=>mW K x H2 λb=>Q b H2):=by
 rfl
def abz(ok:Ok X T Y E)(h:PE X e<|wE X.K Y E<|.c g as)(he:∀whole,wH e X.env whole=(do let v <-whole;zq e.pos;tL [v] (CA v))):PT X e (wT X.K Y E<|.c g as):=by
 have z:=pt_val' h he;intro pins s U H Q I q;rw[Pa]at q;exact z pins s U H Q I q
def po_some'(h:PE X e te):PO X (M e) (λU H Q=>te U H λx H1=>match x with
  |.b i=>Q (M i) H1
  |_=>bu):=by
 intro pins s U H Q I q;rw[evalPart_some];refine bG (h pins s U H _ I q) λv s1 ⟨x,H1,I1,r1,q1⟩=>?_;cases x with
 |b i=>
  let#[t,rfl]:=r1;exact#[M i,H1,I1,.int i t,q1]
 |_=>lia
def pgs_nil':Fb X [] (λvs U H Q=>match vs with
  |[]=>Q U H
  |_=>bu):=by
 intro pins s U H vs us Q I r h;cases vs with
 |nil=>exact aaR pins s U H [] us Q I r #[rfl,h]
 |cons v vr=>lia
def pgs_cons'(h1:PG X e t)(h2:Fb X es u)(hs:noStar e=W):Fb X (e::es) (λvs U H Q=>match vs with
  |v::vr=>t v U H fun σ' H'=>u vr σ' H' Q
  |_=>bu):=by
 intro pins s U H vs us Q I r h;cases vs with
 |nil=>lia
 |cons v vr=>exact Wj h1 h2 (by rw[nG hs];rfl) pins s U H (v::vr) us Q I r #[v,vr,rfl,h]
theorem ZX:∀(gs:vU) (es:L Expr),KY T gs es=W->zl es=gs.len
|.nil,es,h=>by
 cases es with
 |nil=>rfl
 |cons e er=>exact no h
|.cons g r,es,h=>by
 cases es with
 |nil=>exact no h
 |cons e er=>
  let#[_,h2]:=band h;show zl er+1=r.len+1;rw[ZX r er h2]
def agk(as:jQ)(es:L Expr){X:Cx}(h:rK T as es=W):es=[]->wEs X.K Y E as=λ_ H Q=>Q [] H:=by
 rintro rfl;cases as with
 |nil=>rfl
 |cons a r=>exact no h
def aet{e:Expr}{one:Bool}{gs:L Nat}{a:CE}(h:PE X e<|wE X.K Y E<|.n one gs a)(he:∀whole,wH e X.env whole=(do let v <-whole;zq e.pos;tL [v] (CA v))):PT X e (wT X.K Y E<|.n one gs a):=pt_val' h he
def aeu{e:Expr}{g:Nat}{a:CE}(h:PE X e<|wE X.K Y E<|.s g a)(he:∀whole,wH e X.env whole=(do let v <-whole;zq e.pos;tL [v] (CA v))):PT X e (wT X.K Y E<|.s g a):=pt_val' h he
def Ok.xcs(ok:Ok X T Y E){g:Nat}(h:decide (g<zl T.gl)=W):∀Cs as,Y[g]?=M (G.h Cs as)->z7 X.K Cs as:=λCs as e=>by
 have hl:=ay h;exact ok.gl g (T.gl[g]) _ (aB hl) e
def xD{α β:Type}{o:aah α}{f:α->aah β}{b:β}(h:o.bind f=M b):∃a,o=M a/\f a=M b:=by
 cases o with
 |none=>cases h
 |some a=>exact#[a,rfl,h]
def ZY{e:Expr}{a}(h:cP e=M a):e=.Call a.1 a.2.1 a.2.2.1 a.2.2.2:=by
 cases e<;>first|exact nU h|(cases h;rfl)
def agl{e:Expr}{a}(h:aP e=M a):e=.Attribute a.1 a.2.1 a.2.2:=by
 cases e<;>first|exact nU h|(cases h;rfl)
def TZ{α:Type}{l:L α}{c:α}(h:l1P l=M c):l=[c]:=by
 rcases l with _|⟨_,_|_⟩<;>first|exact nU h|(cases h;rfl)
def BG{α:Type}{l:L α}{c}(h:OZ l=M c):l=[]:=by
 cases l<;>first|exact nU h|rfl
def T3{e:Expr}{w}(h:c2P e=M w):e=.Call (.Name w.1.1 w.1.2) [.Call w.2.2.1 w.2.2.2.1 w.2.2.2.2.1 w.2.2.2.2.2] w.2.1.1 w.2.1.2:=by
 let#[a,h1,h]:=xD h;let#[x,h2,h]:=xD h;let#[c,h3,h]:=xD h;let#[b,h4,h]:=xD h;cases h;rw[ZY h1,QS h2,TZ h3,ZY h4]
def abA(h:QN e=M (x,y,l,b)):∃px py p2 p,e=.Call (.Name x px) [.Call (.Attribute l y py) [] [] p2] [] p/\(py.endLine==p2.line)=b:=by
 let#[w,h1,h]:=xD h;let#[_,h4,h]:=xD h;let#[q,h7,h]:=xD h;let#[_,h8,h]:=xD h;let#[_,h9,h]:=xD h;cases h;exact#[_,q.2.2,_,_,by rw[T3 h1,BG h4,agl h7,BG h8,BG h9],rfl]
def Hv(h:ye e=M (x,y,l)):∃px py p2 p,e=.Call (.Name x px) [.Call (.Name y py) [l] [] p2] [] p:=by
 let#[w,h1,h]:=xD h;let#[_,h4,h]:=xD h;let#[q,h7,h]:=xD h;let#[_,h8,h]:=xD h;let#[_,h9,h]:=xD h;cases h;exact#[_,_,_,_,by rw[T3 h1,BG h4,QS h7,TZ h8,BG h9]]
def v5(h:vW T x y=W):x=y/\pQ T.sc x=W/\T.bn.contains x=W:=by
 let#[#[h1,h2],h3]:=qx h;exact#[ay h1,h2,h3]
def hid{α:Type}{G:α->Prop}{e:α}(h:∀P:α->Prop,(∀x,G x->P x)->P e):G e:=h G λ_ h=>h
set_option tactic.hygienic true in
mutual
theorem e_:∀(c:CE) (e:Expr) {X:Cx}{T:Tab}{E:XK},Ok X T Y E->dP T c e=W->PE X e (wE X.K Y E c)/\PT X e (wT X.K Y E c)/\∀op vs p,e=.BoolOp op vs p->PW X e (wT X.K Y E c)
|.a i,e,X,T,E,ok,h=>by
 let#[h0,h]:=band h;revert h;refine cV e (eq_of_beq h0) ?_;intro x p h;let#[#[#[h1,h2],h3],h4]:=tR h;rw[<-ok.sc]at h2;have z':PE X (.Name x p) (wE X.K Y E (.a i)):=abx (ok.Mh h1) (aeb h2) (yf h3) (yf h4);exact#[z',pt_val' z' (λ_=>rfl),λ_ _ _ z=>nomatch z]
|.e v,e,X,T,E,ok,h=>by
 let#[h0,h]:=band h;revert h;refine VY e (eq_of_beq h0) ?_;intro _ _ _ h;exact#[aer h,iX,λ_ _ _ z=>nomatch z]
|.g op a b,e,X,T,E,ok,h=>by
 let#[h0,h]:=band h;revert h;refine aaH e (eq_of_beq h0) ?_;intro l o r p h;let#[#[h1,h2],h3]:=qx h;have e:=ay h1;subst e;exact#[afT (af7 op) (e_ a l ok h2).1 (e_ b r ok h3).1,iX,λ_ _ _ z=>nomatch z]
|.y a,e,X,T,E,ok,h=>by
 let#[h0,h]:=band h;let#[hf,h]:=band h;let#[ha,h]:=band h;revert hf ha h;refine f_ e (eq_of_beq h0) ?_;intro fn es kw p hf ha h;revert h;refine cV fn (eq_of_beq hf) ?_;intro x px h
 match es,ha,h with
 |[],ha,h=>exact no ha
 |_::_::_,ha,h=>exact no ha
 |[c],ha,h=>
  let#[hb,ha]:=band ha;revert h ha;refine f_ c (eq_of_beq hb) ?_;intro f2 es2 kw2 p2 h ha;revert h;refine cV f2 (eq_of_beq ha) ?_;intro y py h
  match es2,kw2,kw,h with
  |[],_,_,h=>exact no h
  |_::_::_,_,_,h=>exact no h
  |[_],_::_,_,h=>exact no h
  |[_],[],_::_,h=>exact no h
  |[l],[],[],h=>
   let#[hcm,h]:=band h;let#[h,h8]:=band h;let#[#[#[#[#[#[h1,h2],h3],h4],h5],h6],h7]:=KZ h;have e1:=ay h1;have e2:=ay h4;subst e1 e2;exact#[abp (ok.calm hcm) (ok.jc h2) (ok.jU h3) (ok.jc h5) (ok.jU h6) (e_ a l ok h8).1 h7,iX,λ_ _ _ z=>nomatch z]
|.m a,e,X,T,E,ok,h=>by
 let#[h0,h]:=band h;revert h;refine DJ e (eq_of_beq h0) ?_;intro op l p h;cases op<;>first|exact no h|skip
 exact#[pe_neg' (e_ a l ok h).1,iX,λ_ _ _ z=>nomatch z]
|.p a,e,X,T,E,ok,h=>by
 let#[h0,h]:=band h;revert h;refine DJ e (eq_of_beq h0) ?_;intro op l p h;cases op<;>first|exact no h|skip
 exact#[pe_not' (e_ a l ok h).1,ac4 (e_ a l ok h).2.1,λ_ _ _ z=>nomatch z]
|.l a b,e,X,T,E,ok,h=>by
 let#[h0,h]:=band h;revert h;refine E5 e (eq_of_beq h0) ?_;intro op vs p h;cases op<;>first|exact no h|skip
 match vs,h with
 |[x,y],h=>
  let#[h1,h2]:=band h;have w:=pw_and (pos:=p) (e_ a x ok h1).2.1 (pw_and1 (e_ b y ok h2).2.1);exact#[pe_and' (e_ a x ok h1).1 (Sy (e_ b y ok h2).1),w.pt,λ_ _ _ _=>w]
 |x::y::z::r,h=>
  let#[h1,h2]:=band h;have w:=pw_and (e_ a x ok h1).2.1 ((e_ b _ ok h2).2.2 _ _ _ rfl);exact#[pe_and' (e_ a x ok h1).1 (e_ b _ ok h2).1,w.pt,λ_ _ _ _=>w]
 |[],h=>exact no h
 |[x],h=>exact no h
|.o a b,e,X,T,E,ok,h=>by
 let#[h0,h]:=band h;revert h;refine E5 e (eq_of_beq h0) ?_;intro op vs p h;cases op<;>first|exact no h|skip
 match vs,h with
 |[x,y],h=>
  let#[h1,h2]:=band h;have w:=pw_or (pos:=p) (e_ a x ok h1).2.1 (pw_or1 (e_ b y ok h2).2.1);exact#[pe_or' (e_ a x ok h1).1 (Sy (e_ b y ok h2).1),w.pt,λ_ _ _ _=>w]
 |x::y::z::r,h=>
  let#[h1,h2]:=band h;have w:=pw_or (e_ a x ok h1).2.1 ((e_ b _ ok h2).2.2 _ _ _ rfl);exact#[pe_or' (e_ a x ok h1).1 (e_ b _ ok h2).1,w.pt,λ_ _ _ _=>w]
 |[],h=>exact no h
 |[x],h=>exact no h
|.q c a b,e,X,T,E,ok,h=>by
 let#[h0,h]:=band h;revert h;refine aaI e (eq_of_beq h0) ?_;intro t x y p h;let#[#[h1,h2],h3]:=qx h;exact#[Wf (e_ c t ok h1).2.1 (e_ a x ok h2).1 (e_ b y ok h3).1,aes (e_ c t ok h1).2.1 (e_ a x ok h2).2.1 (e_ b y ok h3).2.1,λ_ _ _ z=>nomatch z]
|.d op a b,e,X,T,E,ok,h=>by
 let#[h0,h]:=band h;revert h;refine DK e (eq_of_beq h0) ?_;intro l os rs p h
 match os,rs,h with
 |[o],[r],h=>
  let#[#[#[h1,h2],h3],h4]:=tR h;have e:=ay h1;subst e;exact#[aaU (C_ ok.room op) (e_ a l ok h3).1 (e_ b r ok h4).1 (yf h2),pt_cmp' ok.room (e_ a l ok h3).1 (e_ b r ok h4).1 (yf h2),λ_ _ _ z=>nomatch z]
 |[],_,h=>exact no h
 |_::_::_,_,h=>exact no h
 |[_],[],h=>exact no h
 |[_],_::_::_,h=>exact no h
|.t o1 o2 a b c,e,X,T,E,ok,h=>by
 let#[h0,h]:=band h;revert h;refine DK e (eq_of_beq h0) ?_;intro l os rs p h
 match os,rs,h with
 |[p1,p2],[m,r],h=>
  let#[#[#[#[#[h1,h2],h3],h4],h5],h6]:=xC h;have e1:=ay h1;have e2:=ay h2;subst e1 e2;exact#[pe_chain' ok.room (e_ a l ok h4).1 (e_ b m ok h5).1 (e_ c r ok h6).1 (yf h3),pt_chain' ok.room (e_ a l ok h4).1 (e_ b m ok h5).1 (e_ c r ok h6).1 (yf h3),λ_ _ _ z=>nomatch z]
 |[],_,h=>exact no h
 |[_],_,h=>exact no h
 |_::_::_::_,_,h=>exact no h
 |[_,_],[],h=>exact no h
 |[_,_],[_],h=>exact no h
 |[_,_],_::_::_::_,h=>exact no h
|.c g as,e,X,T,E,ok,h=>by
 let#[h0,h]:=band h;let#[hf,h]:=band h;revert hf h;refine f_ e (eq_of_beq h0) ?_;intro f es kw p hf h;revert h;refine cV f (eq_of_beq hf) ?_;intro x px h;cases kw<;>first|exact no h|skip
 let#[#[#[#[h1,h2],h3],h4],h5]:=Df h;have z':PE X (.Call (.Name x px) es [] p) (wE X.K Y E (.c g as)):=agj ok (ay h1) (ok.jc h2) (yf h3) (z_ as es ok h4 h5) (agk as es h5) h4;exact#[z',abz ok z' (λ_=>rfl),λ_ _ _ z=>nomatch z]
|.h f as,e,X,T,E,ok,h=>by
 let#[h0,h]:=band h;let#[hf,h]:=band h;revert hf h;refine f_ e (eq_of_beq h0) ?_;intro fn es kw p hf h;revert h;refine cV fn (eq_of_beq hf) ?_;intro x px h;cases kw<;>first|exact no h|skip
 let#[hcm,h]:=band h;let#[#[#[#[#[h1,h2],h3],h4],h5],h6]:=xC h;cases es with
 |nil=>exact no h5
 |cons e er=>
  have hb:o7 X f.val (Bu X.K f):=by
   rcases iP.mp hcm with hcm|hcm
   .exact af_ (ok.calm hcm) ok.room f
   .exact(ok.semi (band hcm).1).elim
  have z':PE X (.Call (.Name x px) (e::er) [] p) (wE X.K Y E (.h f as)):=aee hb (ok.jc h2) (ay h1) (ok.jU h3) (z_ as _ ok h4 h6) h4;exact#[z',pt_val' z' (λ_=>rfl),λ_ _ _ z=>nomatch z]
|.v a t,e,X,T,E,ok,h=>by
 let#[h0,h]:=band h;let#[hf,h]:=band h;let#[ha,h]:=band h;revert hf ha h;refine f_ e (eq_of_beq h0) ?_;intro fn es kw p hf ha h;revert h;refine cV fn (eq_of_beq hf) ?_;intro x px h
 match es,ha,h with
 |[],ha,h=>exact no ha
 |[_],ha,h=>exact no ha
 |_::_::_::_,ha,h=>exact no ha
 |[l,c],ha,h=>
  revert h;refine cV c (eq_of_beq ha) ?_;intro y py h;cases kw<;>first|exact no h|skip
  let#[#[#[#[#[#[#[#[h1,h2],h3],h4],h5],h6],h7],h8],h9]:=Q2 h;have z':PE X (.Call (.Name x px) [l,.Name y py] [] p) (wE X.K Y E (.v a t)):=aed (ok.jc h2) (ay h1) (ok.jU h3) (ok.jc h6) (ay h4) (ay h5) (ok.jU h7) (e_ a l ok h9).1 h8;exact#[z',pt_val' z' (λ_=>rfl),λ_ _ _ z=>nomatch z]
|.i m o as,e,X,T,E,ok,h=>by
 let#[h0,h]:=band h;let#[hf,h]:=band h;revert hf h;refine f_ e (eq_of_beq h0) ?_;intro fn es kw p hf h;revert h;refine Sn fn (eq_of_beq hf) ?_;intro l nm ap h;cases kw<;>first|exact no h|skip
 let#[#[#[#[#[#[h1,h2],h3],h4],h5],h6],h7]:=KZ h;have e:=ay h1;subst e;have ho:=(e_ o l ok h6).1;have ha:=z_ as es ok h4 h7;cases es with
 |nil=>exact no (band h3).2
 |cons e er=>
  have z':PE X (.Call (.Attribute l m.name ap) (e::er) [] p) (wE X.K Y E (.i m o as)):=aec ok.room ho ha h2 (band h3).1 h4 (ay h5);exact#[z',pt_val' z' (λ_=>rfl),λ_ _ _ z=>nomatch z]
|.b a b,e,X,T,E,ok,h=>by
 let#[h0,h]:=band h;revert h;refine nQ e (eq_of_beq h0) ?_;intro l r p h;let#[#[h1,h2],h3]:=qx h;have z':PE X (.Subscript l r p) (wE X.K Y E (.b a b)):=af0 (ixOk ok.room) (e_ a l ok h2).1 (e_ b r ok h3).1 (QR h1);exact#[z',pt_val' z' (λ_=>rfl),λ_ _ _ z=>nomatch z]
|.r a lo hi,e,X,T,E,ok,h=>by
 let#[h0,h]:=band h;let#[hf,h]:=band h;revert hf h;refine nQ e (eq_of_beq h0) ?_;intro l r p hf h;revert h;refine aaJ r (eq_of_beq hf) ?_;intro x y st ps h;cases st<;>first|exact no h|skip
 let#[#[h1,h2],h3]:=qx h;exact#[Wq slOk (e_ a l ok h1).1 (okO lo x ok h2) (okO hi y ok h3),iX,λ_ _ _ z=>nomatch z]
|.k as,e,X,T,E,ok,h=>by
 let#[h0,h]:=band h;revert h;refine acL e (eq_of_beq h0) ?_;intro _ _ h;let#[h1,h2]:=band h;exact#[adt (z_ as _ ok h1 h2),iX,λ_ _ _ z=>nomatch z]
|.f as,e,X,T,E,ok,h=>by
 let#[h0,h]:=band h;revert h;refine xW e (eq_of_beq h0) ?_;intro _ _ _ h;let#[h1,h2]:=band h;exact#[ads (z_ as _ ok h1 h2),iX,λ_ _ _ z=>nomatch z]
|.ab,e,X,T,E,ok,h=>by
 let#[h0,h]:=band h;revert h;refine acM e (eq_of_beq h0) ?_;intro ks vs p h
 match ks,vs,h with
 |[],[],_=>exact#[Wu,iX,λ_ _ _ z=>nomatch z]
 |[],_::_,h=>exact no h
 |_::_,_,h=>exact no h
|.j nl fr elt tg src cond,e,X,T,E,ok,h=>by
 let#[h0,h]:=band h;revert h;refine C0 e (eq_of_beq h0) ?_;intro l gs sc p h
 match gs,h with
 |[],h=>exact no h
 |⟨_,_,_,.ofNat 0⟩::_::_,h=>exact no h
 |⟨_,_,_,.ofNat (n+1)⟩::_,h=>exact no h
 |⟨_,_,_,.negSucc n⟩::_,h=>exact no h
 |[#[t,it,ifs,.ofNat 0]],h=>
  let#[hcm,h]:=band h;let#[#[#[#[#[h2,h3],h4],h5],h6],h7]:=xC h;let#[h3,h3']:=band h3;rcases iP.mp hcm with hcm|hcm
  .obtain⟨hcm,hns⟩:=band hcm;have hns:T.semi=W->bu:=λz=>by rw[z]at hns;cases hns
   exact#[abj (ok.calm hcm) (ok.FH h2) (okI src it h3' ok h4) (BB h3) (λC ajg H ex=>Jc tg t (tu ok h2 C ajg H ex (λz=>(hns z).elim) (.inl hcm)) h5) (λC ajg H ex=>okC cond ifs (tu ok h2 C ajg H ex (λz=>(hns z).elim) (.inl hcm)) h6)
    (λC ajg H ex=>(e_ elt l (tu ok h2 C ajg H ex (λz=>(hns z).elim) (.inl hcm)) h7).1),iX,λ_ _ _ z=>nomatch z]
  .exact(ok.semi (band hcm).1).elim
|.n one gs a,e,X,T,E,ok,h=>by
 let#[h0,h]:=band h;let#[hf,h]:=band h;revert hf h;refine f_ e (eq_of_beq h0) ?_;intro fn es kw p hf h;revert h;refine cV fn (eq_of_beq hf) ?_;intro x px h
 match es,h with
 |[],h=>exact no h
 |[_],h=>exact no h
 |_::_::_::_,h=>exact no h
 |[l,c],h=>
  cases kw<;>first|exact no h|skip
  let#[#[#[#[#[h1,h2],h3],h4],h5],h6]:=xC h;have z':PE X (.Call (.Name x px) [l,c] [] p) (wE X.K Y E (.n one gs a)):=aeg ok (ok.jc h2) (ay h1) (ok.jU h3) (e_ a l ok h6).1 h4 h5;exact#[z',aet z' (λ_=>rfl),λ_ _ _ z=>nomatch z]
|.s g a,e,X,T,E,ok,h=>by
 let#[h0,h]:=band h;let#[hf,h]:=band h;let#[ha,h]:=band h;revert hf ha h;refine f_ e (eq_of_beq h0) ?_;intro fn es kw p hf ha h;revert h;refine cV fn (eq_of_beq hf) ?_;intro x px h
 match es,ha,h with
 |[],ha,h=>exact no ha
 |[_],ha,h=>exact no ha
 |_::_::_::_,ha,h=>exact no ha
 |[l,c],ha,h=>
  revert h;refine cV c (eq_of_beq ha) ?_;intro y py h;cases kw<;>first|exact no h|skip
  let#[#[#[#[#[#[#[#[h1,h2],h3],h4],h5],h6],h7],h8],h9]:=Q2 h;have z':PE X (.Call (.Name x px) [l,.Name y py] [] p) (wE X.K Y E (.s g a)):=aeh (ok.xcs h9) (ok.jc h2) (ay h1) (ok.jU h3) (ok.jc h5) (ay h4) (ok.jU h6) (e_ a l ok h8).1 h7;exact#[z',aeu z' (λ_=>rfl),λ_ _ _ z=>nomatch z]
|.z as,e,X,T,E,ok,h=>by
 cases e<;>first|exact no h|skip
 rename_i fn es kw p;cases fn<;>first|exact no h|skip
 rename_i x px
 match es,h with
 |[],h=>exact no h
 |e::er,h=>
  cases e<;>first|exact no h|skip
  rename_i fn es kw2 p2;cases fn<;>first|exact no h|skip
  rename_i y py;cases kw2<;>first|exact no h|skip
  cases er<;>first|exact no h|skip
  cases kw<;>first|exact no h|skip
  let#[hcm,h]:=band h;let#[#[#[#[#[#[#[#[h1,h2],h3],h4],h5],h6],h7],h8],h9]:=Q2 h;have e1:=ay h1;have e2:=ay h4;subst e1 e2;cases es with
  |nil=>exact no h8
  |cons e er=>exact#[aei (ok.calm hcm) (ok.jc h2) (ok.jU h3) (ok.jc h5) (ok.jU h6) (z_ as _ ok h7 h9) h7,iX,λ_ _ _ z=>nomatch z]
|.u a,e,X,T,E,ok,h=>by
 have hk:(match QN e with
  |some (x,y,l,b)=>T.calm&&(vW T x "sorted"&&decide (y=("items":Str))&&b&&Dd l&&dP T a l)
  |none=>J)=W:=h
 cases e0:QN e with
 |none=>rw[e0]at hk;exact no hk
 |some xs=>
  let#[x,y,l,b]:=xs;rw[e0]at hk;let#[px,py,p2,p,rfl,rfl]:=abA e0;let#[hcm,hk]:=band hk;let#[#[#[#[h1,h4],h5],h6],h7]:=Df hk;let#[rfl,h1,h2]:=v5 h1;obtain rfl:=ay h4;exact#[ael (ok.calm hcm) (ok.jc h1) (ok.jU h2) (e_ a l ok h7).1 h6 h5,iX,λ_ _ _ z=>nomatch z]
|.aa a,e,X,T,E,ok,h=>by
 have hk:(match ye e with
  |some (x,y,l)=>T.calm&&(vW T x "list"&&vW T y "range"&&noStar l&&dP T a l)
  |none=>J)=W:=h
 cases e0:ye e with
 |none=>rw[e0]at hk;exact no hk
 |some xs=>
  let#[x,y,l]:=xs;rw[e0]at hk;let#[px,py,p2,p,rfl]:=Hv e0;let#[hcm,hk]:=band hk;let#[#[#[h1,h4],h5],h7]:=tR hk;let#[rfl,h1,h2]:=v5 h1;let#[rfl,h3,h4]:=v5 h4;exact#[aej (ok.calm hcm) (ok.jc h1) (ok.jU h2) (ok.jc h3) (ok.jU h4) (e_ a l ok h7).1 h5,iX,λ_ _ _ z=>nomatch z]
|.ac a,e,X,T,E,ok,h=>by
 have hk:(match ye e with
  |some (x,y,l)=>T.calm&&(vW T x "list"&&vW T y "reversed"&&noStar l&&dP T a l)
  |none=>J)=W:=h
 cases e0:ye e with
 |none=>rw[e0]at hk;exact no hk
 |some xs=>
  let#[x,y,l]:=xs;rw[e0]at hk;let#[px,py,p2,p,rfl]:=Hv e0;let#[hcm,hk]:=band hk;let#[#[#[h1,h4],h5],h7]:=tR hk;let#[rfl,h1,h2]:=v5 h1;let#[rfl,h3,h4]:=v5 h4;exact#[aek (ok.calm hcm) (ok.jc h1) (ok.jU h2) (ok.jc h3) (ok.jU h4) (e_ a l ok h7).1 h5,iX,λ_ _ _ z=>nomatch z]
|.x a,e,X,T,E,ok,h=>by
 have hk:(match ye e with
  |some (x,y,l)=>T.calm&&(vW T x "sorted"&&vW T y "set"&&noStar l&&dP T a l)
  |none=>J)=W:=h
 cases e0:ye e with
 |none=>rw[e0]at hk;exact no hk
 |some xs=>
  let#[x,y,l]:=xs;rw[e0]at hk;let#[px,py,p2,p,rfl]:=Hv e0;let#[hcm,hk]:=band hk;let#[#[#[h1,h4],h5],h7]:=tR hk;let#[rfl,h1,h2]:=v5 h1;let#[rfl,h3,h4]:=v5 h4;exact#[aeq ok.room (ok.calm hcm) (ok.jc h1) (ok.jU h2) (ok.jc h3) (ok.jU h4) (e_ a l ok h7).1 h5,iX,λ_ _ _ z=>nomatch z]
|.w,e,X,T,E,ok,h=>by
 cases e<;>first|exact no h|skip
 rename_i ks vs p
 match ks,vs,h with
 |[],[],_=>exact#[Wv,iX,λ_ _ _ z=>nomatch z]
 |[],_::_,h=>exact no h
 |_::_,_,h=>exact no h
theorem z_:∀(cs:jQ) (es:L Expr) {X:Cx}{T:Tab}{E:XK},Ok X T Y E->cY es=W->rK T cs es=W->PA X es (wEs X.K Y E cs)
|.nil,es,X,T,E,ok,hs,h=>by
 cases es with
 |nil=>exact Fc
 |cons e er=>exact no h
|.cons a r,es,X,T,E,ok,hs,h=>by
 cases es with
 |nil=>exact no h
 |cons e er=>
  let#[h1,h2]:=band h;have hs':noStar e=W/\cY er=W:=aS.mp hs;exact C6 (e_ a e ok h1).1 (z_ r er ok hs'.2 h2)<|dH hs'.1
theorem okO:∀(c:CO) (e:aah Expr) {X:Cx}{T:Tab}{E:XK},Ok X T Y E->WX T c e=W->PO X e (wO X.K Y E c)
|.none,e,X,T,E,ok,h=>by
 cases e with
 |none=>exact aaY
 |some x=>exact no h
|.some a,e,X,T,E,ok,h=>by
 cases e with
 |none=>exact no h
 |some x=>exact po_some' (e_ a x ok h).1
theorem okC:∀(c:CO) (es:L Expr) {X:Cx}{T:Tab}{E:XK},Ok X T Y E->ad9 T c es=W->OY X es (wC X.K Y E c)
|.none,es,X,T,E,ok,h=>by
 cases es with
 |nil=>exact abh
 |cons x r=>exact no h
|.some a,es,X,T,E,ok,h=>by
 match es,h with
 |[x],h=>exact abi (e_ a x ok h).2.1
 |[],h=>exact no h
 |_::_::_,h=>exact no h
theorem Jc:∀(c:CG) (e:Expr) {X:Cx}{T:Tab}{E:XK},Ok X T Y E->z6 T c e=W->PG X e (wG X.K Y E c)
|.a i,e,X,T,E,ok,h=>by
 let#[h0,h]:=band h;revert h;refine cV e (eq_of_beq h0) ?_;intro _ _ h;let#[h1,h2]:=band h;exact aby ok (ok.Mh h1) h2
|.b gs,e,X,T,E,ok,h=>by
 let#[h0,h]:=band h;revert h;refine xW e (eq_of_beq h0) ?_;intro _ _ _ h;let#[hcm,h]:=band h;let#[h1,h2]:=band h;exact pg_tup' ((iP.mp hcm).imp ok.calm ok.semi) (aew gs _ ok h1 h2) (ZX gs _ h2) h1
|.c o i,e,X,T,E,ok,h=>by
 let#[h0,h]:=band h;revert h;refine nQ e (eq_of_beq h0) ?_;intro _ _ _ h;let#[#[h1,h2],h3]:=qx h;exact pg_sub' ok.room h1 (e_ o _ ok h2).1 (e_ i _ ok h3).1
theorem aew:∀(cs:vU) (es:L Expr) {X:Cx}{T:Tab}{E:XK},Ok X T Y E->cY es=W->KY T cs es=W->Fb X es (OT X.K Y E cs)
|.nil,es,X,T,E,ok,hs,h=>by
 cases es with
 |nil=>exact pgs_nil'
 |cons e er=>exact no h
|.cons g r,es,X,T,E,ok,hs,h=>by
 cases es with
 |nil=>exact no h
 |cons e er=>
  let#[h1,h2]:=band h;have hs':noStar e=W/\cY er=W:=aS.mp hs;exact pgs_cons' (Jc g e ok h1) (aew r er ok hs'.2 h2) hs'.1
theorem okI:∀(c:CI) (e:Expr) {tg:Expr}{X:Cx}{T:Tab}{E:XK},WV c tg=W->Ok X T Y E->WY T c e=W->IS X tg e (wI X.K Y E c)
|.a a,e,tg,X,T,E,_,ok,h=>abf (e_ a e ok h).1
|.b as,e,tg,X,T,E,_,ok,h=>by
 let#[h0,h]:=band h;let#[hf,h]:=band h;revert hf h;refine f_ e (eq_of_beq h0) ?_;intro fn es kw p hf h;revert h;refine cV fn (eq_of_beq hf) ?_;intro x px h;cases kw<;>first|exact no h|skip
 .skip
  let#[#[#[#[#[h1,h2],h3],h4],h5],h6]:=xC h;have e:=ay h1;subst e;cases es with
  |nil=>exact no h5
  |cons e er=>
   have hs':noStar e=W/\cY er=W:=by simpa[cY]using h4
   exact Tp (ok.jc h2) (ok.jU h3) (z_ as _ ok h4 h6) (dH hs'.1)<|pe hs'.2
|.c a,e,tg,X,T,E,tb,ok,h=>by
 cases tg<;>first|exact no tb|skip
 let#[h0,h]:=band h;let#[hf,h]:=band h;revert hf h;refine f_ e (eq_of_beq h0) ?_;intro fn es kw p hf h;revert h;refine cV fn (eq_of_beq hf) ?_;intro x px h
 match es,h with
 |[],h=>exact no h
 |_::_::_,h=>exact no h
 |[l],h=>
  cases kw<;>first|exact no h|skip
  let#[#[#[#[h1,h2],h3],h4],h5]:=Df h;have e:=ay h1;subst e;exact WT (ok.jc h2) (ok.jU h3) (e_ a l ok h5).1 (by rw[dH h4];rfl)
|.d a,e,tg,X,T,E,tb,ok,h=>by
 cases e<;>first|exact no h|skip
 rename_i fn es kw p;cases fn<;>first|exact no h|skip
 rename_i x px
 match es,h with
 |[],h=>exact no h
 |_::_::_,h=>exact no h
 |[l],h=>
  cases kw<;>first|exact no h|skip
  let#[#[#[#[h1,h2],h3],h4],h5]:=Df h;have e:=ay h1;subst e;exact abg (ok.jc h2) (ok.jU h3) (e_ a l ok h5).1 (by rw[dH h4];rfl)
end
end
def abB(hk:env.scope.kind=.function)(h:KW env.scope sc y py vpos=W):uy (.ListComp l gs sc vpos) (M<|.Name y py) n env=pure W:=by
 unfold KW at h;simp only[cK,iJ]at h;let#[#[h1,h2],h3]:=h;have hb:env.blockKind=.function:=by
  unfold Env.blockKind;rw[hk];rfl
 show pure (env.blockKind==.function&&env.kindOf y==M .local&&py.line==vpos.line&&!(sc.names.any λ(n,k)=>n==y&&(k==.local||k==.cell)))=pure W;have e1:(env.blockKind==VZ)=W:=by rw[hb];rfl
 have e2:(env.kindOf y==M NameKind.local)=W:=by
  have:env.kindOf y=M .local:=h1;rw[this];rfl
 have e3:(py.line==vpos.line)=W:=by rw[h2];simp
 rw[e1,e2,e3,h3];rfl
def rM(h:notTuple t=W\/notTuple e=W):A6 [t] e env=pure B:=by
 rcases h with h|h
 .cases t<;>first|rfl|exact no h
 .cases t<;>first|rfl|(cases e<;>first|rfl|exact no h)
def Jd(h:qY e=W):uW [t] e n env=pure J:=Fz h
def EB(hs:env.scope=sc)(h:(qY e||WW sc t)=W):uW [t] e n env=pure J:=by
 rcases iP.mp h with h|h
 .exact Jd h
 .subst hs;show uy e (M t) n env=pure J;unfold uy;split
  .cases t with
   |Name y p=>
    have e2:(env.kindOf y==M NameKind.local)=J:=by
     have:¬env.scope.names.lookup y=M .local:=by simpa[WW]using h
     exact fX.mpr this
    simp only[e2,pK,Bool.false_and]
   |_=>rfl
  .rfl
structure Mi (X:Cx) (T:Tab) (Y:L G) (E:XK):Prop extends Ok X T Y E where
 rz:T.calm=W->∃X0:Cx,X=X0.nK (Bt X0 E)/\X.stack=X.env::X.outer/\X.env.frame=M X.env.locals/\X.A.handled=B
def Mi.hand{X:Cx}{T:Tab}{Y:L G}{E:XK}(ok:Mi X T Y E){e:Addr}(he:e∈X.ex\/X.ajg.heap.objs.size<=e):Mi (X.hand<|.ref e) (QO T) (Y.map<|G.hand e) E0:={ ok.toOk.hand he with rz:=λz=>nomatch z }
def Aa(h:z6 T g t=W):noStar t=W:=by
 cases g with
 |a i=>exact cV t (eq_of_beq (band h).1) λ_ _=>rfl
 |b gs=>exact xW t (eq_of_beq (band h).1) λ_ _ _=>rfl
 |c o i=>exact nQ t (eq_of_beq (band h).1) λ_ _ _=>rfl
def okTA{Y:L G}{c x y:Nat}{as:jQ}{e:CE}:∀(sts:L Stmt) {X:Cx}{T:Tab}{E:XK},Ok X T Y E->X.calm=W->ZT T c as x y e sts=W->PB X sts (LV X.K Y c as x y e):=by
 intro sts X T E ok hcl h
 match sts,h with
 |[],h=>exact no h
 |[_],h=>exact no h
 |_::_::_::_,h=>exact no h
 |[s1,s2],h=>
  let#[h,k]:=band h;let#[h0,h]:=band h;revert h;refine qT s1 (eq_of_beq h0) ?_;intro ts a p h;let#[k0,k]:=band k;revert k;refine qT s2 (eq_of_beq k0) ?_;intro ts' b p' k
  match ts,ts',h,k with
  |[],_,h,_=>exact no h
  |_::_::_,_,h,_=>exact no h
  |_,[],_,k=>exact no k
  |_,_::_::_,_,k=>exact no k
  |[t],[t'],h,k=>
   let#[#[#[a1,a2],a3],h]:=tR h;let#[#[#[b1,b2],b3],b4]:=tR k;have P2:=Lq (e_ e b ok.E_ b4).1 (Jc (.a y) t' ok.E_ b3) (pos:=p') (EB ok.sc (by rw[b1];rfl)) (rM<|.inl b2) (by rw[nG<|Aa b3];rfl);let#[hf,h]:=band h;let#[hg,hh]:=band hf;revert h hh a1;refine f_ a (eq_of_beq hg) ?_;intro fn es kw pc a1 h hh;revert a1 h;refine cV fn (eq_of_beq hh) ?_;intro z px a1 h;cases kw<;>first|exact no h|skip
   let#[#[#[#[#[h1,h2],h3],h4],h5],h6]:=xC h;cases es with
   |nil=>exact no h5
   |cons u er=>
    have hs':noStar u=W/\cY er=W:=by simpa[cY]using h4
    intro pins s U H E' nx I q;unfold LV at q;split at q
    .rename_i sp dvs e1;have G:=Jc (.a x) t ok.E_ a3;rcases ok.gl c z _ (ay h1) e1 with⟨k,f,fd,ps,ds,q1,q2,q3,q4,q5,q6,q7⟩|⟨_,w,_⟩
     rotate_left 1
     .rw[hcl]at w;cases w
     .exact adQ (ok.jc h2) q3 q4 (λI r h=>aa_ q1 q2 q5 q6 I r h) (z_ as (u::er) ok.E_ h4 h6) (yf h3) (dH hs'.1) (pe hs'.2) G (EB ok.sc (by rw[a1];rfl)) (rM<|.inl a2) (by rw[nG<|Aa a3];rfl) P2 pins s U H E' nx I q
    .exact q.elim
section
set_option tactic.hygienic true in
mutual
theorem okS:∀{Y:L G} (c:CS) (st:Stmt) {X:Cx}{T:Tab}{E:XK},Mi X T Y E->ad_ T c st=W->PS X st (wS X.K Y E c)
|Y,.e c,st,X,T,E,ok,h=>by
 let#[h0,h]:=band h;revert h;refine acN st (eq_of_beq h0) ?_;intro _ _ h;let#[h1,h2]:=band h;exact aaQ (e_ c _ ok.toOk h2).1<|Fz h1
|Y,.c g c,st,X,T,E,ok,h=>by
 let#[h0,h]:=band h;revert h;refine qT st (eq_of_beq h0) ?_;intro ts e p h
 match ts,h with
 |[],h=>exact no h
 |_::_::_,h=>exact no h
 |[t],h=>
  let#[#[#[h1,h2],h3],h4]:=tR h;exact Lq (e_ c e ok.toOk h4).1 (Jc g t ok.toOk h3) (EB ok.sc h1) (rM<|.inl h2) (by rw[nG<|Aa h3];rfl)
|Y,.k g c,st,X,T,E,ok,h=>by
 apply hid (e:=st);intro P zk;cases st<;>first|exact no h|skip
 rename_i ts e p
 match ts,h with
 |[],h=>exact no h
 |_::_::_,h=>exact no h
 |[t],h=>
  let#[#[#[h1,h2],h3],h4]:=tR h;refine zk _ ?_;exact Lq (e_ c e ok.toOk h4).1 (Jc g t ok.toOk h3) (Jd h1) (rM<|.inr h2) (by rw[nG<|Aa h3];rfl)
|Y,.g i c,st,X,T,E,ok,h=>by
 let#[h0,h]:=band h;let#[hf,h]:=band h;revert hf h;refine So st (eq_of_beq h0) ?_;intro t op e p hf h;revert h;refine cV t (eq_of_beq hf) ?_;intro y py h;cases op<;>first|exact no h|skip
 let#[#[h1,h2],h3]:=qx h;have hl:X.env.scope.names.lookup y=M .local:=by rw[ok.sc];exact ay h2
 exact adb ok.nd (ok.toOk.Mh h1) (.inl hl) (e_ c e ok.toOk h3).1 ade<|.inr hl
|Y,.f i c,st,X,T,E,ok,h=>by
 let#[h0,h]:=band h;let#[hf,h]:=band h;revert hf h;refine qT st (eq_of_beq h0) ?_;intro ts e p hf h
 match ts,hf,h with
 |[],hf,h=>exact no hf
 |t::tr,hf,h=>
  let#[hf,hg]:=band hf;revert h;refine cV t (eq_of_beq hf) ?_;intro y py h;cases tr<;>first|exact no h|skip
  revert h;refine C0 e (eq_of_beq hg) ?_;intro l gs sc vpos h;have hcm:=(band (band h).1).1;have hns:T.semi=W->bu:=λz=>by have q:=(band (band h).1).2;rw[z]at q;cases q
  replace h:=(band h).2;let#[#[h1,h2],h3]:=qx h;cases c<;>first|exact no h3|skip
  rename_i nl fr elt tg src cond _ _ _
  match gs,h3 with
  |[],h=>exact no h
  |⟨_,_,_,.ofNat 0⟩::_::_,h=>exact no h
  |⟨_,_,_,.ofNat<|n+1⟩::_,h=>exact no h
  |⟨_,_,_,.negSucc n⟩::_,h=>exact no h
  |[#[t,it,ifs,.ofNat 0]],h3=>
   replace h3:=(band (band h3).2).2;let#[#[#[#[#[k2,k3],k4],k5],k6],k7]:=xC h3;let#[k3,k3']:=band k3;have hl:X.env.scope.names.lookup y=M .local:=by
    unfold KW at h2;simp only[cK,iJ]at h2;rw[ok.sc];exact h2.1.1
   exact abk (ok.calm hcm) ok.nd (ok.toOk.Mh h1) hl (ok.toOk.FH k2) (okI src it k3' ok.toOk k4) (BB k3) (abB ok.kind (by rw[ok.sc];exact h2)) (λC ajg H ex=>Jc tg t (tu ok.toOk k2 C ajg H ex (λz=>(hns z).elim)<|.inl hcm) k5) (λC ajg H ex=>okC cond ifs (tu ok.toOk k2 C ajg H ex (λz=>(hns z).elim)<|.inl hcm) k6)
    λC ajg H ex=>(e_ elt _ (tu ok.toOk k2 C ajg H ex (λz=>(hns z).elim)<|.inl hcm) k7).1
|Y,.a c,st,X,T,E,ok,h=>by
 let#[h0,h]:=band h;revert h;refine ZC st (eq_of_beq h0) ?_;intro e p h;cases e<;>first|exact no h|skip
 .exact ac6 (e_ c _ ok.toOk h).1
|Y,.l k i j a b,st,X,T,E,ok,h=>by
 let#[h0,h]:=band h;revert h;refine NH st (eq_of_beq h0) ?_;intro _ _ _ _ h;let#[#[h1,h2],h3]:=qx h;exact ZG (e_ (LU k i j) _ ok.toOk h1).2.1 (yg a _ ok h2)<|yg b _ ok h3
|Y,.b c a b,st,X,T,E,ok,h=>by
 let#[h0,h]:=band h;revert h;refine NH st (eq_of_beq h0) ?_;intro _ _ _ _ h;let#[#[h1,h2],h3]:=qx h;exact ZG (e_ c _ ok.toOk h1).2.1 (yg a _ ok h2)<|yg b _ ok h3
|Y,.i c b,st,X,T,E,ok,h=>by
 apply hid (e:=st);intro P zk;cases st<;>first|exact no h|skip
 rename_i e x l p;cases l<;>first|exact no h|skip
 .obtain⟨h1,h2⟩:=band h;refine zk _ ?_;exact Wk ok.po (e_ c _ ok.toOk h1).2.1<|yg b _ ok h2
|Y,.d g src b,st,X,T,E,ok,h=>by
 let#[h0,h]:=band h;revert h;refine Stmt.For.elim st (eq_of_beq h0) ?_;intro t it x l p h;cases l<;>first|exact no h|skip
 .obtain⟨hcm,h⟩:=band h;let#[#[#[#[h1,h1'],h2],h3],h4]:=Df h;exact aga ok.po (ok.calm hcm) (okI src _ h1' ok.toOk h2) (Jc g _ ok.toOk h3) (yg b _ ok h4)<|BB h1
|Y,.n,st,X,T,E,ok,h=>by
 let#[h0,h]:=band h;revert h;refine aaK st (eq_of_beq h0) ?_;intro _ h;exact Wh
|Y,.m,st,X,T,E,ok,h=>by
 let#[h0,h]:=band h;revert h;refine V3 st (eq_of_beq h0) ?_;intro _ h;exact NV
|Y,.h g,st,X,T,E,ok,h=>by
 let#[h0,h]:=band h;let#[hf,h]:=band h;revert hf h;refine aaL st (eq_of_beq h0) ?_;intro e f p hf h;cases e with
 |none=>exact no hf
 |some e=>
 let#[hf,hg]:=band hf;revert h hg;refine f_ e (eq_of_beq hf) ?_;intro fn es kw pc h hg;revert h;refine cV fn (eq_of_beq hg) ?_;intro x px h;cases es<;>first|exact no h|skip
 cases kw<;>first|exact no h|skip
 cases f<;>first|exact no h|skip
 .skip
  let#[hcm,h]:=band h;let#[#[h1,h2],h3]:=qx h;intro pins s U H D I q;replace q:(match Y[g]? with
   |some (.b C)=>E (.ref C) B H
   |_=>bu):=q
  split at q
  .rename_i C e1;let#[hm,c1]:=ok.gl g x _ (ay h1) e1;let#[X0,eX,hst,hf,hh]:=ok.rz hcm;have gl:=ok.toOk.jc h2;subst eX;exact Te (X:=X0) c1 hh gl hm (yf h3) pins s U H D I q
  .exact q.elim
|Y,.j i g xx c as y e hd,st,X,T,E,ok,h=>by
 let#[h0,h]:=band h;let#[hf,h]:=band h;revert hf h;refine Stmt.Try.elim st (eq_of_beq h0) ?_;intro body hs oe fe p hf h
 match hs,hf,h with
 |[],hf,h=>exact no hf
 |.ExceptHandler a b c' d::hr,hf,h=>
  cases a with
  |none=>exact no hf
  |some a=>
  revert h;refine cV a (eq_of_beq hf) ?_;intro x px h;cases b<;>first|exact no h|skip
  rename_i n;cases c'<;>first|exact no h|skip
  rename_i s0 sr;cases hr<;>first|exact no h|skip
  cases oe<;>first|exact no h|skip
  cases fe<;>first|exact no h|skip
  let#[hcm,h]:=band h;let#[#[#[#[#[#[h1,h2],h3],h4],h5],h6],h7]:=KZ h;intro pins s U H D I q;replace q:(match Y[g]? with
   |some (.i aaf _)=>LQ X.K i aaf (LV X.K Y c as xx y e) (λe=>wSs X.K (Y.map<|G.hand e) E0 hd) D U H
   |_=>bu):=q
  split at q
  .rename_i aaf Cs e1;let#[hm,hB]:=ok.gl g x _ (ay h1) e1;let#[X0,eX,hst,hf,hh]:=ok.rz hcm;have hl:=ay h5;rw[<-ok.sc]at hl;exact adP hst hf (okTA body ok.toOk (ok.calm hcm) h6) (λe he=>yg hd (s0::sr) (ok.hand he) h7) (ok.toOk.jc h2) hm hB ok.nd (ok.toOk.Mh h4) hl (yf h3) pins s U H D I q
  .exact q.elim
theorem yg:∀{Y:L G} (cs:cI) (sts:L Stmt) {X:Cx}{T:Tab}{E:XK},Mi X T Y E->mX T cs sts=W->vL X sts (wSs X.K Y E cs)
|Y,.nil,sts,X,T,E,ok,h=>by
 cases sts with
 |nil=>exact aaP
 |cons s r=>exact no h
|Y,.cons c r,sts,X,T,E,ok,h=>by
 cases sts with
 |nil=>exact no h
 |cons s sr=>
  let#[h1,h2]:=band h;exact Wg (okS c s ok h1)<|yg r sr ok h2
end
end
def Hw(P:br)(w:bE)(K:ak)(mg:Str->aah Z)(base:Heap)(k:Nat)(x:Str):G->Prop
|.j v=>∃u,mg x=M u/\RelV v u
|.k a xs=>mg x=M (.ref a)/\KSq K a W xs
|.a sp dvs=>(∃(f:Addr) (fd:eS) (ps:L Str) (ds:L Z),jG P w K mg base (nT P w) k f fd ps sp/\mg x=M (.ref f)/\dW K (.ref f)=W/\Binds K fd ps ds/\bO dvs ds)
|.b C=>mg x=M (.ref C)/\IP K C
|.c D Cs=>mg x=M (.ref D)/\jM K D Cs
|.h Cs as=>z7 K Cs as
|.i aaf _=>mg x=M (.ref aaf)/\Fg K aaf
|.d sp=>∃(f:Addr) (fd:eS) (ps:L Str),tQ P w K mg base k f fd ps sp/\mg x=M (.ref f)/\dW K (.ref f)=W/\(Binds K fd ps []/\ps≠[])
|.f=>True
def Ab(P:br)(w:bE)(K:ak)(mg:Str->aah Z)(base:Heap)(k:Nat):L Str->L G->Prop
|x::xs,g::gs=>Hw P w K mg base k x g/\Ab P w K mg base k xs gs
|_,_=>True
theorem Ab.get{w:bE}{K:ak}{mg:Str->aah Z}{base:Heap}{k:Nat}:∀{xs:L Str}{gs:L G},Ab P w K mg base k xs gs->∀(i:Nat) x g,xs[i]?=M x->gs[i]?=M g->Hw P w K mg base k x g
|[],_,_,i,x,g,h,_=>by simp at h
|_::_,[],_,i,x,g,_,h=>by simp at h
|x::xs,g::gs,a,0,y,g',h1,h2=>by
 simp at h1 h2;subst h1 h2;exact a.1
|x::xs,g::gs,a,i+1,y,g',h1,h2=>Ab.get a.2 i y g' (by simpa using h1)<|by simpa using h2
section
variable{P:br}{w:bE}{K:ak}{mg:Str->aah Z}{base:Heap}
def vO.okE{st:Stmt}{f:Addr}{fd:eS}{N ps:L Str}{k:Nat}{sp:Sp}(F:vO K x qual st f fd)(S:o8 N ps<|cQ st)(len:∀vs H Q E,sp vs H Q E->zl vs=zl ps)(hbody:∀(cdv:Z),fd.code=cdv->fd.qualname=qual->∀(A:b7) (outer:L Env) (s:aj) (H:Hp) (vs:L V) (Q:VK) (E:XK),kj k (A.deeper<|oU qual (cQ st) s.heap.objs.size f cdv)->sp vs H Q E->
   ∃t,vL ((mV (nT P w) P w K mg base N qual (cQ st) f cdv A outer s H E).nK<|Bt (mV (nT P w) P w K mg base N qual (cQ st) f cdv A outer s H E) E) (jr st) t/\t { nx:=λ_ H'=>Q .d H',rt:=Q } (start N vs) H):jG P w K mg base (nT P w) (k+1) f fd ps sp:=by
 let#[oc,od,kV,doc,pm,an,cdv,ct,osl,rfl,lk,hcd]:=F.ex;refine afY lk hcd S len λA outer s H vs Q E hr hsp=>?_;let#[t,h,q]:=hbody cdv rfl rfl A outer s H vs Q E hr hsp;exact#[t,adI h,q]
def aex{st:Stmt}{f:Addr}{fd:eS}{N ps gl bn:L Str}{k:Nat}{sp:Sp}{Y:L G}(c:cI)(F:vO K x qual st f fd)(S:o8 N ps<|cQ st)(hc:mX #[N,cQ st,gl,bn,(λ_=>W),W,J] c (jr st)=W)(hg:Ab P w K mg base k gl Y)(hb:∀x∈bn,mg x=B)(len:∀vs H Q E,sp vs H Q E->zl vs=zl ps)(h:∀vs H Q E,sp vs H Q E->wSs K Y E c { nx:=λ_ H'=>Q .d H',rt:=Q } (start N vs) H):jG P w K mg base (nT P w) (k+1) f fd ps sp:=by
 refine vO.okE F S len λcdv ecd eq A outer s H vs Q E hr hsp=>#[wSs K Y E c,?_,h vs H Q E hsp];have ok:Mi ((mV (nT P w) P w K mg base N qual (cQ st) f cdv A outer s H E).nK<|Bt (mV (nT P w) P w K mg base N qual (cQ st) f cdv A outer s H E) E) ⟨N,cQ st,gl,bn,(λ_=>W),W,J⟩ Y E:=by
  refine#[#[rfl,S.nd,rfl,S.kind,λi x g hx hg'=>?_,hb,λ_ _=>rfl,λ_=>rfl,(λz=>nomatch z),QD (X:=mV (nT P w) P w K mg base N qual (cQ st) f cdv A outer s H E) rfl rfl,by have:=hr.un;show(A.deeper<|oU qual (cQ st) s.heap.objs.size f cdv).units+60<fy;omega],λ_=>#[_,rfl,rfl,rfl,hr.hd]];have q:=hg.get i x g hx hg';cases g with
  |a sp dvs=>
   let#[f,fd,ps,ds,q1,q2,q3,q4,q5]:=q
   .exact .inl #[k,f,fd,ps,ds,q1,hr,q2,q3,q4,q5,aa8]
  |d sp=>
   let#[f,fd,ps,q1,q2,q3,q4]:=q;exact#[k,f,fd,ps,q1,#[rfl,hr.dp,hr.un],q2,q3,q4]
  |_=>exact q
 exact yg c _ ok hc
def abC{x qual:Str}{st:Stmt}{f:Addr}{fd:eS}{N ps gl bn:L Str}{k:Nat}{sp:Sp}{Y:L G}(c:cI)(F:vO K x qual st f fd)(S:o8 N ps<|cQ st)(hc:mX #[N,cQ st,gl,bn,(λ_=>W),J,J] c (jr st)=W)(hg:Ab P w K mg base k gl Y)(hb:∀x∈bn,mg x=B)(len:∀vs H Q,sp vs H Q E0->zl vs=zl ps)(h:∀vs H Q,sp vs H Q E0->wSs K (Y.map G.alone) E0 c { nx:=λ_ H'=>Q .d H',rt:=Q } (start N vs) H):tQ P w K mg base (k+1) f fd ps sp:=by
 let#[oc,od,kV,doc,pm,an,cdv,ct,osl,rfl,lk,hcd]:=F.ex;refine aea lk hcd S len λA outer s H vs Q e hr hsp=>#[wSs K (Y.map G.alone) E0 c,?_,h vs H Q hsp];have ok:Mi ((mV IM P w K mg base N qual (cQ st) f cdv (qA A) outer s H E0).hand<|.ref e) ⟨N,cQ st,gl,bn,(λ_=>W),J,J⟩ (Y.map G.alone) E0:=by
  refine#[#[rfl,S.nd,rfl,S.kind,λi x g hx hg'=>?_,hb,λ_ _=>rfl,(λz=>nomatch z),(λz=>nomatch z),sj,by have:=hr.un;show((qA A).deeper<|oU qual (cQ st) s.heap.objs.size f cdv).units+60<fy;omega],(λz=>nomatch z)];rw[bz]at hg';cases e':Y[i]? with
  |none=>rw[e']at hg';cases hg'
  |some g0=>
   rw[e']at hg';cases hg';have q:=hg.get i x g0 hx e';cases g0 with
   |a sp dvs=>exact iT
   |b C=>exact iT
   |d sp=>exact iT
   |_=>exact q
 exact yg c _ ok hc
def jG.calm(F:jG P w K mg base (nT P w) k f fd ps sp):jG P w K mg base IM k f fd ps (λvs H Q _=>sp vs H Q E0):=
 #[λvs H Q E h=>F.len vs H Q E0 h,λA outer s H args us vs Q E hr he hb hv hs=>iR (F.run A outer s H args us vs Q E0 hr he hb hv hs) λr s' q=>by
  cases r with
  |error v=>exact(WZ q).elim
  |ok fl=>cases fl<;>exact q]
end
end L3
end
section
namespace L3
open PySem L2
def ZW(a c:Nat):decide ([c]<[a])=decide (c<a):=by
 rw[Si,V5];simp
theorem len_str(x:Str):x.cps.toList.length=x.length:=by rfl
mutual
def dj(K:ak)(H F:Hp):D->V->L Addr->Prop
|.g,v,fp=>v=.d/\fp=[]
|.e b,v,fp=>v=.c b/\fp=[]
|.a i,v,fp=>v=.b i/\fp=[]
|.c x,v,fp=>(v=.e x/\x.length<=ao)/\fp=[]
|.b o ds,v,fp=>if o=W then ∃a vs fs,v=.a a/\H a=M (.a vs)/\vs.length<=ao/\aX K H F ds vs fs/\fp=a::fs else bf K F (.b o ds) v/\fp=[]
|.d ds,v,fp=>∃a vs,v=.a a/\F a=M (.b vs)/\vs.length<=ao/\aX K H F ds vs fp
|.f o ks ds,v,fp=>if o=W then ∃a kvs fs,v=.a a/\H a=M (.c kvs)/\kvs.length<=ao/\(kvs.map (·.1)=ks/\keysOk ks=W)/\aX K H F ds (kvs.map (·.2)) fs/\fp=a::fs else bf K F (.f o ks ds) v/\fp=[]
|.j,v,fp=>bf K F .j v/\fp=[]
|.h o ks ds,v,fp=>if o=W then ∃a kvs fs,v=.a a/\H a=M (.d kvs)/\kvs.length<=ao/\(kvs.map (·.1)=ks/\qX ks=W)/\aX K H F ds (kvs.map (·.2)) fs/\fp=a::fs else bf K F (.h o ks ds) v/\fp=[]
|.i C ks ds,v,fp=>bf K F (.i C ks ds) v/\fp=[]
def aX(K:ak)(H F:Hp):L D->L V->L Addr->Prop
|[],vs,fp=>vs=[]/\fp=[]
|d::ds,vs,fp=>∃v r f1 f2,vs=v::r/\fp=f1++f2/\dj K H F d v f1/\aX K H F ds r f2
end
section
variable{K:ak}{H H' F F':Hp}
def jh.same'(e:bh H H')(h:jh K H a t xs):jh K H' a t xs:=by
 rcases h with h|h
 .refine .inl ?_;unfold QF at h ⊢;cases q:H a with
  |none=>rw[q]at h;cases h
  |some o=>rw[q]at h;rw[e a o q];exact h
 .exact .inr h
def Rd.same(e:bh H H')(h:Rd H a u):Rd H' a u:=by
 rcases h with h|⟨o,h⟩
 .exact .inl (e _ _ h)
 .exact .inr #[o,e _ _ h]
def Rd.seq(h:Rd H a<|.a xs):jh K H a J xs:=by
 refine .inl ?_;unfold QF;rcases h with h|⟨o,h⟩<;>(rw[h];rfl)
def _root_.L3.Xd.same{H H':Hp}{od:aah Addr}{fs:L<|Str×V}(h:Xd H od fs)(e:bh H H'):Xd H' od fs:=by
 cases od with
 |none=>exact h
 |some d=>exact e _ _ h
mutual
theorem bf.mono(e:bh H H'):∀(d:D) (v:V),bf K H d v->bf K H' d v
|.g,v,h=>h
|.e b,v,h=>h
|.a i,v,h=>h
|.c x,v,h=>h
|.b o ds,v,h=>by
 let#[a,vs,h1,h2,h3,h4]:=h;exact#[a,vs,h1,Rd.same e h2,h3,aR.mono e ds vs h4]
|.d ds,v,h=>by
 let#[a,vs,h1,h2,h3,h4]:=h;exact#[a,vs,h1,e _ _ h2,h3,aR.mono e ds vs h4]
|.f o ks ds,v,h=>by
 let#[a,vs,h1,h2,h3,h4,h5]:=h;exact#[a,vs,h1,e _ _ h2,h3,h4,aR.mono e ds _ h5]
|.h o ks ds,v,h=>by
 let#[a,vs,h1,h2,h3,h4,h5]:=h;exact#[a,vs,h1,e _ _ h2,h3,h4,aR.mono e ds _ h5]
|.j,v,h=>by
 let#[a,vs,h1,h2]:=h;exact#[a,vs,h1,e _ _ h2]
|.i C ks ds,v,h=>by
 let#[a,d,vs,h1,h2,h3,h4]:=h;exact#[a,d,vs,h1,e _ _ h2,h3.same e,aR.mono e ds vs h4]
theorem aR.mono(e:bh H H'):∀(ds:L D) (vs:L V),aR K H ds vs->aR K H' ds vs
|[],vs,h=>h
|d::ds,vs,h=>by
 let#[v,r,h1,h2,h3]:=h;exact#[v,r,h1,bf.mono e d v h2,aR.mono e ds r h3]
end
mutual
theorem bf.bW:∀(d:D) (v:V),bf K F (bW d) v↔bf K F d v
|.g,v=>zN
|.e b,v=>zN
|.a i,v=>zN
|.c x,v=>zN
|.b o ds,v=>by
 constructor
 .rintro⟨a,vs,h1,h2,h3,h4⟩;exact#[a,vs,h1,h2,h3,(aR.aH ds vs).mp h4]
 .rintro⟨a,vs,h1,h2,h3,h4⟩;exact#[a,vs,h1,h2,h3,(aR.aH ds vs).mpr h4]
|.d ds,v=>by
 constructor
 .rintro⟨a,vs,h1,h2,h3,h4⟩;exact#[a,vs,h1,h2,h3,(aR.aH ds vs).mp h4]
 .rintro⟨a,vs,h1,h2,h3,h4⟩;exact#[a,vs,h1,h2,h3,(aR.aH ds vs).mpr h4]
|.f o ks ds,v=>by
 constructor
 .rintro⟨a,vs,h1,h2,h3,h4,h5⟩;exact#[a,vs,h1,h2,h3,h4,(aR.aH ds _).mp h5]
 .rintro⟨a,vs,h1,h2,h3,h4,h5⟩;exact#[a,vs,h1,h2,h3,h4,(aR.aH ds _).mpr h5]
|.h o ks ds,v=>by
 constructor
 .rintro⟨a,vs,h1,h2,h3,h4,h5⟩;exact#[a,vs,h1,h2,h3,h4,(aR.aH ds _).mp h5]
 .rintro⟨a,vs,h1,h2,h3,h4,h5⟩;exact#[a,vs,h1,h2,h3,h4,(aR.aH ds _).mpr h5]
|.j,v=>zN
|.i C ks ds,v=>by
 constructor
 .rintro⟨a,d,vs,h1,h2,h3,h4⟩;exact#[a,d,vs,h1,h2,h3,(aR.aH ds vs).mp h4]
 .rintro⟨a,d,vs,h1,h2,h3,h4⟩;exact#[a,d,vs,h1,h2,h3,(aR.aH ds vs).mpr h4]
theorem aR.aH:∀(ds:L D) (vs:L V),aR K F (aH ds) vs↔aR K F ds vs
|[],vs=>zN
|d::ds,vs=>by
 constructor
 .rintro⟨v,r,h1,h2,h3⟩;exact#[v,r,h1,(bf.bW d v).mp h2,(aR.aH ds r).mp h3]
 .rintro⟨v,r,h1,h2,h3⟩;exact#[v,r,h1,(bf.bW d v).mpr h2,(aR.aH ds r).mpr h3]
end
mutual
theorem bf.AS:∀(d:D) (v:V),bf K F d v->dj K H F (bW d) v []
|.g,v,h=>#[h,rfl]
|.e b,v,h=>#[h,rfl]
|.a i,v,h=>#[h,rfl]
|.c x,v,h=>#[h,rfl]
|.b o ds,v,h=>#[(bf.bW (.b o ds) v).mpr h,rfl]
|.d ds,v,h=>by
 let#[a,vs,h1,h2,h3,h4]:=h;exact#[a,vs,h1,h2,h3,aR.AS ds vs h4]
|.f o ks ds,v,h=>#[(bf.bW (.f o ks ds) v).mpr h,rfl]
|.h o ks ds,v,h=>#[(bf.bW (.h o ks ds) v).mpr h,rfl]
|.j,v,h=>#[h,rfl]
|.i C ks ds,v,h=>#[(bf.bW (.i C ks ds) v).mpr h,rfl]
theorem aR.AS:∀(ds:L D) (vs:L V),aR K F ds vs->aX K H F (aH ds) vs []
|[],vs,h=>#[h,rfl]
|d::ds,vs,h=>by
 let#[v,r,h1,h2,h3]:=h;exact#[v,r,[],[],h1,rfl,bf.AS d v h2,aR.AS ds r h3]
end
mutual
theorem dj.mono(e:bh F F'):∀(d:D) (v:V) (fp:L Addr),(∀a∈fp,H' a=H a)->dj K H F d v fp->dj K H' F' d v fp
|.g,v,fp,_,h=>h
|.e b,v,fp,_,h=>h
|.a i,v,fp,_,h=>h
|.c x,v,fp,_,h=>h
|.b o ds,v,fp,s,h=>by
 cases o with
 |true=>
  let#[a,vs,fs,h1,h2,h3,h4,rfl]:=h;exact fQ a #[vs,fs,h1,by rw[s a aD];exact h2,h3,aX.mono e ds vs fs (λb hb=>s b<|az _ hb) h4,rfl]
 |false=>
  let#[h1,h2]:=h;exact lW (bf.mono e _ v h1) h2
|.d ds,v,fp,s,h=>by
 let#[a,vs,h1,h2,h3,h4]:=h;exact#[a,vs,h1,e _ _ h2,h3,aX.mono e ds vs fp s h4]
|.f o ks ds,v,fp,s,h=>by
 cases o with
 |true=>
  let#[a,vs,fs,h1,h2,h3,h4,h5,rfl]:=h;exact fQ a #[vs,fs,h1,by rw[s a aD];exact h2,h3,h4,aX.mono e ds _ fs (λb hb=>s b<|az _ hb) h5,rfl]
 |false=>
  let#[h1,h2]:=h;exact lW (bf.mono e _ v h1) h2
|.h o ks ds,v,fp,s,h=>by
 cases o with
 |true=>
  let#[a,vs,fs,h1,h2,h3,h4,h5,rfl]:=h;exact fQ a #[vs,fs,h1,by rw[s a aD];exact h2,h3,h4,aX.mono e ds _ fs (λb hb=>s b<|az _ hb) h5,rfl]
 |false=>
  let#[h1,h2]:=h;exact lW (bf.mono e _ v h1) h2
|.j,v,fp,s,h=>#[bf.mono e _ v h.1,h.2]
|.i C ks ds,v,fp,s,h=>#[bf.mono e _ v h.1,h.2]
theorem aX.mono(e:bh F F'):∀(ds:L D) (vs:L V) (fp:L Addr),(∀a∈fp,H' a=H a)->aX K H F ds vs fp->aX K H' F' ds vs fp
|[],vs,fp,_,h=>h
|d::ds,vs,fp,s,h=>by
 let#[v,r,f1,f2,h1,rfl,h3,h4]:=h;exact#[v,r,f1,f2,h1,rfl,dj.mono e d v f1 (λb hb=>s b<|cF _ hb) h3,aX.mono e ds r f2 (λb hb=>s b<|bw _ hb) h4]
end
mutual
theorem dj.fix(e:bh F F'):∀(d:D) (v:V) (fp:L Addr),(∀a∈fp,F' a=H a)->dj K H F d v fp->bf K F' d v
|.g,v,fp,_,h=>h.1
|.e b,v,fp,_,h=>h.1
|.a i,v,fp,_,h=>h.1
|.c x,v,fp,_,h=>h.1
|.b o ds,v,fp,s,h=>by
 cases o with
 |true=>
  let#[a,vs,fs,h1,h2,h3,h4,rfl]:=h;exact#[a,vs,h1,.inl (by rw[s a aD];exact h2),h3,aX.fix e ds vs fs (λb hb=>s b<|az _ hb) h4]
 |false=>
  let#[h1,h2]:=h;exact bf.mono e _ v h1
|.d ds,v,fp,s,h=>by
 let#[a,vs,h1,h2,h3,h4]:=h;exact#[a,vs,h1,e _ _ h2,h3,aX.fix e ds vs fp s h4]
|.f o ks ds,v,fp,s,h=>by
 cases o with
 |true=>
  let#[a,vs,fs,h1,h2,h3,h4,h5,rfl]:=h;exact#[a,vs,h1,by rw[s a aD];exact h2,h3,h4,aX.fix e ds _ fs (λb hb=>s b<|az _ hb) h5]
 |false=>
  let#[h1,h2]:=h;exact bf.mono e _ v h1
|.h o ks ds,v,fp,s,h=>by
 cases o with
 |true=>
  let#[a,vs,fs,h1,h2,h3,h4,h5,rfl]:=h;exact#[a,vs,h1,by rw[s a aD];exact h2,h3,h4,aX.fix e ds _ fs (λb hb=>s b<|az _ hb) h5]
 |false=>
  let#[h1,h2]:=h;exact bf.mono e _ v h1
|.j,v,fp,s,h=>bf.mono e _ v h.1
|.i C ks ds,v,fp,s,h=>bf.mono e _ v h.1
theorem aX.fix(e:bh F F'):∀(ds:L D) (vs:L V) (fp:L Addr),(∀a∈fp,F' a=H a)->aX K H F ds vs fp->aR K F' ds vs
|[],vs,fp,_,h=>h.1
|d::ds,vs,fp,s,h=>by
 let#[v,r,f1,f2,h1,rfl,h3,h4]:=h;exact#[v,r,h1,dj.fix e d v f1 (λb hb=>s b<|cF _ hb) h3,aX.fix e ds r f2 (λb hb=>s b<|bw _ hb) h4]
end
def Mj:HO->Prop
|.a _=>True
|.c _=>True
|.d _=>True
|.j _ _ _=>True
|.e _=>True
|_=>bu
def EC(F' F:Hp):Prop:=∀b o,F' b=M o->F b=M o\/Mj o
def EC.tup{a:Addr}{xs:L V}(e:EC F' F)(h:F' a=M (.b xs)):F a=M (.b xs):=by
 rcases e a _ h with z|z
 .exact z
 .exact z.elim
mutual
theorem dj.less(e:EC F' F):∀(d:D) (v:V) (fp:L Addr),aV d=W->dj K H F' d v fp->dj K H F d v fp
|.g,v,fp,_,h=>h
|.e b,v,fp,_,h=>h
|.a i,v,fp,_,h=>h
|.c x,v,fp,_,h=>h
|.b o ds,v,fp,s,h=>by
 cases o with
 |true=>
  let#[a,vs,fs,h1,h2,h3,h4,rfl]:=h;exact fQ a #[vs,fs,h1,h2,h3,aX.less e ds vs fs s h4,rfl]
 |false=>cases s
|.d ds,v,fp,s,h=>by
 let#[a,vs,h1,h2,h3,h4]:=h;exact#[a,vs,h1,e.tup h2,h3,aX.less e ds vs fp s h4]
|.f o ks ds,v,fp,s,h=>by
 cases o with
 |true=>
  let#[a,vs,fs,h1,h2,h3,h4,h5,rfl]:=h;exact fQ a #[vs,fs,h1,h2,h3,h4,aX.less e ds _ fs s h5,rfl]
 |false=>cases s
|.h o ks ds,v,fp,s,h=>by
 cases o with
 |true=>
  let#[a,vs,fs,h1,h2,h3,h4,h5,rfl]:=h;exact fQ a #[vs,fs,h1,h2,h3,h4,aX.less e ds _ fs s h5,rfl]
 |false=>cases s
|.j,v,fp,s,h=>by cases s
|.i C ks ds,v,fp,s,h=>by cases s
theorem aX.less(e:EC F' F):∀(ds:L D) (vs:L V) (fp:L Addr),b9 ds=W->aX K H F' ds vs fp->aX K H F ds vs fp
|[],vs,fp,_,h=>h
|d::ds,vs,fp,s,h=>by
 have s':aV d=W/\b9 ds=W:=aS.mp s;let#[v,r,f1,f2,h1,rfl,h3,h4]:=h;exact#[v,r,f1,f2,h1,rfl,dj.less e d v f1 s'.1 h3,aX.less e ds r f2 s'.2 h4]
end
theorem aR.len:∀{ds:L D}{vs:L V},aR K H ds vs->zl vs=zl ds
|[],_,h=>by cases h;rfl
|d::ds,_,h=>by
 let#[v,r,rfl,_,h3]:=h;simp[aR.len h3]
theorem aX.len:∀{ds:L D}{vs:L V}{fp:L Addr},aX K H F ds vs fp->zl vs=zl ds
|[],_,_,h=>by cases h.1;rfl
|d::ds,_,_,h=>by
 let#[v,r,_,_,rfl,_,_,h3]:=h;simp[aX.len h3]
theorem aR.get:∀{ds:L D}{vs:L V} (i:Nat) {d:D},aR K H ds vs->ds[i]?=M d->∃v,vs[i]?=M v/\bf K H d v
|[],_,i,_,_,e=>by simp at e
|d::ds,_,0,_,h,e=>by
 let#[v,r,rfl,h2,_]:=h;simp at e;subst e;exact#[v,rfl,h2]
|d::ds,_,i+1,_,h,e=>by
 let#[v,r,rfl,_,h3]:=h;let#[w,e1,e2]:=aR.get i h3 (by simpa using e);exact#[w,by simpa using e1,e2]
theorem aR.app:∀{ds ds':L D}{vs vs':L V},aR K H ds vs->aR K H ds' vs'->aR K H (ds++ds') (vs++vs')
|[],_,_,_,h,h'=>by cases h;exact h'
|d::ds,_,_,_,h,h'=>by
 let#[v,r,rfl,h2,h3]:=h;exact#[v,_,rfl,h2,aR.app h3 h']
theorem aX.app:∀{ds ds':L D}{vs vs':L V}{f f':L Addr},aX K H F ds vs f->aX K H F ds' vs' f'->aX K H F (ds++ds') (vs++vs') (f++f')
|[],_,_,_,_,_,h,h'=>by let#[rfl,rfl]:=h;exact h'
|d::ds,_,_,_,_,_,h,h'=>by
 let#[v,r,f1,f2,rfl,rfl,h2,h3]:=h;exact#[v,_,f1,_,rfl,by simp,h2,aX.app h3 h']
def aX.one(h:dj K H F d v fp):aX K H F [d] [v] fp:=#[v,[],fp,[],rfl,by simp,h,rfl,rfl]
end
inductive R (α:Type) where
|c (a:α)|e (x:D)|d
noncomputable def R.bind{α β:Type}:R α->(α->R β)->R β
|.c a,f=>f a
|.e x,_=>.e x
|.d,_=>.d
noncomputable def R.opt{α:Type}:aah α->R α
|some a=>.c a
|none=>.d
noncomputable def R.ly{α:Type}:R α->R α
|.c a=>.c a
|_=>.d
noncomputable def R.bP{α:Type}(b:Bool)(r:R α):R α:=match b with
|true=>r
|false=>.d
instance (i j:Int):C1 (sV i j):=by unfold sV;infer_instance
instance (i j:Int):C1 (uG i j):=by unfold uG;infer_instance
instance (i j:Int):C1 (sU i j):=by unfold sU;infer_instance
noncomputable def v7:D->aah Key
|.a i=>M<|.inl i
|.c x=>M<|.inr x
|_=>B
def xE:L D->aah (L Key)
|[]=>M []
|d::r=>(v7 d).bind λk=>(xE r).map (k::·)
def lX:D->aah (L Key)
|.d xs=>xE xs
|_=>B
noncomputable def tT:Key->D
|.inl i=>.a i
|.inr x=>.c x
noncomputable def ia{κ:Type}[dz κ]:L κ->L D->κ->aah D
|k::ks,d::ds,q=>if k=q then M d else ia ks ds q
|_,_,_=>B
noncomputable def ji{κ:Type}[dz κ](ks:L κ)(q:κ):Bool:=ks.any λk=>decide<|k=q
noncomputable def nM{κ:Type}[dz κ]:L κ->L D->κ->D->L D
|k::ks,d::ds,q,x=>(if k=q then x else d)::nM ks ds q x
|_,_,_,_=>[]
noncomputable def yW(z:Str)(n:Nat):Str:=⟨(bl n z.cps.toList).flatten.toArray⟩
noncomputable def d_:D->Bool
|.g=>W
|_=>J
noncomputable def qB:D->Bool
|.e _=>W
|_=>J
noncomputable def tU:D->Bool
|.e W=>W
|_=>J
noncomputable def agm:L D->aah (L Str)
|[]=>M []
|.c x::r=>(agm r).map (x::·)
|_::_=>B
noncomputable def kY:L D->aah (L Int)
|[]=>M []
|.a x::r=>(kY r).map (x::·)
|_::_=>B
def mY(op:Ax)(x y:D):R D:=match x,y with
|.a i,.a j=>match op with
 |.Add=>.c<|.a<|i+j
 |.Sub=>.c<|.a<|i-j
 |.Mult=>.bP (decide<|sV i j)<|.c<|.a<|i*j
 |.FloorDiv=>.bP (decide<|uG i j)<|.c<|.a<|i / j
 |.Mod=>.bP (decide<|0<j)<|.c<|.a<|i%j
 |.Pow=>.bP (decide<|sU i j)<|.c<|.a<|i ^ j.toNat
 |_=>.d
|.c i,.c j=>match op with
 |.Add=>.bP (decide<|i.length+j.length<=ao)<|.c<|.c<|i++j
 |_=>.d
|.c i,.a j=>match op with
 |.Mult=>.bP (decide<|0<=j/\j<2 ^ 40/\i.length*j.toNat<=ao)<|.c<|.c<|yW i j.toNat
 |_=>.d
|.b _ xs,.b _ ys=>match op with
 |.Add=>.bP (decide<|xs.length+ys.length<=ao)<|.c<|.b W<|aH xs++aH ys
 |_=>.d
|.d xs,.d ys=>match op with
 |.Add=>.bP (!xs.isEmpty&&!ys.isEmpty&&decide (xs.length+ys.length<=ao))<|.c<|.d<|aH xs++aH ys
 |_=>.d
|.b _ xs,.a k=>match op with
 |.Mult=>.bP (decide<|(-(2 ^ 63)<=k/\k<2 ^ 63)/\xs.length*k.toNat<=ao)<|.c<|.b W (bl k.toNat<|aH xs).flatten
 |_=>.d
|_,_=>.d
noncomputable def aey(op:AE)(x y:D):R D:=match x,y with
|.a i,.a j=>match op with
 |.Lt=>.c<|.e<|decide<|i<j
 |.LtE=>.c<|.e<|decide<|i<=j
 |.Gt=>.c<|.e<|decide<|j<i
 |_=>.d
|_,_=>.d
noncomputable def u7:D->aah Int
|.a i=>M i
|_=>B
noncomputable def asS:D->aah Str
|.c x=>M x
|_=>B
noncomputable def BH:D->aah (L D)
|.b _ xs=>M xs
|_=>B
noncomputable def aez:D->aah (L Key×L D)
|.f _ ks xs=>M (ks,xs)
|_=>B
noncomputable def tw:L D->aah D
|[y]=>M y
|_=>B
noncomputable def Ml:L D->aah (D×D)
|[x,y]=>M (x,y)
|_=>B
def inD(x y:D):R Bool:=match y with
|.b _ ys=>.bP (gP x&&mF ys)<|.c<|memD x ys
|.d ys=>.bP (gP x&&mF ys)<|.c<|memD x ys
|.f _ ks _=>(R.opt<|v7 x).bind λk=>.c<|ji ks k
|.h _ ks _=>(R.opt<|lX x).bind λk=>.c<|ji ks k
|_=>.d
def gY(op:AE)(x y:D):R D:=match op with
|.Eq=>.bP (gP x&&gP y)<|.c<|.e<|k_ x y
|.NotEq=>.bP (gP x&&gP y)<|.c<|.e<|!k_ x y
|.Is=>.bP (d_ y)<|.c<|.e<|d_ x
|.IsNot=>.bP (d_ y)<|.c<|.e<|!d_ x
|.In=>(inD x y).bind λb=>.c<|.e b
|.NotIn=>(inD x y).bind λb=>.c<|.e<|!b
|op=>aey op x y
noncomputable def kB:D->R Bool
|.e b=>.c b
|_=>.d
def t_(x y:D):R D:=match x with
|.c z=>(R.opt<|u7 y).bind λi=>(R.opt<|fq z.cps.toList i).bind λc=>.c<|.c ⟨#[c]⟩
|.b _ xs=>(R.opt<|u7 y).bind λi=>(R.opt<|fq xs i).bind λd=>.c<|bW d
|.d xs=>(R.opt<|u7 y).bind λi=>(R.opt<|fq xs i).bind λd=>.c<|bW d
|.f _ ks xs=>(R.opt<|v7 y).bind λk=>(R.opt<|ia ks xs k).bind λd=>.c<|bW d
|.h _ ks xs=>(R.opt<|lX y).bind λk=>(R.opt<|ia ks xs k).bind λd=>.c<|bW d
|_=>.d
def Mm(x:D)(lo hi:aah Int):R D:=match x with
|.c z=>.c<|.c ⟨(cut z.cps.toList lo hi).toArray⟩
|.b _ xs=>.c<|.b W<|aH<|cut xs lo hi
|.d xs=>match lo,hi with
 |some n,B=>.bP (decide<|1<=n/\n<=zl xs)<|.c<|.d<|aH<|xs.drop n.toNat
 |_,_=>.d
|_=>.d
noncomputable def aeA:D->aah (L D)
|.d xs=>M xs
|_=>B
def pairD(d:D):aah (Key×D):=(aeA d).bind λxs=>(Ml xs).bind λp=>(v7 p.1).map λq=>(q,p.2)
def oE:L D->aah (L<|Key×D)
|[]=>M []
|x::r=>(pairD x).bind λp=>(oE r).map (p::·)
def tV:L D->aah (L<|L Key)
|[]=>M []
|d::r=>(lX d).bind λk=>(tV r).map (k::·)
def o_(ks:L<|L Key):L D:=(iQ ks).map λi=>D.d<|(ks.getD i []).map tT
noncomputable def asB:D->aah Bool
|.e b=>M b
|_=>B
noncomputable def aeB:D->aah (L<|L Key)
|.h _ ks _=>M ks
|_=>B
noncomputable def lenD:D->R D
|.c z=>.c<|.a z.length
|.b _ xs=>.c<|.a xs.length
|.d xs=>.c<|.a xs.length
|_=>.d
def jR(f:Bf)(vs:L D):R D:=match f with
|.d=>(R.opt<|Ml vs).bind λp=>(R.opt<|u7 p.1).bind λi=>(R.opt<|u7 p.2).bind λj=>.c (.a (if j>i then j else i))
|.a=>(R.opt<|tw vs).bind lenD
|.g=>(R.opt<|tw vs).bind λx=>(R.opt<|BH x).bind λxs=>.bP (xs.all qB)<|.c<|.e<|xs.all tU
|.j=>(R.opt<|tw vs).bind λx=>(R.opt<|BH x).bind λxs=>.bP (xs.all qB)<|.c<|.e<|xs.any tU
|.i=>(R.opt<|tw vs).bind λx=>(R.opt<|asB x).bind λb=>.c (.a (if b then 1 else 0))
|.c=>(R.opt<|tw vs).bind λx=>(R.opt<|BH x).bind λxs=>.c<|.b W<|aH xs
|.h=>(R.opt<|tw vs).bind λx=>(R.opt<|BH x).bind λxs=>.c<|.d<|aH xs
|.b=>(R.opt<|tw vs).bind λx=>(R.opt<|BH x).bind λxs=>(R.opt<|oE xs).bind λps=>.bP (decide (ps.map (·.1)).Nodup) (.c (.f W (ps.map (·.1)) (aH (ps.map (·.2)))))
|.e=>(R.opt<|tw vs).bind λx=>(R.opt<|aeB x).bind λks=>.bP (sortable ks)<|.c<|.b W<|o_ ks
noncomputable def BI(t:Ty):D->Bool
|.g=>J
|.e _=>decide (t=.f)||decide (t=.b)
|.a _=>decide<|t=.b
|.c _=>decide<|t=.d
|.b _ _=>decide (t=.e)||decide (t=.none)
|.d _=>decide (t=.a)||decide (t=.none)
|.f _ _ _=>decide<|t=.c
|.j=>J
|.h _ _ _=>decide<|t=.c
|.i _ _ _=>J
noncomputable def v8:D->Bool
|.a _=>W
|.d _=>W
|_=>J
def uM(m:Mt)(x:D)(vs:L D):R D:=match m with
|.b=>(R.opt<|BH x).bind λxs=>(R.opt<|tw vs).bind λy=>(R.opt<|u7 y).bind λk=>(R.opt<|kY xs).bind λns=>.bP (decide<|k∈ns)<|.c<|.a<|ns.idxOf k
|.c=>(R.opt<|aez x).bind λp=>(R.opt<|Ml vs).bind λq=>(R.opt<|v7 q.1).bind λk=>.c<|bW<|(ia p.1 p.2 k).getD q.2
|_=>.d
abbrev a_:=L<|aah D
inductive PG where
|h (d:D)
|a (m:L D->R D) (dds:L D)
|c (C:Addr)
|b (D:Addr) (Cs:L Addr)
|f (Cs:L Addr) (as:L Str)
|d (Cs:L Addr)
|g (m:L D->R D)
|e
inductive Fl where
|a (U:a_)|c (d:D)|f (U:a_)|e (U:a_)|d (x:D)|b
noncomputable def R.bG{α:Type}:R α->(α->Fl)->Fl
|.c a,f=>f a
|.e x,_=>.d x
|.d,_=>.b
noncomputable def R.pU{α:Type}(b:Bool):R α->(α->Fl)->Fl
|.c a,f=>f a
|.e x,_=>match b with
 |true=>.d x
 |false=>.b
|.d,_=>.b
noncomputable def PG.hand:PG->PG
|.a _ _=>.e
|.c _=>.e
|.g m=>.a m []
|p=>p
noncomputable def PG.alone:PG->PG
|.a _ _=>.e
|.c _=>.e
|.g _=>.e
|p=>p
noncomputable def BJ:V->R D
|.d=>.c .g
|.c b=>.c<|.e b
|.b i=>.c<|.a i
|.e x=>.c<|.c x
|_=>.d
noncomputable def gj(lo:Int)(n:Nat):L D:=(bg n).map λ(i:Nat)=>D.a<|lo+(i:Int)
def Mn(ds:L D):R D:=(R.opt<|Ml ds).bind λp=>(R.opt<|u7 p.1).bind λi=>(R.opt<|u7 p.2).bind λj=>.bP (decide<|-(2 ^ 62)<=i/\i<2 ^ 62/\-(2 ^ 62)<=j/\j<2 ^ 62/\(j-i).toNat<=2 ^ 24)<|.c<|.d<|gj i (j-i).toNat
noncomputable def Ac:L Key->L D->aah (L<|Str×Int)
|[],[]=>M []
|.inr x::ks,.a i::xs=>(Ac ks xs).map ((x,i)::·)
|_,_=>B
def Hz:D->R D
|.f _ ks xs=>(R.opt<|Ac ks xs).bind λps=>.bP (decide<|zl ps<64)<|.c<|.b W<|o_<|l0 ps
|_=>.d
def HA:D->R D
|.b _ xs=>(R.opt<|tV xs).bind λkss=>.bP (sortable kss&&decide (zl kss<=18))<|.c .j
|_=>.d
noncomputable def HC:D->R D
|.a n=>.bP (decide<|0<=n/\n.toNat<=2 ^ 24)<|.c<|.b W<|(bg n.toNat).map λ(k:Nat)=>D.a (k:Int)
|_=>.d
def W8:D->R D
|.b _ xs=>.c<|.b W<|aH xs.reverse
|_=>.d
noncomputable def aeC:L D->L D->L D
|x::xs,y::ys=>.d [x,y]::aeC xs ys
|_,_=>[]
noncomputable def lH:Nat->L D->L D
|_,[]=>[]
|n,x::r=>.d [.a (n:Int),x]::lH (n+1) r
def yh:D->R (L D)
|.b _ xs=>.c<|aH xs
|.d xs=>.c<|aH xs
|_=>.d
def BK(xs:L D):R (L D):=(R.opt<|tw xs).bind λx=>(R.opt<|u7 x).bind λj=>.bP (decide<|-(2 ^ 62)<=j/\j.toNat<=ao)<|.c<|gj 0 j.toNat
noncomputable def eB(g:D->a_->R a_)(c:a_->R Bool)(e:a_->R D):L D->a_->R (L D)
|[],_=>.c []
|d::r,U=>(g d U).bind fun σ2=>(c σ2).bind λb=>if b=W then(e σ2).bind λy=>(eB g c e r σ2).bind λys=>.c (y::ys)else eB g c e r σ2
noncomputable def forR(g:D->a_->R a_)(b:a_->Fl):L D->a_->Fl
|[],U=>.a U
|d::r,U=>(g d U).bG fun σ2=>match b σ2 with
 |.a σ3=>forR g b r σ3
 |.e σ3=>forR g b r σ3
 |.f σ3=>.a σ3
 |.c d=>.c d
 |.d x=>.d x
 |.b=>.b
noncomputable def v9(c:a_->R Bool)(b:a_->Fl):Nat->a_->Fl
|0,_=>.b
|n+1,U=>(c U).bG λk=>if k=W then match b U with
 |.a σ3=>v9 c b n σ3
 |.e σ3=>v9 c b n σ3
 |.f σ3=>.a σ3
 |.c d=>.c d
 |.d x=>.d x
 |.b=>.b
 else .a U
noncomputable def aeD:aah PG->aah (Addr×L Addr)
|some (.b D Cs)=>M (D,Cs)
|_=>B
def HD(Y:L PG):L Nat->aah Addr->aah Bool
|[],_=>M J
|g::r,c=>(aeD Y[g]?).bind λp=>match c with
 |none=>HD Y r c
 |some C=>if C∈p.2 then(if C=p.1 then M W else HD Y r c)else B
noncomputable def W9(Y:L PG)(gs:L Nat):Bool:=gs.all λg=>match Y[g]? with
|some (.b _ _)=>W
|_=>J
def yi(Y:L PG)(gs:L Nat)(x:D):R Bool:=.bP (!gs.isEmpty&&decide (zl gs<=1000)&&W9 Y gs) (match x with
|.g=>R.opt<|HD Y gs B
|.i C _ _=>R.opt<|HD Y gs<|M C
|_=>.d)
noncomputable def yj(Y:L PG)(g:Nat)(x:D):R Bool:=match Y[g]? with
|some (.f Cs _)=>match x with
 |.g=>.c J
 |.i C _ _=>.bP (decide<|C∈Cs)<|.c W
 |_=>.d
|_=>.d
def HE:D->aah Str
|.c x=>M x
|.a i=>if i.natAbs.log2<1920 then M (adU i)else B
|_=>B
def T4(U:a_):L (Str×Nat)->Str->aah Str
|[],a=>M a
|p::r,a=>match U[p.2]? with
 |some (M d)=>(HE d).bind λy=>T4 U r<|a++p.1++y
 |_=>B
def Ad:D->R D
|.b _ ds=>match kY ds with
 |some ss=>.bP (decide<|zl ss<4000)<|.c<|.a<|zl<|kX ss
 |none=>.d
|_=>.d
mutual
noncomputable def pE(Y:L PG):CE->a_->R D
|.a i=>λU=>match U[i]? with
 |some (M d)=>.c<|bW d
 |_=>.d
|.e v=>λ_=>BJ v
|.g op a b=>λU=>(pE Y a U).bind λx=>(pE Y b U).bind λy=>mY op x y
|.y a=>λU=>(pE Y a U).bind λx=>Ad x
|.m a=>λU=>(pE Y a U).bind λx=>match x with
 |.a i=>.c<|.a<|-i
 |_=>.d
|.p a=>λU=>(pE Y a U).bind λx=>(kB x).bind λb=>.c<|.e<|!b
|.l a b=>λU=>(pE Y a U).bind λx=>match x with
 |.e c=>if c=W then pE Y b U else .c (.e J)
 |_=>.d
|.o a b=>λU=>(pE Y a U).bind λx=>match x with
 |.e c=>if c=W then .c (.e W)else pE Y b U
 |_=>.d
|.q c a b=>λU=>(pT Y c U).bind λk=>if k=W then pE Y a U else pE Y b U
|.d op a b=>λU=>(pE Y a U).bind λx=>(pE Y b U).bind λy=>gY op x y
|.t o1 o2 a b c=>λU=>(pE Y a U).bind λx=>(pE Y b U).bind λy=>(gY o1 x y).bind λz=>match z with
 |.e k=>if k=W then(pE Y c U).bind λu=>gY o2 y u else .c (.e J)
 |_=>.d
|.c g as=>λU=>match Y[g]? with
 |some (.a m dds)=>(ic Y as U).bind λds=>m<|aH ds++dds
 |_=>.d
|.h f as=>λU=>(ic Y as U).bind λds=>jR f ds
|.v a t=>λU=>(pE Y a U).bind λx=>.bP (v8 x)<|.c<|.e<|BI t x
|.i m o as=>λU=>(pE Y o U).bind λx=>(ic Y as U).ly.bind λds=>uM m x ds
|.b a b=>λU=>(pE Y a U).bind λx=>(pE Y b U).bind λy=>t_ x y
|.r a lo hi=>λU=>(pE Y a U).bind λx=>(pO Y lo U).bind λl=>(pO Y hi U).bind λh=>Mm x l h
|.k as=>λU=>(ic Y as U).bind λds=>.bP (decide<|zl ds<=ao)<|.c<|.b W ds
|.f as=>λU=>(ic Y as U).bind λds=>.bP (decide<|zl ds<=ao)<|.c<|.d ds
|.ab=>λ_=>.c<|.f W [] []
|.j nl fr elt tg src cond=>λU=>(pI Y src U).bind λitems=>(eB (pG tg) (pC Y cond) (pE Y elt) items.2<|nl.map (λ_=>B)++fr.map λi=>U.getD i B).ly.bind λds=>.c<|.b W ds
|.n _ gs a=>λU=>(pE Y a U).bind λx=>(yi Y gs x).bind λb=>.c<|.e b
|.s g a=>λU=>(pE Y a U).bind λx=>(yj Y g x).bind λb=>.c<|.e b
|.w=>λ_=>.c<|.h W [] []
|.z as=>λU=>(ic Y as U).bind λds=>Mn ds
|.u a=>λU=>(pE Y a U).bind λx=>Hz x
|.ac a=>λU=>(pE Y a U).bind λx=>W8 x
|.aa a=>λU=>(pE Y a U).bind λx=>HC x
|.x a=>λU=>(pE Y a U).bind λx=>HA x
noncomputable def pT(Y:L PG):CE->a_->R Bool
|.p a=>λU=>(pT Y a U).bind λb=>.c<|!b
|.l a b=>λU=>(pT Y a U).bind λc=>if c=W then pT Y b U else .c J
|.o a b=>λU=>(pT Y a U).bind λc=>if c=W then .c W else pT Y b U
|.q c a b=>λU=>(pT Y c U).bind λk=>if k=W then pT Y a U else pT Y b U
|.d op a b=>λU=>(pE Y a U).bind λx=>(pE Y b U).bind λy=>(gY op x y).bind λz=>match z with
 |.e k=>.c k
 |_=>.d
|.t o1 o2 a b c=>λU=>(pE Y a U).bind λx=>(pE Y b U).bind λy=>(gY o1 x y).bind λz=>match z with
 |.e k=>if k=W then(pE Y c U).bind λu=>(gY o2 y u).bind λz=>match z with
  |.e k=>.c k
  |_=>.d
  else .c J
 |_=>.d
|.a i=>λU=>match U[i]? with
 |some (M d)=>kB d
 |_=>.d
|.b a b=>λU=>((pE Y a U).bind λx=>(pE Y b U).bind λy=>t_ x y).bind kB
|.c g as=>λU=>match Y[g]? with
 |some (.a m dds)=>((ic Y as U).bind λds=>m<|aH ds++dds).bind kB
 |_=>.d
|.h f as=>λU=>((ic Y as U).bind λds=>jR f ds).bind kB
|.v a t=>λU=>(pE Y a U).bind λx=>.bP (v8 x)<|.c<|BI t x
|.i m o as=>λU=>(pE Y o U).bind λx=>(ic Y as U).ly.bind λds=>(uM m x ds).bind kB
|.n _ gs a=>λU=>(pE Y a U).bind λx=>yi Y gs x
|.s g a=>λU=>(pE Y a U).bind λx=>yj Y g x
|_=>λ_=>.d
noncomputable def ic(Y:L PG):jQ->a_->R (L D)
|.nil=>λ_=>.c []
|.cons a r=>λU=>(pE Y a U).bind λx=>(ic Y r U).bind λxs=>.c (x::xs)
noncomputable def pO(Y:L PG):CO->a_->R (aah Int)
|.none=>λ_=>.c B
|.some a=>λU=>(pE Y a U).bind λx=>match x with
 |.a i=>.c<|M i
 |_=>.d
noncomputable def pC(Y:L PG):CO->a_->R Bool
|.none=>λ_=>.c W
|.some a=>pT Y a
noncomputable def pG:CG->D->a_->R a_
|.a i=>λd U=>.c<|U.set i<|M d
|.b gs=>λd U=>match d with
 |.d ds=>.bP (decide<|zl ds=gs.len)<|AU gs ds U
 |_=>.d
|.c _ _=>λ_ _=>.d
noncomputable def AU:vU->L D->a_->R a_
|.nil=>λds U=>match ds with
 |[]=>.c U
 |_=>.d
|.cons g r=>λds U=>match ds with
 |d::dr=>(pG g d U).bind fun σ'=>AU r dr σ'
 |_=>.d
noncomputable def pI(Y:L PG):CI->a_->R (Bool×L D)
|.a a=>λU=>(pE Y a U).bind λx=>(yh x).bind λds=>.c (aV x,ds)
|.b as=>λU=>(ic Y as U).bind λxs=>(BK xs).bind λds=>.c (W,ds)
|.c a=>λU=>(pE Y a U).bind λx=>match x with
 |.b _ xs=>.c (aV x,lH 0<|aH xs)
 |_=>.d
|.d a=>λU=>(pE Y a U).bind λx=>match x with
 |.b _ xs=>.c (aV x,(aH xs).reverse)
 |_=>.d
end
mutual
noncomputable def eF:CE->Bool
|.e v=>match v with
 |.e x=>decide<|x.length<=ao
 |_=>W
|.g _ a b=>eF a&&eF b
|.y a=>eF a
|.m a=>eF a
|.p a=>eF a
|.l a b=>eF a&&eF b
|.o a b=>eF a&&eF b
|.q c a b=>eF c&&(eF a&&eF b)
|.d _ a b=>eF a&&eF b
|.t _ _ a b c=>eF a&&(eF b&&eF c)
|.c _ as=>nN as
|.h _ as=>nN as
|.v a _=>eF a
|.i _ o as=>eF o&&nN as
|.b a b=>eF a&&eF b
|.r a lo hi=>eF a&&(T5 lo&&T5 hi)
|.k as=>nN as
|.f as=>nN as
|.j _ _ elt _ src cond=>eF elt&&(ltI src&&T5 cond)
|.n _ _ a=>eF a
|.s _ a=>eF a
|.w=>W
|.z as=>nN as
|.u a=>eF a
|.ac a=>eF a
|.aa a=>eF a
|.x a=>eF a
|_=>W
noncomputable def nN:jQ->Bool
|.nil=>W
|.cons a r=>eF a&&nN r
noncomputable def T5:CO->Bool
|.none=>W
|.some a=>eF a
noncomputable def ltI:CI->Bool
|.a a=>eF a
|.b as=>nN as
|.c a=>eF a
|.d a=>eF a
end
noncomputable def xZ:Bf->jQ->Bool
|.a,#v[.a _]=>W
|_,_=>J
mutual
noncomputable def cz:CE->L Nat
|.a i=>[i]
|.e _=>[]
|.g _ a b=>cz a++cz b
|.y a=>cz a
|.m a=>cz a
|.p a=>cz a
|.l a b=>cz a++cz b
|.o a b=>cz a++cz b
|.q c a b=>cz c++(cz a++cz b)
|.d _ a b=>cz a++cz b
|.t _ _ a b c=>cz a++(cz b++cz c)
|.c _ as=>jA as
|.h f as=>if xZ f as=W then[]else jA as
|.v a _=>cz a
|.i _ o as=>cz o++jA as
|.b a b=>cz a++cz b
|.r a lo hi=>cz a++(ZZ lo++ZZ hi)
|.k as=>jA as
|.f as=>jA as
|.ab=>[]
|.j _ fr _ _ src _=>ua src++fr
|.n _ _ a=>cz a
|.s _ a=>cz a
|.w=>[]
|.z as=>jA as
|.u a=>cz a
|.ac a=>cz a
|.aa a=>cz a
|.x a=>cz a
noncomputable def jA:jQ->L Nat
|.nil=>[]
|.cons a r=>cz a++jA r
noncomputable def ZZ:CO->L Nat
|.none=>[]
|.some a=>cz a
noncomputable def ua:CI->L Nat
|.a a=>cz a
|.b as=>jA as
|.c a=>cz a
|.d a=>cz a
end
def NT:aah HO->Prop
|none=>True
|some (.b _)=>True
|_=>bu
def NT.of(h:o=B):NT o:=by rw[h];trivial
def NT.own(h:NT o)(e:o=M u)(k:Mj u):bu:=by
 subst e;cases u<;>first|exact h.elim|exact k.elim
structure bX (F H F' H':Hp):Prop where
 h:bh H H'
 f:bh F F'
 s:bh F' H'
 n:∀b o,F' b=M o->F b=B->NT (H b)
structure jC (fp:L Addr) (H F':Hp):Prop where
 nd:fp.Nodup
 nh:∀a∈fp,H a=B
 nf:∀a∈fp,F' a=B
section
variable{K:ak}{H H1 H2 F F1 F2:Hp}
def bX.refl(s:bh F H):bX F H F H:=#[bh.refl _,bh.refl _,s,λb o h h'=>by rw[h]at h';cases h']
def bh.none(e:bh H H1)(h:H1 a=B):H a=B:=by
 cases q:H a with
 |none=>rfl
 |some o=>rw[e a o q]at h;cases h
def NT.back(e:bh H H1)(h:NT<|H1 a):NT (H a):=by
 cases q:H a with
 |none=>trivial
 |some o=>rw[e a o q]at h;exact h
def bX.trans(g:bX F H F1 H1)(g':bX F1 H1 F2 H2):bX F H F2 H2:=#[g.h.trans g'.h,g.f.trans g'.f,g'.s,λb o h h'=>by
 cases q:F1 b with
 |none=>exact NT.back g.h<|g'.n b o h q
 |some u=>exact g.n b u q h']
def jC.nil:jC [] H F:=#[gz,λ_ h=>aC h aO,λ_ h=>aC h aO]
mutual
theorem dj.ex:∀(d:D) (v:V) (fp:L Addr),dj K H F d v fp->∀a∈fp,∃o,H a=M o/\Mj o
|.g,v,fp,h=>by rw[h.2];intro a ha;cases ha
|.e b,v,fp,h=>by rw[h.2];intro a ha;cases ha
|.a i,v,fp,h=>by rw[h.2];intro a ha;cases ha
|.c x,v,fp,h=>by rw[h.2];intro a ha;cases ha
|.b o ds,v,fp,h=>by
 cases o with
 |true=>
  let#[a,vs,fs,h1,h2,h3,h4,rfl]:=h;intro b hb;rcases aY.mp hb with rfl|hb
  .exact#[_,h2,trivial]
  .exact aX.ex ds vs fs h4 b hb
 |false=>
  let#[_,rfl]:=h;intro a ha;cases ha
|.d ds,v,fp,h=>by
 let#[a,vs,h1,h2,h3,h4]:=h;exact aX.ex ds vs fp h4
|.f o ks ds,v,fp,h=>by
 cases o with
 |true=>
  let#[a,vs,fs,h1,h2,h3,h4,h5,rfl]:=h;intro b hb;rcases aY.mp hb with rfl|hb
  .exact#[_,h2,trivial]
  .exact aX.ex ds _ fs h5 b hb
 |false=>
  let#[_,rfl]:=h;intro a ha;cases ha
|.h o ks ds,v,fp,h=>by
 cases o with
 |true=>
  let#[a,vs,fs,h1,h2,h3,h4,h5,rfl]:=h;intro b hb;rcases aY.mp hb with rfl|hb
  .exact#[_,h2,trivial]
  .exact aX.ex ds _ fs h5 b hb
 |false=>
  let#[_,rfl]:=h;intro a ha;cases ha
|.j,v,fp,h=>by rw[h.2];intro a ha;cases ha
|.i C ks ds,v,fp,h=>by rw[h.2];intro a ha;cases ha
theorem aX.ex:∀(ds:L D) (vs:L V) (fp:L Addr),aX K H F ds vs fp->∀a∈fp,∃o,H a=M o/\Mj o
|[],vs,fp,h=>by rw[h.2];intro a ha;cases ha
|d::ds,vs,fp,h=>by
 let#[v,r,f1,f2,h1,rfl,h3,h4]:=h;intro a ha;rcases bC.mp ha with ha|ha
 .exact dj.ex d v f1 h3 a ha
 .exact aX.ex ds r f2 h4 a ha
end
noncomputable def adopt(F H:Hp)(fp:L Addr):Hp:=λb=>if b∈fp then H b else F b
def m6(h:a∈fp):adopt F H fp a=H a:=aQ h
def lI(h:a∉fp):adopt F H fp a=F a:=aE h
def gh(s:bh F H):bh F (adopt F H fp):=λb o h=>by
 by_cases q:b∈fp
 .rw[m6 q];exact s b o h
 .rw[lI q];exact h
def i0(s:bh F H):bh (adopt F H fp) H:=λb o h=>by
 by_cases q:b∈fp
 .rw[m6 q]at h;exact h
 .rw[lI q]at h;exact s b o h
def vo(g:bX F H F1 H1)(n:∀a∈fp,H a=B):bX F H (adopt F1 H1 fp) H1:=#[g.h,g.f.trans<|gh g.s,i0 g.s,λb o h h'=>by
 by_cases q:b∈fp
 .exact .of (n b q)
 .rw[lI q]at h;exact g.n b o h h']
def W_(g:bX F H F1 H1)(fr:jC fp H F1)(r:dj K H1 F1 d v fp):∃F2,bX F H F2 H1/\bh F1 F2/\bf K F2 d v:=
 #[adopt F1 H1 fp,vo g fr.nh,gh g.s,dj.fix (gh g.s) d v fp (λ_ ha=>m6 ha) r]
def K0(g:bX F H F1 H1)(fr:jC fp H F1)(r:aX K H1 F1 ds vs fp):∃F2,bX F H F2 H1/\bh F1 F2/\aR K F2 ds vs:=
 #[adopt F1 H1 fp,vo g fr.nh,gh g.s,aX.fix (gh g.s) ds vs fp (λ_ ha=>m6 ha) r]
def carry(g:bX F1 H1 F2 H2)(fr:jC fp H F1)(r:dj K H1 F1 d v fp):dj K H2 F2 d v fp/\(∀a∈fp,F2 a=B):=by
 refine#[dj.mono g.f d v fp (λa ha=>?_) r,λa ha=>?_]
 .obtain⟨o,e,_⟩:=dj.ex d v fp r a ha;rw[e,g.h a o e]
 .obtain⟨o,e,k⟩:=dj.ex d v fp r a ha;cases q:F2 a with
  |none=>rfl
  |some u=>exact((g.n a u q<|fr.nf a ha).own e k).elim
def aeE(g:bX F1 H1 F2 H2)(fr:jC fp H F1)(r:aX K H1 F1 ds vs fp):aX K H2 F2 ds vs fp/\(∀a∈fp,F2 a=B):=by
 refine#[aX.mono g.f ds vs fp (λa ha=>?_) r,λa ha=>?_]
 .obtain⟨o,e,_⟩:=aX.ex ds vs fp r a ha;rw[e,g.h a o e]
 .obtain⟨o,e,k⟩:=aX.ex ds vs fp r a ha;cases q:F2 a with
  |none=>rfl
  |some u=>exact((g.n a u q<|fr.nf a ha).own e k).elim
def jC.app(s:bh H H1)(a1:jC f1 H F1)(e1:∀a∈f1,∃o,H1 a=M o)(k1:∀a∈f1,F2 a=B)(a2:jC f2 H1 F2):jC (f1++f2) H F2:=by
 refine#[cE.mpr #[a1.nd,a2.nd,λa h1 b h2 z=>?_],λa ha=>?_,λa ha=>?_]
 .subst z;let#[o,e]:=e1 a h1;rw[a2.nh a h2]at e;cases e
 .rcases bC.mp ha with h|h
  .exact a1.nh a h
  .exact bh.none s (a2.nh a h)
 .rcases bC.mp ha with h|h
  .exact k1 a h
  .exact a2.nf a h
def newList{vs:L V}(s:bh F H)(hp:H p=B):bX F H F (upd H p o)/\F p=B:=by
 have hf:=bh.none s hp;refine#[#[λb u q=>by rw[bq<|bZ q hp];exact q,bh.refl _,λb u q=>by rw[bq<|bZ q hf];exact s b u q,λb o h h'=>by rw[h]at h';cases h'],hf]
def BL(s:bh F H)(hp:H p=B):bX F H (upd F p o) (upd H p o):=by
 have hf:=bh.none s hp;refine#[λb u q=>by rw[bq<|bZ q hp];exact q,λb u q=>by rw[bq<|bZ q hf];exact q,λb u q=>?_,λb u q q'=>?_]
 .by_cases e:b=p
  .subst e;rw[c5]at q ⊢;exact q
  .rw[bq e]at q ⊢;exact s b u q
 .by_cases e:b=p
  .subst e;exact .of hp
  .rw[bq e]at q;rw[q]at q';cases q'
end
class Ex where
 E:XK
def mG[Ex](K:ak)(F H:Hp)(x:D):Prop:=match x with
|.i C ks xs=>∀F' H' od vs,bX F H F' H'->Xd F' od (ks.zip vs)->aR K F' xs vs->Ex.E (.ref C) od H'
|_=>bu
def mG.grow[Ex]{K:ak}{F H F1 H1:Hp}{x:D}(h:mG K F H x)(g:bX F H F1 H1):mG K F1 H1 x:=by
 cases x with
 |i C ks xs=>exact λF' H' d vs g'=>h F' H' d vs<|g.trans g'
 |_=>exact h
def PV[Ex](K:ak)(F H:Hp)(r:R D)(Q:VK):Prop:=match r with
|.c d=>∀F' H' v fp,bX F H F' H'->jC fp H F'->dj K H' F' d v fp->Q v H'
|.e x=>mG K F H x
|.d=>bu
def AV[Ex](K:ak)(F H:Hp)(r:R<|L D)(Q:L V->Hp->Prop):Prop:=match r with
|.c ds=>∀F' H' vs fp,bX F H F' H'->jC fp H F'->aX K H' F' ds vs fp->Q vs H'
|.e x=>mG K F H x
|.d=>bu
def PB[Ex]{α:Type}(K:ak)(F H:Hp)(r:R α)(Q:α->Hp->Prop):Prop:=match r with
|.c b=>∀F' H',bX F H F' H'->Q b H'
|.e x=>mG K F H x
|.d=>bu
def ItF(K:ak)(F:Hp)(d:D):Item->Prop
|.v x=>bf K F d x
|.a xs=>∃ds,d=.d ds/\aR K F ds xs/\zl xs<=ao
def l5(K:ak)(F:Hp):L D->L Item->Prop
|[],its=>its=[]
|d::ds,its=>∃it r,its=it::r/\ItF K F d it/\l5 K F ds r
noncomputable def minus(F:Hp)(A:L Addr):Hp:=λb=>if b∈A then B else F b
def vp(own:Bool)(F:Hp)(A:L Addr):Hp:=if own=W then minus F A else F
def PI'[Ex](K:ak)(A:L Addr)(F H:Hp)(r:R<|Bool×L D)(k:(Hp->Prop)->L Item->Hp->Prop):Prop:=match r with
|.c ds=>∀F' H' ok its,bX F H F' H'->(∀H'',bh (vp ds.1 F' A) H''->ok H'')->l5 K (vp ds.1 F' A) ds.2 its->zl ds.2<=ao->k ok its H'
|.e x=>mG K F H x
|.d=>bu
def Xa(K:ak)(H:Hp)(O:a_)(U:L2.St):Prop:=∀(k:Nat) d,O[k]?=M (M d)->∃v F',U[k]?=M (M v)/\bh F' H/\bf K F' d v
structure lA (K:ak) (F H:Hp) (is:L Nat) (O:a_) (U:L2.St):Prop where
 e:∀i∈is,∀d,O[i]?=M (M d)->∃v,U[i]?=M (M v)/\bf K F d v
 n:Xa K H O U
def cZ(K:ak)(m:L D->R D):Sp:=λvs H Q E=>∃F ds,bh F H/\aH ds=ds/\aR K F ds vs/\@PV ⟨E⟩ K F H (m ds) Q
def Xb(K:ak):PG->G->Prop
|.h d,.j v=>bf K (λ_=>B) d v
|.h d,.k a _=>bf K (λ_=>B) d<|.a a
|.a m dds,.a sp dvs=>(∀vs H Q E,cZ K m vs H Q E->sp vs H Q E)/\aH dds=dds/\aR K (λ_=>B) dds dvs
|.c C,.b C'=>C=C'
|.b D Cs,.c D' Cs'=>D=D'/\Cs=Cs'
|.f Cs as,.h Cs' as'=>Cs=Cs'/\as=as'
|.g m,.d sp=>∀vs H Q E,cZ K m vs H Q E->sp vs H Q E
|.d Cs,.i aaf Cs'=>Cs=Cs'/\∀C∈Cs,iy K C (.ref aaf)=M W
|.e,.f=>True
|_,_=>bu
def d7(K:ak):L PG->L G->Prop
|p::ps,gs=>∃g r,gs=g::r/\Xb K p g/\d7 K ps r
|[],_=>True
theorem d7.hand:∀{ps:L PG}{gs:L G},d7 K ps gs->d7 K (ps.map PG.hand) (gs.map<|G.hand e)
|[],_,_=>trivial
|p::ps,_,h=>by
 let#[g,r,rfl,h2,h3]:=h;refine#[_,_,rfl,?_,d7.hand h3];cases p<;>cases g<;>first|exact h2|exact trivial|exact h2.elim|exact⟨h2,rfl,rfl⟩
theorem d7.alone{K:ak}:∀{ps:L PG}{gs:L G},d7 K ps gs->d7 K (ps.map PG.alone) (gs.map G.alone)
|[],_,_=>trivial
|p::ps,_,h=>by
 let#[g,r,rfl,h2,h3]:=h;refine#[_,_,rfl,?_,d7.alone h3];cases p<;>cases g<;>first|exact h2|exact trivial|exact h2.elim
theorem d7.get:∀{ps:L PG}{gs:L G} (i:Nat) {p:PG},d7 K ps gs->ps[i]?=M p->∃g,gs[i]?=M g/\Xb K p g
|[],_,i,_,_,e=>by simp at e
|p::ps,_,0,_,h,e=>by
 let#[g,r,rfl,h2,_]:=h;simp at e;subst e;exact#[g,rfl,h2]
|p::ps,_,i+1,_,h,e=>by
 let#[g,r,rfl,_,h3]:=h;let#[w,e1,e2]:=d7.get i h3 (by simpa using e);exact#[w,by simpa using e1,e2]
def jt(h:b∉A):minus F A b=F b:=aE h
def ED(h:b∈A):minus F A b=B:=aQ h
theorem Je(F:Hp):minus F []=F:=by rfl
def T6(o:Bool)(F:Hp):vp o F []=F:=by unfold vp;rw[Je];split<;>rfl
def qZ(F:Hp)(A:L Addr):bh (minus F A) F:=λb o h=>by
 by_cases q:b∈A
 .rw[ED q]at h;cases h
 .rw[jt q]at h;exact h
def BO(o:Bool)(F:Hp)(A:L Addr):bh (vp o F A) F:=by
 unfold vp;split
 .exact qZ F A
 .exact bh.refl F
def q_(H:Hp)(A:L Addr):Prop:=∀a∈A,∃o,H a=M o/\Mj o
def rN(s:bh F H)(h:q_ H A):EC F (minus F A):=λb o q=>by
 by_cases z:b∈A
 .obtain⟨u,e,k⟩:=h b z;rw[s b o q]at e;cases e;exact .inr k
 .exact .inl (by rw[jt z];exact q)
def q_.mono(s:bh H H')(h:q_ H A):q_ H' A:=λa ha=>by
 let#[o,e,k]:=h a ha;exact#[o,s a o e,k]
def Xc(hA:q_ H A)(g:bX F H F1 H1)(fr:jC fp H F1)(r:dj K H1 F1 d v fp):∃F2,bX F H F2 H1/\bf K (vp (aV d) F2 A) d v:=by
 have g2:=vo g fr.nh;refine#[adopt F1 H1 fp,g2,?_];unfold vp;by_cases ho:aV d=W
 .rw[aQ ho];have r2:=dj.less (rN g.s<|hA.mono g.h) d v fp ho r;refine dj.fix ?_ d v fp ?_ r2
  .intro b o q;by_cases z:b∈A
   .rw[ED z]at q;cases q
   .rw[jt z]at q ⊢;exact gh g.s b o q
  .intro a ha;have z:a∉A:=λz=>by
    let#[o,e,_]:=hA a z;rw[fr.nh a ha]at e;cases e
   rw[jt z,m6 ha]
 .rw[aE ho];exact dj.fix (gh g.s) d v fp (λ_ ha=>m6 ha) r
section
variable{K:ak}{H H1 F F1:Hp}{O:a_}{U:L2.St}
def lA.l(h:lA K F H (a++b) O U):lA K F H a O U:=#[λi hi=>h.e i<|cF _ hi,h.n]
def lA.r(h:lA K F H (a++b) O U):lA K F H b O U:=#[λi hi=>h.e i<|bw _ hi,h.n]
def lA.mono(h:lA K F H a O U)(g:bX F H F1 H1):lA K F1 H1 a O U:=#[λi hi d hd=>by
 let#[v,h1,h2]:=h.e i hi d hd;exact#[v,h1,bf.mono g.f d v h2],λk d e=>by
 let#[v,F',h1,h2,h3]:=h.n k d e;exact#[v,F',h1,h2.trans g.h,h3]]
def PV.int[Ex](h:PV K F H (.c<|.a n) Q)(s:bh F H):PV K F' H (.c<|.a n) Q:=λF2 H2 v fp g fr r=>by
 let#[rfl,rfl]:=r;exact h F H2 _ [] #[g.h,bh.refl _,s.trans g.h,λb o q q'=>by rw[q]at q';cases q'] .nil #[rfl,rfl]
def PV.grow[Ex](h:PV K F H r Q)(g:bX F H F1 H1):PV K F1 H1 r Q:=by
 cases r with
 |c d=>exact λF' H' v fp g' fr rx=>h F' H' v fp (g.trans g') #[fr.nd,λa ha=>bh.none g.h<|fr.nh a ha,fr.nf] rx
 |e x=>exact mG.grow (K:=K) (x:=x) h g
 |d=>exact h
def PB.grow[Ex]{α:Type}{r:R α}{Q:α->Hp->Prop}(h:PB K F H r Q)(g:bX F H F1 H1):PB K F1 H1 r Q:=by
 cases r with
 |c d=>exact λF' H' g'=>h F' H'<|g.trans g'
 |e x=>exact mG.grow (K:=K) (x:=x) h g
 |d=>exact h
def PV.here[Ex](h:PV K F H (.c<|bW d) Q)(s:bh F H)(r:bf K F d v):Q v H:=h F H v [] (bX.refl s) .nil<|bf.AS d v r
def PV.flat[Ex](h:PV K F H (.c d) Q)(s:bh F H)(r:dj K H F d v []):Q v H:=h F H v [] (bX.refl s) .nil r
def oF{α:Type}{r:R α}{a:α}(h:R.bP b r=.c a):b=W/\r=.c a:=by
 cases b with
 |true=>exact#[rfl,h]
 |false=>cases h
def PV.bP[Ex](h:PV K F H (R.bP b r) Q):b=W/\PV K F H r Q:=by
 cases b with
 |true=>exact#[rfl,h]
 |false=>cases h
def PB.bP[Ex]{α:Type}{b:Bool}{r:R α}{Q:α->Hp->Prop}(h:PB K F H (R.bP b r) Q):b=W/\PB K F H r Q:=by
 cases b with
 |true=>exact#[rfl,h]
 |false=>cases h
end
theorem szl:ao=16777216:=by rfl
theorem Pb(x:Str):x.cps.toList.length=x.length:=by rfl
theorem T7(l:L Nat):(⟨l.toArray⟩:Str).length=l.length:=by rfl
def Q3(z:Str)(n:Nat):(yW z n).length=z.length*n:=by
 unfold yW;rw[T7];induction n with
 |zero=>simp
 |succ n ih=>rw[eN,gJ,aW,ih,Pb,NI,NJ]
def Pc{α:Type}(l:L α)(lo hi:aah Int):zl (cut l lo hi)<=zl l:=by
 unfold cut;rw[fC,eV]
 lia
def vC{α:Type}{xs:L α}{i:Int}{x:α}(h:fq xs i=M x):∃j,nS (zl xs) i=M j/\xs[j]?=M x:=by
 unfold fq at h;cases q:nS (zl xs) i with
 |none=>simp_all
 |some j=>simp_all
def FI{α:Type}{xs:L α}{i:Int}{j:Nat}{x:α}(h:nS (zl xs) i=M j)(e:xs[j]?=M x):fq xs i=M x:=by
 unfold fq;rw[h];exact e
def R.cg{α:Type}(r:R α):Prop:=∀x,r≠.e x
def cg.ok{α:Type}{a:α}:(R.c a).cg:=λ_ h=>by cases h
def cg.bad{α:Type}:(R.d:R α).cg:=λ_ h=>by cases h
def cg.opt{α:Type}{o:aah α}:(R.opt o).cg:=λ_ h=>by cases o<;>cases h
def cg.bP{α:Type}{b:Bool}{r:R α}(n:r.cg):(R.bP b r).cg:=λx h=>by
 cases b with
 |true=>exact n x h
 |false=>cases h
def cg.bind{α β:Type}{r:R α}{f:α->R β}(n:r.cg)(k:∀a,(f a).cg):(r.bind f).cg:=λx h=>by
 cases r with
 |c a=>exact k a x h
 |e y=>exact n y rfl
 |d=>cases h
def cg.ly{α:Type}(r:R α):r.ly.cg:=λx h=>by cases r<;>cases h
def mH{d:D}{i:Int}(h:u7 d=M i):d=.a i:=by cases d<;>first|exact nU h|(cases h;rfl)
def HF{d:D}{xs:L D}(h:BH d=M xs):∃o,d=.b o xs:=by cases d<;>first|exact nU h|(cases h;exact#[_,rfl])
def Pd{d:D}{p:L Key×L D}(h:aez d=M p):∃o,d=.f o p.1 p.2:=by cases d<;>first|exact nU h|(cases h;exact#[_,rfl])
def HH{ds:L D}{y:D}(h:tw ds=M y):ds=[y]:=by rcases ds with _|⟨_,_|_⟩<;>first|exact nU h|(cases h;rfl)
def Dg{ds:L D}{p:D×D}(h:Ml ds=M p):ds=[p.1,p.2]:=by rcases ds with _|⟨_,_|⟨_,_|_⟩⟩<;>first|exact nU h|(cases h;rfl)
def cg.j9{α β:Type}{o:aah α}{f:α->R β}(k:∀a,(f a).cg):((R.opt o).bind f).cg:=cg.bind cg.opt k
def Pe(x y:D):(inD x y).cg:=by
 cases y<;>first|exact cg.bad|exact cg.bP cg.ok|exact cg.j9 λ_=>cg.ok
def Ae(x:D):(kB x).cg:=by cases x<;>first|exact cg.bad|exact cg.ok
def abD(x y:D):(t_ x y).cg:=by
 cases x<;>first|exact cg.bad|exact cg.j9 λ_=>cg.j9 λ_=>cg.ok
def Xe(x:D):(yh x).cg:=by cases x<;>first|exact cg.bad|exact cg.ok
def Xf(xs:L D):(BK xs).cg:=cg.j9 λ_=>cg.j9 λ_=>cg.bP cg.ok
def Mp(m:Mt)(x:D)(ds:L D):(uM m x ds).cg:=by
 cases m with
 |b=>exact cg.bind cg.opt λ_=>cg.bind cg.opt λ_=>cg.bind cg.opt λ_=>cg.bind cg.opt λ_=>cg.bP cg.ok
 |c=>exact cg.bind cg.opt λ_=>cg.bind cg.opt λ_=>cg.bind cg.opt λ_=>cg.ok
 |_=>exact cg.bad
section
variable{K:ak}{H H0 F F0:Hp}
def Jf(r:bf K F x v):decide (v=.d)=d_ x:=by
 cases x with
 |g=>rw[show v=.d from r];rfl
 |e b=>rw[show v=.c b from r];rfl
 |a i=>rw[show v=.b i from r];rfl
 |c z=>rw[show v=.e z from r.1];rfl
 |b o ds=>let#[a,vs,rfl,_]:=r;rfl
 |d ds=>let#[a,vs,rfl,_]:=r;rfl
 |f o ks ds=>let#[a,vs,rfl,_]:=r;rfl
 |j=>let#[a,vs,rfl,_]:=r;rfl
 |h o ks ds=>let#[a,vs,rfl,_]:=r;rfl
 |i C ks ds=>let#[a,d,vs,rfl,_]:=r;rfl
def T8(r:bf K F x v)(h:d_ x=W):v=.d:=by
 cases x<;>first|exact r|(cases h)
def tB{x:D}{v:V}{k:Key}(r:bf K F x v)(h:v7 x=M k):v=kV k:=by
 cases x with
 |a i=>cases h;exact r
 |c z=>cases h;exact r.1
 |_=>cases h
theorem BP:∀{ds:L D}{vs:L V}{k:L Key},aR K F ds vs->xE ds=M k->vs=k.map kV/\keysOk k=W
|[],_,_,h,e=>by cases h;cases e;exact#[rfl,rfl]
|d::ds,_,k,h,e=>by
 let#[v,r,rfl,h2,h3]:=h;unfold xE at e;cases hd:v7 d with
 |none=>rw[hd]at e;cases e
 |some q=>
  rw[hd]at e;cases hr:xE ds with
  |none=>rw[hr]at e;cases e
  |some rs=>
   rw[hr]at e;cases e;let#[w1,w2]:=BP h3 hr;refine#[by rw[tB h2 hd,w1];rfl,?_];show(keyOk q&&keysOk rs)=W;rw[w2,qJ];cases d with
   |a i=>cases hd;rfl
   |c z=>cases hd;exact aA h2.2
   |_=>cases hd
def EE{x:D}{v:V}{k:L Key}(r:bf K F x v)(h:lX x=M k):∃b,v=.a b/\F b=M (.b<|k.map kV)/\t9 k=W:=by
 cases x with
 |d ds=>
  let#[a,vs,rfl,h2,h3,h4]:=r;let#[w1,w2]:=BP h4 h;subst w1;refine#[a,rfl,h2,?_];unfold t9;rw[w2,KP];rw[ai]at h3;exact aA h3
 |_=>cases h
theorem EF{κ:Type}[dz κ]:∀(kvs:L<|κ×V) (k:κ),ji (kvs.map (·.1)) k=(gc kvs k).isSome
|[],k=>rfl
|p::r,k=>by
 have ih:=EF r k;unfold ji at ih ⊢;unfold gc at ih ⊢;simp only[bB,qI,iN];by_cases e:p.1=k
 .simp[e]
 .simp only[e,decide_false,Kw];exact ih
theorem Af{κ:Type}[dz κ]:∀(kvs:L<|κ×V) (ds:L D) (k:κ),aR K F ds (kvs.map (·.2))->match ia (kvs.map (·.1)) ds k with
 |some d=>∃v,gc kvs k=M v/\bf K F d v
 |none=>gc kvs k=B
|[],ds,k,h=>by cases ds<;>rfl
|p::r,[],k,h=>by cases h
|p::r,d::ds,k,h=>by
 let#[v,vs,e,h2,h3]:=h;simp only[bB]at e;injection e with e1 e2;subst e1 e2;have z0:ia ((p::r).map (·.1)) (d::ds) k=if p.1=k then M d else ia (r.map (·.1)) ds k:=rfl
 rw[z0];by_cases q:p.1=k
 .rw[aQ q];exact#[p.2,by simp[gc,iN,q],h2]
 .rw[aE q];have ih:=Af r ds k h3;have z:gc (p::r) k=gc r k:=by simp[gc,iN,q]
  rw[z];exact ih
theorem qN:∀(xs ys:L D),aH (xs++ys)=aH xs++aH ys
|[],_=>rfl
|x::r,ys=>by show bW x::aH (r++ys)=_;rw[qN r ys];rfl
theorem tD:∀xs:L D,zl (aH xs)=zl xs
|[]=>rfl
|x::r=>by show(aH r).length+1=_;rw[tD r];rfl
def PV.lst[Ex]{ds:L D}{vs:L V}{Q:VK}{p:Addr}(h:PV K F H (.c<|.b W<|aH ds) Q)(s:bh F H)(r:aR K F ds vs)(hl:zl vs<=ao)(hp:H p=B):Q (.a p) (upd H p<|.a vs):=by
 let#[g,hf]:=newList (vs:=vs) (o:=.a vs) s hp;refine h F _ (.a p) [p] g #[by simp,?_,?_] ?_
 .intro a ha;rw[aL.mp ha];exact hp
 .intro a ha;rw[aL.mp ha];exact hf
 .exact fQ p #[vs,[],rfl,c5,hl,aR.AS ds vs r,rfl]
def PV.tup[Ex]{ds:L D}{vs:L V}{Q:VK}{p:Addr}(h:PV K F H (.c<|.d<|aH ds) Q)(s:bh F H)(r:aR K F ds vs)(hl:zl vs<=ao)(hp:H p=B):Q (.a p) (upd H p<|.b vs):=by
 have g:=BL (o:=.b vs) s hp;refine h _ _ (.a p) [] g .nil ?_;exact#[p,vs,rfl,c5,hl,aR.AS ds vs<|aR.mono g.f ds vs r]
theorem Mq:∀(n:Nat) {ds:L D}{vs:L V},aR K F ds vs->aR K F (bl n ds).flatten (bl n vs).flatten
|0,_,_,_=>rfl
|n+1,ds,vs,r=>by
 rw[eN,eN,gJ,gJ];exact aR.app r<|Mq n r
def Xg(n:Nat)(xs:L D):(bl n<|aH xs).flatten=aH (bl n xs).flatten:=by
 induction n with
 |zero=>rfl
 |succ n ih=>rw[eN,eN,gJ,gJ,qN,ih]
def agn[Ex](s:bh F H)(rx:bf K F x v)(ry:bf K F y u)(h:PV K F H (mY op x y) Q):WC K op v u H Q:=by
 cases x with
 |a i=>
  cases rx;cases y with
  |a j=>
   cases ry;cases op<;>first|exact h.elim|exact⟨i,j,rfl,rfl,h.flat s ⟨rfl,rfl⟩⟩|exact .inl ⟨i,j,rfl,rfl,h.flat s ⟨rfl,rfl⟩⟩|(let#[c,h]:=h.bP;have c:=ay c;first|exact⟨i,j,rfl,rfl,c,h.flat s ⟨rfl,rfl⟩⟩|exact .inl ⟨i,j,rfl,rfl,c,h.flat s ⟨rfl,rfl⟩⟩)
  |_=>cases h
 |c z=>
  let#[rfl,hz]:=rx;cases y with
  |a j=>
   cases ry;cases op<;>first|exact h.elim|skip
   let#[c,h]:=h.bP;have c:=ay c;exact .inr (.inl #[z,j,rfl,rfl,c,h.flat s #[#[rfl,by rw[Q3];exact c.2.2],rfl]])
  |c q=>
   let#[rfl,hq]:=ry;cases op<;>first|exact h.elim|skip
   let#[c,h]:=h.bP;have c:=ay c;exact .inr (.inl #[z,q,rfl,rfl,c,h.flat s #[#[rfl,by rw[Str.length_append];exact c],rfl]])
  |_=>cases h
 |b o xs=>
  let#[a,vs,rfl,h2,h3,h4]:=rx;cases y with
  |b o' ys=>
   let#[b,us,rfl,k2,k3,k4]:=ry;cases op<;>first|exact h.elim|skip
   let#[c,h]:=h.bP;have c:=ay c;rw[<-h4.len,<-k4.len]at c;rw[<-qN]at h;exact .inr (.inr (.inl #[a,b,vs,us,rfl,rfl,Rd.same s h2,Rd.same s k2,c,λp hp=>h.lst s (h4.app k4) (by rw[aW];exact c) hp]))
  |a k=>
   cases ry;cases op<;>first|exact h.elim|skip
   let#[c,h]:=h.bP;have c:=ay c;rw[<-h4.len]at c;rw[Xg]at h;refine .inr<|.inr #[a,k,vs,rfl,rfl,Rd.same s h2,c.1.1,c.1.2,c.2,λp hp=>h.lst s (Mq _ h4) ?_ hp];have z:∀n,(bl n vs).flatten.length=vs.length*n:=by
    intro n;induction n with
    |zero=>rfl
    |succ n ih=>rw[eN,gJ,aW,ih,NI,NJ]
   rw[z];exact c.2
  |_=>cases h
 |d xs=>
  let#[a,vs,rfl,h2,h3,h4]:=rx;cases y with
  |d ys=>
   let#[b,us,rfl,k2,k3,k4]:=ry;cases op<;>first|exact h.elim|skip
   let#[c,h]:=h.bP;simp only[cK,iJ,DL,List.isEmpty_eq_false_iff]at c;let#[#[c1,c2],c3]:=c;rw[<-h4.len,<-k4.len]at c3;rw[<-qN]at h;refine .inr (.inr (.inr #[a,b,vs,us,rfl,rfl,(tupS h2).same' s,(tupS k2).same' s,?_,?_,c3,λp hp=>h.tup s (h4.app k4) (by rw[aW];exact c3) hp]))
   .rintro rfl;exact c1 (h_ (by rw[<-h4.len];rfl))
   .rintro rfl;exact c2 (h_ (by rw[<-k4.len];rfl))
  |_=>cases h
 |_=>cases h
def cu{α β:Type}{r:R α}{f:α->R β}{b:β}(h:r.bind f=.c b):∃a,r=.c a/\f a=.c b:=by
 cases r with
 |c a=>exact#[a,rfl,h]
 |e x=>cases h
 |d=>cases h
def jj{α:Type}{o:aah α}{a:α}(h:R.opt o=.c a):o=M a:=by
 cases o with
 |none=>cases h
 |some b=>cases h;rfl
def okIn(s:bh F H)(rx:bf K F x v)(ry:bf K F y u)(h:inD x y=.c b){Q:Bool->Prop}(q:Q b):∃a,u=.a a/\((∃t xs dx ds,jh K H a t xs/\bf K H dx v/\aR K H ds xs/\gP dx=W/\mF ds=W/\Q (memD dx ds))\/(∃kvs k,Rd H a (.c kvs)/\v=kV k/\Q (gc kvs k).isSome)\/∃kvs k b,Rd H a (.d kvs)/\v=.a b/\H b=M (.b<|k.map kV)/\Q (gc kvs k).isSome):=by
 cases y with
 |b o ys=>
  let#[a,us,rfl,k2,k3,k4]:=ry;let#[c,e]:=oF h;cases e;have c:=aS.mp c;exact#[a,rfl,.inl #[J,us,x,ys,(Rd.seq k2).same' s,bf.mono s _ _ rx,aR.mono s _ _ k4,c.1,c.2,q]]
 |d ys=>
  let#[a,us,rfl,k2,k3,k4]:=ry;let#[c,e]:=oF h;cases e;have c:=aS.mp c;exact#[a,rfl,.inl #[W,us,x,ys,(tupS k2).same' s,bf.mono s _ _ rx,aR.mono s _ _ k4,c.1,c.2,q]]
 |f o ks ds=>
  let#[a,kvs,rfl,k2,k3,k4,k5]:=ry;let#[k,e,h]:=cu h;have e:=jj e
  .cases h;refine#[a,rfl,.inr<|.inl #[kvs,k,.inl<|s _ _ k2,tB rx e,?_]];rw[<-k4.1,EF]at q;exact q
 |j=>cases h
 |h o ks ds=>
  let#[a,kvs,rfl,k2,k3,k4,k5]:=ry;let#[k,e,h]:=cu h;have e:=jj e
  .cases h;let#[b,rfl,hb,_]:=EE rx e;refine#[a,rfl,.inr<|.inr #[kvs,k,b,.inl<|s _ _ k2,rfl,s _ _ hb,?_]];rw[<-k4.1,EF]at q;exact q
 |_=>cases h
def Dh[Ex](s:bh F H)(rx:bf K F x v)(ry:bf K F y u)(h:PV K F H (gY op x y) Q):qM K op v u H Q:=by
 have ord:(op=.Lt\/op=.LtE\/op=.Gt)->PV K F H (aey op x y) Q->qM K op v u H Q:=by
  intro ho h;cases x with
  |a i=>
   cases rx;cases y with
   |a j=>
    cases ry;rcases ho with rfl|rfl|rfl<;>exact#[i,j,rfl,rfl,h.flat s #[rfl,rfl]]
   |_=>cases h
  |_=>cases h
 cases op with
 |Lt=>exact ord (.inl rfl) h
 |LtE=>exact ord (.inr<|.inl rfl) h
 |Gt=>exact ord (.inr<|.inr rfl) h
 |GtE=>cases x<;>first|exact h.elim|(cases y<;>exact h.elim)
 |Eq=>
  let#[c,h]:=h.bP;have c:=aS.mp c;exact#[x,y,bf.mono s _ _ rx,bf.mono s _ _ ry,c.1,c.2,h.flat s #[rfl,rfl]]
 |NotEq=>
  let#[c,h]:=h.bP;have c:=aS.mp c;exact#[x,y,bf.mono s _ _ rx,bf.mono s _ _ ry,c.1,c.2,h.flat s #[rfl,rfl]]
 |Is=>
  let#[c,h]:=h.bP;exact#[T8 ry c,by rw[Jf rx];exact h.flat s #[rfl,rfl]]
 |IsNot=>
  let#[c,h]:=h.bP;exact#[T8 ry c,by rw[Jf rx];exact h.flat s #[rfl,rfl]]
 |In=>
  have h:PV K F H ((inD x y).bind λb=>.c<|.e b) Q:=h;cases e:inD x y with
  |c b=>
   rw[e]at h;exact okIn s rx ry e (Q:=λb=>Q (.c b) H)<|h.flat s #[rfl,rfl]
  |e z=>exact aC e<|Pe x y z
  |d=>rw[e]at h;exact h.elim
 |NotIn=>
  have h:PV K F H ((inD x y).bind λb=>.c<|.e<|!b) Q:=h;cases e:inD x y with
  |c b=>
   rw[e]at h;exact okIn s rx ry e (Q:=λb=>Q (.c<|!b) H)<|h.flat s #[rfl,rfl]
  |e z=>exact aC e<|Pe x y z
  |d=>rw[e]at h;exact h.elim
def Q4{Q:Bool->Prop}(s:bh F H)(rx:bf K F x v)(h:kB x=.c b)(q:Q b):mW K v H Q:=by
 cases x with
 |e k=>cases rx;cases h;exact q
 |_=>cases h
def PV.some[Ex]{r:R D}{Q:VK}(h:PV K F H r Q)(n:r.cg):∃d,r=.c d:=by
 cases r with
 |c d=>exact#[d,rfl]
 |e x=>exact aC rfl<|n x
 |d=>cases h
def aeG[Ex]{x y:D}{v u:V}{Q:VK}(s:bh F H)(rx:bf K F x v)(ry:bf K F y u)(h:PV K F H (t_ x y) Q):ZM K v u H Q:=by
 let#[d,e]:=h.some<|abD _ _;rw[e]at h;have hs:=szl;cases x with
 |c z=>
  let#[rfl,hz]:=rx;let#[i,e0,e]:=cu e;rw[mH<|jj e0]at ry;cases ry
  .obtain⟨c,e1,e2⟩:=cu e;cases e2;exact .inl #[z,i,c,rfl,rfl,hz,jj e1,h.flat s #[#[rfl,by show(1:Nat)<=_;omega],rfl]]
 |b o ds=>
  let#[a,vs,rfl,h2,h3,h4]:=rx;let#[i,e0,e]:=cu e;rw[mH<|jj e0]at ry;cases ry
  .obtain⟨c,e1,e2⟩:=cu e;cases e2;let#[j,i1,i2]:=vC<|jj e1;let#[w,w1,w2]:=h4.get j i2;exact .inr (.inl #[a,J,vs,i,w,rfl,rfl,(Rd.seq h2).same' s,FI (by rw[h4.len];exact i1) w1,h.here s w2])
 |d ds=>
  let#[a,vs,rfl,h2,h3,h4]:=rx;let#[i,e0,e]:=cu e;rw[mH<|jj e0]at ry;cases ry
  .obtain⟨c,e1,e2⟩:=cu e;cases e2;let#[j,i1,i2]:=vC<|jj e1;let#[w,w1,w2]:=h4.get j i2;exact .inr (.inl #[a,W,vs,i,w,rfl,rfl,(tupS h2).same' s,FI (by rw[h4.len];exact i1) w1,h.here s w2])
 |f o ks ds=>
  let#[a,kvs,rfl,h2,h3,h4,h5]:=rx;let#[k,q,e]:=cu e;have q:=jj q
  .obtain⟨c,e1,e2⟩:=cu e;cases e2;have z:=Af kvs ds k h5;rw[h4.1,jj e1]at z;let#[w,w1,w2]:=z;exact .inr<|.inr<|.inl #[a,kvs,k,w,rfl,.inl<|s _ _ h2,tB ry q,w1,h.here s w2]
 |h o ks ds=>
  let#[a,kvs,rfl,h2,h3,h4,h5]:=rx;let#[k,q,e]:=cu e;have q:=jj q
  .obtain⟨c,e1,e2⟩:=cu e;cases e2;have z:=Af kvs ds k h5;rw[h4.1,jj e1]at z;let#[w,w1,w2]:=z;let#[b,rfl,hb,_]:=EE ry q;exact .inr<|.inr<|.inr #[a,kvs,k,b,w,rfl,.inl<|s _ _ h2,rfl,s _ _ hb,w1,h.here s w2]
 |_=>cases e
def aR.cut:∀{ds:L D}{vs:L V},aR K F ds vs->∀lo hi,aR K F (L3.cut ds lo hi) (L3.cut vs lo hi):=by
 have dr:∀(n:Nat) {ds:L D}{vs:L V},aR K F ds vs->aR K F (ds.drop n) (vs.drop n):=by
  intro n;induction n with
  |zero=>intro ds vs h;exact h
  |succ n ih=>
   intro ds vs h;cases ds with
   |nil=>cases h;exact rfl
   |cons d ds=>
    let#[v,r,rfl,_,h3]:=h;exact ih h3
 have tk:∀(n:Nat) {ds:L D}{vs:L V},aR K F ds vs->aR K F (ds.take n) (vs.take n):=by
  intro n;induction n with
  |zero=>intro ds vs h;exact rfl
  |succ n ih=>
   intro ds vs h;cases ds with
   |nil=>cases h;exact rfl
   |cons d ds=>
    let#[v,r,rfl,h2,h3]:=h;exact#[v,_,rfl,h2,ih h3]
 intro ds vs h lo hi;unfold L3.cut;rw[h.len];exact tk _<|dr _ h
def okSl[Ex](s:bh F H)(rx:bf K F x v)(h:PV K F H (Mm x lo hi) Q):wSl K v lo hi H Q:=by
 cases x with
 |c z=>
  let#[rfl,hz]:=rx;refine .inl #[z,rfl,hz,h.flat s #[#[rfl,?_],rfl]];rw[T7];have:=Pc z.cps.toList lo hi;rw[Pb]at this;omega
 |b o ds=>
  let#[a,vs,rfl,h2,h3,h4]:=rx;exact .inr<|.inl #[a,vs,rfl,((Rd.seq h2).same' s).OU,λp hp=>h.lst s (h4.cut lo hi) (fB (Pc _ _ _) h3) hp]
 |d ds=>
  let#[a,vs,rfl,h2,h3,h4]:=rx;cases lo with
  |none=>cases h
  |some n=>
   cases hi with
   |some _=>cases h
   |none=>
    let#[c,h]:=h.bP;have c:=ay c;have en:((n.toNat:Nat):Int)=n:=by omega
    have dr:∀(n:Nat) {ds:L D}{vs:L V},aR K F ds vs->aR K F (ds.drop n) (vs.drop n):=by
     intro n;induction n with
     |zero=>intro ds vs h;exact h
     |succ n ih=>
      intro ds vs h;cases ds with
      |nil=>cases h;exact rfl
      |cons d ds=>
       let#[v,r,rfl,_,h3]:=h;exact ih h3
    have hl:=h4.len;exact .inr (.inr #[a,n.toNat,vs,rfl,(tupS h2).same' s,by rw[en],rfl,by omega,by omega,λp hp=>h.tup s (dr n.toNat h4) (by rw[eV];omega) hp])
 |_=>cases h
theorem BQ:∀{ds:L D}{vs:L V},aR K F ds vs->ds.all qB=W->zV vs=W/\vs.all rH=ds.all tU/\vs.any rH=ds.any tU
|[],_,h,_=>by cases h;exact#[rfl,rfl,rfl]
|d::ds,_,h,e=>by
 let#[v,r,rfl,h2,h3]:=h;have e':qB d=W/\ds.all qB=W:=by simpa using e
 let#[i1,i2,i3]:=BQ h3 e'.2;cases d with
 |e b=>
  cases h2;refine#[by show(W&&zV r)=W;rw[i1];rfl,?_,?_]
  .rw[iU,iU,i2];cases b<;>rfl
  .rw[qI,qI,i3];cases b<;>rfl
 |_=>exact aC e'.1 aN
def PV.T9[Ex]{ks:L Key}{ds:L D}{kvs:L<|Key×V}{Q:VK}{p:Addr}(h:PV K F H (.c<|.f W ks<|aH ds) Q)(s:bh F H)(r:aR K F ds (kvs.map (·.2)))(hk:kvs.map (·.1)=ks/\keysOk ks=W)(hl:zl kvs<=ao)(hp:H p=B):Q (.a p) (upd H p<|.c kvs):=by
 let#[g,hf]:=newList (vs:=[]) (o:=.c kvs) s hp;refine h F _ (.a p) [p] g #[by simp,?_,?_] ?_
 .intro a ha;rw[aL.mp ha];exact hp
 .intro a ha;rw[aL.mp ha];exact hf
 .exact fQ p #[kvs,[],rfl,c5,hl,hk,aR.AS ds _ r,rfl]
def abE{d:D}{xs:L D}(h:aeA d=M xs):d=.d xs:=by cases d<;>first|exact nU h|(cases h;rfl)
set_option tactic.hygienic true
def T_(h:pairD d=M p):∃k x,d=.d [k,x]/\v7 k=M p.1/\p.2=x:=by
 let#[xs,e1,h]:=fL.mp h;let#[q,e2,h]:=fL.mp h;let#[k,e3,rfl]:=fj.mp h;exact#[q.1,q.2,by rw[abE e1,Dg e2],e3,rfl]
theorem Jg(s:bh F H):∀{ds:L D}{vs:L V}{ps:L<|Key×D},aR K F ds vs->oE ds=M ps->
 ∃qs:L<|Key×V,OS K H vs qs/\qs.map (·.1)=ps.map (·.1)/\aR K F (ps.map (·.2)) (qs.map (·.2))/\keysOk (ps.map (·.1))=W
|[],_,_,h,e=>by cases h;cases e;exact#[[],.nil,rfl,rfl,rfl]
|d::ds,_,ps,h,e=>by
 let#[v,r,rfl,h2,h3]:=h;unfold oE at e;cases hd:pairD d with
 |none=>rw[hd]at e;cases e
 |some p=>
  rw[hd]at e;cases hr:oE ds with
  |none=>rw[hr]at e;cases e
  |some rs=>
   rw[hr]at e;cases e;let#[qs,w1,w2,w3,w4]:=Jg s h3 hr;let#[k,x,rfl,hk,hx]:=T_ hd;let#[a,ws,rfl,t2,t3,t4]:=h2;let#[vk,r1,rfl,rk,t5]:=t4;let#[vx,r2,rfl,rx,t6]:=t5;cases t6;have ek:=tB rk hk;subst ek;refine#[(p.1,vx)::qs,.cons #[a,rfl,((tupS t2).same' s).sG] w1,by rw[bB,bB,w2],#[vx,_,rfl,by show bf K F p.2 vx;rw[hx];exact rx,w3],?_];show(keyOk p.1&&keysOk (rs.map (·.1)))=W;rw[w4,qJ];cases k with
   |a i=>
    have e:=cA hk;rw[<-e];rfl
   |c z=>
    have e:=cA hk;rw[<-e];exact aA rk.2
   |_=>cases hk
theorem Jh:∀(k:L Key),keysOk k=W->aR K F (k.map tT) (k.map kV)
|[],_=>rfl
|q::r,h=>by
 have h':keyOk q=W/\keysOk r=W:=by simpa[keysOk]using h
 refine#[kV q,_,rfl,?_,Jh r h'.2];cases q with
 |inl i=>exact rfl
 |inr z=>exact#[rfl,ay h'.1]
theorem Pf:∀{kss:L<|L Key}{ts:L Addr},jF H kss ts->zl kss=zl ts/\∀i,i<zl kss->H (ts.getD i 0)=M (.b<|(kss.getD i []).map kV)/\ts.getD i 0∈ts
|_,_,.nil=>#[rfl,λi h=>aC h<|gU _]
|_,_,.cons e r=>by
 let#[h1,h2]:=Pf r;refine#[by simp[h1],λi hi=>?_];cases i with
 |zero=>exact#[e,aD]
 |succ i=>
  let#[a,b]:=h2 i (by simpa using hi);exact#[by simpa using a,az _<|by simpa using b]
theorem BR:∀{ds:L D}{vs:L V}{ss:L Int},aR K F ds vs->kY ds=M ss->vs=ss.map V.b
|[],_,_,h,e=>by cases h;cases e;rfl
|d::ds,_,ss,h,e=>by
 let#[v,r,rfl,h2,h3]:=h;cases d with
 |a z=>
  have e:(kY ds).map (z::·)=M ss:=e;cases q:kY ds with
  |none=>rw[q]at e;cases e
  |some s2=>
   rw[q]at e;cases e;rw[BR h3 q,h2];rfl
 |_=>cases e
theorem Ji:∀{ds:L D}{vs:L V}{kss:L<|L Key},aR K F ds vs->tV ds=M kss->∃ts,vs=ts.map V.a/\jF F kss ts
|[],_,_,h,e=>by cases e;cases h;exact#[[],rfl,.nil]
|d::ds,_,_,h,e=>by
 let#[v,r,rfl,h2,h3]:=h;have e:((lX d).bind λk=>(tV ds).map (k::·))=M _:=e;cases q:lX d with
 |none=>rw[q]at e;cases e
 |some k=>
  rw[q]at e;cases q2:tV ds with
  |none=>rw[q2]at e;cases e
  |some ks=>
   rw[q2]at e;cases e;let#[ts,rfl,ht]:=Ji h3 q2;cases d with
   |d xs=>
    let#[a,us,rfl,u2,_,u4]:=h2;exact#[a::ts,rfl,.cons (by rw[u2,(BP u4 q).1]) ht]
   |_=>cases q
theorem DV(s:bh F H):∀{kss:L<|L Key}{ts:L Addr},jF F kss ts->jF H kss ts
|_,_,.nil=>.nil
|_,_,.cons e r=>.cons (s _ _ e)<|DV s r
def PV.sorted[Ex](h:PV K F H (.c<|.b W<|o_ ks) Q)(s:bh F H)(hk:qX ks=W)(hs:sortable ks=W)(ht:jF H ks ts)(hp:H p=B):Q (.a p) (upd H p<|.a<|(iQ ks).map λi=>.a<|ts.getD i 0):=by
 let#[hl,hat]:=Pf ht;have hlt:∀i∈iQ ks,i<zl ks:=λi hi=>yR _ _ i hi;have hpt:p∉ts:=λz=>by
  let#[i,hi,e]:=iO z;have:=(hat i<|by omega).1;rw[bS,aB hi]at this;have this:H ts[i]=_:=this;rw[e,hp]at this;cases this
 have sa:bh (adopt F H ts) H:=i0 s;have g:bX F H (adopt F H ts) (upd H p<|.a<|(iQ ks).map λi=>.a<|ts.getD i 0):=by
  refine#[λb u q=>by rw[bq<|bZ q hp];exact q,gh s,λb u q=>by
   have:=sa b u q;rw[bq<|bZ this hp];exact this,λb o h h'=>?_]
  by_cases z:b∈ts
  .obtain⟨i,hi,e⟩:=iO z;have:=(hat i<|by omega).1;rw[bS,aB hi]at this;have this:H ts[i]=_:=this;rw[e]at this;rw[this];trivial
  .rw[lI z,h']at h;cases h
 have fp0:adopt F H ts p=B:=by rw[lI hpt];exact bh.none s hp
 refine h (adopt F H ts) _ (.a p) [p] g #[by simp,?_,?_] ?_
 .intro a ha;rw[aL.mp ha];exact hp
 .intro a ha;rw[aL.mp ha];exact fp0
 .refine fQ p #[_,[],rfl,c5,?_,?_,rfl]
  .rw[ai];unfold iQ;rw[vD,cB];have:=(x_ hs).1;omega
  .unfold o_;have:∀l:L Nat,(∀i∈l,i<zl ks)->aX K (upd H p<|.a<|(iQ ks).map λi=>.a<|ts.getD i 0) (adopt F H ts) (l.map λi=>D.d<|(ks.getD i []).map tT) (l.map λi=>V.a<|ts.getD i 0) []:=by
    intro l;induction l with
    |nil=>intro _;exact#[rfl,rfl]
    |cons i r ih=>
     intro hi;have h0:=hi i aD;let#[a1,a2]:=hat i h0;have ko:t9 (ks.getD i [])=W:=by
      unfold qX at hk;have:=bN.mp hk (ks.getD i []) (by rw[bS,aB h0];exact bY h0);exact this
     unfold t9 at ko;rw[cK]at ko;refine#[_,_,[],[],rfl,rfl,#[ts.getD i 0,_,rfl,by rw[m6 a2];exact a1,by rw[ai];exact ay ko.2,?_],ih λj hj=>hi j<|az _ hj];have q:=aR.AS (H:=upd H p<|.a<|(iQ ks).map λi=>.a<|ts.getD i 0) _ _<|Jh (K:=K) (F:=adopt F H ts) (ks.getD i []) ko.1;have ef:∀k:L Key,aH (k.map tT)=k.map tT:=by
      intro k;induction k with
      |nil=>rfl
      |cons q r ih=>
       show bW (tT q)::aH (r.map tT)=_;rw[ih];cases q<;>rfl
     rw[ef]at q;exact q
   exact this _ hlt
theorem FJ:∀(ps acc:L<|Key×V),((acc++ps).map (·.1)).Nodup->t8 acc ps=acc++ps
|[],acc,_=>(dS acc).symm
|p::r,acc,h=>by
 have hn:¬(acc.any λkv=>decide<|kv.1=p.1)=W:=by grind
 have e:putK acc p.1 p.2=acc++[p]:=by
  unfold putK;rw[aE hn]
 show t8 (putK acc p.1 p.2) r=_;rw[e,FJ r (acc++[p]) (by rw[bR];exact h),bR];rfl
def abF(h:OS K H vs qs):zl vs=zl qs:=Paired.length h
def aeH{d:D}{i:Bool}(h:asB d=M i):d=.e i:=by cases d<;>first|exact nU h|(cases h;rfl)
def abG{d:D}{ks:L<|L Key}(h:aeB d=M ks):∃o xs,d=.h o ks xs:=by cases d<;>first|exact nU h|(cases h;exact#[_,_,rfl])
def PV.j9[Ex]{α:Type}{o:aah α}{f:α->R D}{Q:VK}(h:PV K F H ((R.opt o).bind f) Q):∃a,o=.some a/\PV K F H (f a) Q:=by
 cases o with
 |none=>cases h
 |some a=>exact#[a,rfl,h]
def PV.one[Ex]{ds:L D}{vs:L V}{f:D->R D}{Q:VK}(r:aR K F ds vs)(h:PV K F H ((R.opt<|tw ds).bind f) Q):∃x v,vs=[v]/\bf K F x v/\PV K F H (f x) Q:=by
 let#[x,e,h]:=PV.j9 h;rw[HH e]at r;let#[v,_,rfl,rx,rfl]:=r;exact#[x,v,rfl,rx,h]
def PV.Mr[Ex]{ds:L D}{vs:L V}{f:L D->R D}{Q:VK}(r:aR K F ds vs)(h:PV K F H ((R.opt<|tw ds).bind λx=>(R.opt<|BH x).bind f) Q):∃a us xs,vs=[.a a]/\Rd F a (.a us)/\zl us<=ao/\aR K F xs us/\PV K F H (f xs) Q:=by
 let#[x,v,rfl,rx,h]:=PV.one r h;let#[xs,e,h]:=PV.j9 h;let#[o,rfl]:=HF e;let#[a,us,rfl,h2,h3,h4]:=rx;exact#[a,us,xs,rfl,h2,h3,h4,h]
def Q5[Ex](s:bh F H)(r:aR K F ds vs)(h:PV K F H (jR f ds) Q):Bu K f vs H Q:=by
 cases f with
 |a=>
  let#[x,v,rfl,rx,h]:=PV.one r h;cases x with
  |c z=>let#[rfl,hz]:=rx;exact .inl #[z,rfl,hz,h.flat s #[rfl,rfl]]
  |b o ds=>
   let#[a,vs,rfl,h2,h3,h4]:=rx;exact .inr #[a,vs,rfl,.inl ((Rd.seq h2).same' s).OU,by rw[h4.len];exact h.flat s #[rfl,rfl]]
  |d ds=>
   let#[a,vs,rfl,h2,h3,h4]:=rx;exact .inr #[a,vs,rfl,.inr ((tupS h2).same' s).sG,by rw[h4.len];exact h.flat s #[rfl,rfl]]
  |_=>cases h
 |g=>
  let#[a,us,xs,rfl,h2,h3,h4,h]:=PV.Mr r h;let#[c,h]:=h.bP;let#[i1,i2,i3]:=BQ h4 c;exact#[a,us,rfl,((Rd.seq h2).same' s).OU,i1,by rw[i2];exact h.flat s #[rfl,rfl]]
 |j=>
  let#[a,us,xs,rfl,h2,h3,h4,h]:=PV.Mr r h;let#[c,h]:=h.bP;let#[i1,i2,i3]:=BQ h4 c;exact#[a,us,rfl,((Rd.seq h2).same' s).OU,i1,by rw[i3];exact h.flat s #[rfl,rfl]]
 |i=>
  let#[x,v,rfl,rx,h]:=PV.one r h;let#[b,e,h]:=PV.j9 h;rw[aeH e]at rx;cases rx;exact#[b,rfl,h.flat s #[rfl,rfl]]
 |c=>
  let#[a,us,xs,rfl,h2,h3,h4,h]:=PV.Mr r h;exact#[a,us,rfl,Rd.same s h2,λp hp=>h.lst s h4 h3 hp]
 |h=>
  let#[a,us,xs,rfl,h2,h3,h4,h]:=PV.Mr r h;exact#[a,us,rfl,Rd.same s h2,λp hp=>h.tup s h4 h3 hp]
 |b=>
  let#[a,us,xs,rfl,h2,h3,h4,h]:=PV.Mr r h;let#[ps,e,h]:=PV.j9 h;let#[c,h]:=h.bP;let#[qs,w1,w2,w3,w4]:=Jg s h4 e;refine#[a,us,qs,rfl,((Rd.seq h2).same' s).OU,w1,λp hp=>?_];have hn:(qs.map (·.1)).Nodup:=by rw[w2];exact ay c
  rw[FJ qs [] hn];exact PV.T9 h s w3 #[w2,w4] (by rw[lT,<-abF w1];exact h3) hp
 |e=>
  let#[x,v,rfl,rx,h]:=PV.one r h;let#[ks,e,h]:=PV.j9 h;let#[o,xs,rfl]:=abG e;let#[a,kvs,rfl,h2,h3,h4,h5]:=rx;let#[c,h]:=h.bP;let#[rfl,hk]:=h4;exact#[a,kvs,rfl,.inl<|s _ _ h2,c,λts ht p hp=>PV.sorted h s hk c ht hp]
 |d=>
  let#[p,e0,h]:=PV.j9 h;let#[i,e1,h]:=PV.j9 h;let#[j,e2,h]:=PV.j9 h;rw[Dg e0,mH e1,mH e2]at r;let#[v,r',rfl,rfl,u,r2,rfl,rfl,rfl]:=r;exact#[i,j,rfl,h.flat s #[rfl,rfl]]
def Z0{Q:Bool->Prop}(s:bh F H)(rx:bf K F x v)(hn:v8 x=W)(q:Q<|BI t x):Bv K t v H Q:=by
 cases x with
 |a i=>cases rx;exact q
 |d ds=>
  let#[a,vs,rfl,h2,h3,h4]:=rx;exact#[vs,(tupS h2).same' s,q]
 |_=>cases hn
def Ua(s:bh F H)(rx:bf K F x v)(h:uM m x ds=.c d):Fj m v H:=by
 cases m with
 |b=>
  let#[xs,e,_]:=cu h;let#[o,rfl]:=HF<|jj e;let#[a,us,rfl,h2,_]:=rx;exact#[a,rfl,.inr #[rfl,us,Rd.same s h2]]
 |c=>
  let#[p,e,_]:=cu h;let#[o,rfl]:=Pd<|jj e;let#[a,kvs,rfl,h2,_]:=rx;exact#[a,rfl,.inl #[rfl,kvs,s _ _ h2]]
 |_=>cases h
def Z1[Ex](s:bh F H)(rx:bf K F x v)(r:aR K F ds vs)(h:PV K F H (uM m x ds) Q):LR m v vs H Q:=by
 cases m with
 |b=>
  let#[xs,e1,g]:=PV.j9 h;let#[y,e2,g]:=PV.j9 g;let#[k,e3,g]:=PV.j9 g;let#[ns,q,g]:=PV.j9 g;let#[c,g]:=PV.bP g;let#[o,rfl]:=HF e1;let#[a,us,rfl,h2,h3,h4]:=rx;rw[HH e2,mH e3]at r;let#[u,r',rfl,rfl,rfl]:=r;have e:=BR h4 q;subst e;exact#[a,ns,k,rfl,rfl,Rd.same s h2,ay c,g.flat s #[rfl,rfl]]
 |c=>
  let#[#[ks,xs],e1,g]:=PV.j9 h;let#[#[k,y],e2,g]:=PV.j9 g;let#[k',q,g]:=PV.j9 g;have g:PV K F H (.c<|bW<|(ia ks xs k').getD y) Q:=g;let#[o,rfl]:=Pd e1;let#[a,kvs,rfl,h2,h3,h4,h5]:=rx;rw[Dg e2]at r;let#[u,r',rfl,rk,w,r2,rfl,ry,rfl]:=r;have ek:=tB rk q;subst ek;refine#[a,kvs,k',w,rfl,rfl,.inl<|s _ _ h2,?_];have z:=Af kvs xs k' h5;rw[h4.1]at z;cases e:ia ks xs k' with
  |none=>
   rw[e]at z;rw[show gc kvs k'=B from z];exact PV.here (by rw[e]at g;exact g) s ry
  |some d=>
   rw[e]at z;let#[w',w1,w2]:=z;rw[w1];exact PV.here (by rw[e]at g;exact g) s w2
 |_=>cases h
set_option tactic.hygienic false
end
section
variable{K:ak}{Γp:L PG}{Y:L G}
def PV.bind[Ex]{f:D->R D}(h:PV K F H (r.bind f) Q)(k:∀x F1 H1 v,bX F H F1 H1->bf K F1 x v->PV K F1 H1 (f x) Q->Q' v H1):PV K F H r Q':=by
 cases r with
 |c x=>
  intro F1 H1 v fp g fr rx;let#[F2,g2,s2,rf]:=W_ g fr rx;exact k x F2 H1 v g2 rf<|PV.grow h g2
 |e x=>exact h
 |d=>cases h
def PB.nV[Ex]{α:Type}{f:D->R α}{Q:α->Hp->Prop}(h:PB K F H (r.bind f) Q)(k:∀x F1 H1 v,bX F H F1 H1->bf K F1 x v->PB K F1 H1 (f x) Q->Q' v H1):PV K F H r Q':=by
 cases r with
 |c x=>
  intro F1 H1 v fp g fr rx;let#[F2,g2,s2,rf]:=W_ g fr rx;exact k x F2 H1 v g2 rf<|PB.grow h g2
 |e x=>exact h
 |d=>cases h
def PB.bindB[Ex]{α β:Type}{F H:Hp}{r:R β}{f:β->R α}{Q:α->Hp->Prop}{Q':β->Hp->Prop}(h:PB K F H (r.bind f) Q)(k:∀x F1 H1,bX F H F1 H1->PB K F1 H1 (f x) Q->Q' x H1):PB K F H r Q':=by
 cases r with
 |c x=>exact λF1 H1 g=>k x F1 H1 g<|PB.grow h g
 |e x=>exact h
 |d=>cases h
def PV.bindB[Ex]{β:Type}{r:R β}{f:β->R D}{Q:VK}{Q':β->Hp->Prop}(h:PV K F H (r.bind f) Q)(k:∀x F1 H1,bX F H F1 H1->PV K F1 H1 (f x) Q->Q' x H1):PB K F H r Q':=by
 cases r with
 |c x=>exact λF1 H1 g=>k x F1 H1 g<|PV.grow h g
 |e x=>exact h
 |d=>cases h
def AV.FL[Ex]{f:L D->R D}{Q':L V->Hp->Prop}(h:PV K F H (r.bind f) Q)(k:∀xs F1 H1 vs,bX F H F1 H1->aR K F1 xs vs->PV K F1 H1 (f xs) Q->Q' vs H1):AV K F H r Q':=by
 cases r with
 |c x=>
  intro F1 H1 v fp g fr rx;let#[F2,g2,s2,rf]:=K0 g fr rx;exact k x F2 H1 v g2 rf<|PV.grow h g2
 |e x=>exact h
 |d=>cases h
def PB.aeI[Ex]{α:Type}{f:L D->R α}{Q:α->Hp->Prop}{Q':L V->Hp->Prop}(h:PB K F H (r.bind f) Q)(k:∀xs F1 H1 vs,bX F H F1 H1->aR K F1 xs vs->PB K F1 H1 (f xs) Q->Q' vs H1):AV K F H r Q':=by
 cases r with
 |c x=>
  intro F1 H1 v fp g fr rx;let#[F2,g2,s2,rf]:=K0 g fr rx;exact k x F2 H1 v g2 rf<|PB.grow h g2
 |e x=>exact h
 |d=>cases h
def PV.aeJ[Ex](h:PV K F H (.c<|.b W ds) Q)(g:bX F H F1 H1)(fr:jC fp H F1)(r:aX K H1 F1 ds vs fp)(hl:zl vs<=ao)(hp:H1 p=B):Q (.a p) (upd H1 p<|.a vs):=by
 let#[g2,hf]:=newList (vs:=vs) (o:=.a vs) g.s hp;have np:p∉fp:=λz=>by
  let#[o,e,_]:=aX.ex ds vs fp r p z;rw[hp]at e;cases e
 refine h F1 _ (.a p) (p::fp) (g.trans g2) #[cL.mpr #[np,fr.nd],?_,?_] ?_
 .intro a ha;rcases aY.mp ha with rfl|ha
  .exact bh.none g.h hp
  .exact fr.nh a ha
 .intro a ha;rcases aY.mp ha with rfl|ha
  .exact hf
  .exact fr.nf a ha
 .exact fQ p #[vs,fp,rfl,c5,hl,aX.mono (bh.refl _) ds vs fp (λa ha=>bq λz=>np (by rw[<-z];exact ha)) r,rfl]
def PV.tupX[Ex](h:PV K F H (.c<|.d ds) Q)(g:bX F H F1 H1)(fr:jC fp H F1)(r:aX K H1 F1 ds vs fp)(hl:zl vs<=ao)(hp:H1 p=B):Q (.a p) (upd H1 p<|.b vs):=by
 have g2:=BL (o:=.b vs) g.s hp;have np:p∉fp:=λz=>by
  let#[o,e,_]:=aX.ex ds vs fp r p z;rw[hp]at e;cases e
 refine h _ _ (.a p) fp (g.trans g2) #[fr.nd,fr.nh,λa ha=>?_] ?_
 .rw[bq λz=>np<|by simp_all];exact fr.nf a ha
 .exact#[p,vs,rfl,c5,hl,aX.mono g2.f ds vs fp (λa ha=>bq λz=>np<|by simp_all) r]
theorem BS:∀{ds:L D}{vs:L V},aR K F ds vs->l5 K F (aH ds) (vs.map .v)
|[],_,h=>by cases h;exact rfl
|d::ds,_,h=>by
 let#[v,r,rfl,h2,h3]:=h;exact#[_,_,rfl,(bf.bW d v).mpr h2,BS h3]
theorem Pg:∀{ds es:L D}{xs ys:L Item},l5 K F ds xs->l5 K F es ys->l5 K F (ds++es) (xs++ys)
|[],_,_,_,h,h'=>by cases h;exact h'
|d::ds,_,_,_,h,h'=>by
 let#[it,r,rfl,h2,h3]:=h;exact#[_,_,rfl,h2,Pg h3 h']
theorem Ph:∀{ds:L D}{vs:L V},aR K F ds vs->l5 K F (aH ds).reverse (vs.reverse.map .v)
|[],_,h=>by cases h;exact rfl
|d::ds,_,h=>by
 let#[v,r,rfl,h2,h3]:=h;show l5 K F (bW d::aH ds).reverse _;rw[iH,iH,be];exact Pg (Ph h3) #[_,_,rfl,(bf.bW d v).mpr h2,rfl]
theorem abH:∀{ds es:L D}{vs us:L V},aR K F ds vs->aR K F es us->l5 K F (aeC (aH ds)<|aH es) (adV vs us)
|[],_,_,_,h,h'=>by cases h;exact rfl
|d::ds,[],_,_,h,h'=>by
 let#[v,r,rfl,h2,h3]:=h;cases h';exact rfl
|d::ds,e::es,_,_,h,h'=>by
 let#[v,r,rfl,h2,h3]:=h;let#[v',r',rfl,h2',h3']:=h';have hs:=szl;exact#[_,_,rfl,#[_,rfl,#[_,_,rfl,(bf.bW d v).mpr h2,_,_,rfl,(bf.bW e v').mpr h2',rfl],by show(2:Nat)<=_;lia],abH h3 h3']
theorem Ms:∀{ds:L D}{vs:L V} (n:Nat),aR K F ds vs->l5 K F (lH n<|aH ds) (qv n vs)
|[],_,n,h=>by cases h;exact rfl
|d::ds,_,n,h=>by
 let#[v,r,rfl,h2,h3]:=h;have hs:=szl;exact#[_,_,rfl,#[_,rfl,#[_,_,rfl,rfl,_,_,rfl,(bf.bW d v).mpr h2,rfl],by show(2:Nat)<=_;lia],Ms (n+1) h3]
def Ub(lo:Int)(n:Nat):l5 K F (gj lo n) ((bg n).map λ(i:Nat)=>Item.v<|.b<|lo+(i:Int)):=by
 unfold gj;induction bg n with
 |nil=>exact rfl
 |cons c r ih=>exact#[_,_,rfl,rfl,ih]
theorem Jj:∀(ds:L D) (n:Nat),zl (lH n ds)=zl ds
|[],n=>rfl
|d::r,n=>by show(lH (n+1) r).length+1=_;rw[Jj r];rfl
theorem l5.mono(e:bh F F'):∀{ds:L D}{its:L Item},l5 K F ds its->l5 K F' ds its
|[],_,h=>h
|d::ds,_,h=>by
 let#[it,r,h1,h2,h3]:=h;refine#[it,r,h1,?_,l5.mono e h3];cases it with
 |v x=>exact bf.mono e d x h2
 |a xs=>let#[es,q1,q2,q3]:=h2;exact#[es,q1,aR.mono e es xs q2,q3]
def Jk{k:V->Hp->Prop}(s:bh F H)(r:ItF K F d it)(h:∀F1 H1 v,bX F H F1 H1->bf K F1 d v->k v H1):mkItem it H k:=by
 cases it with
 |v x=>exact h F H x (bX.refl s) r
 |a xs=>
  let#[ds,rfl,r2,r3]:=r;intro p hp;have g:=BL (o:=.b xs) s hp;exact h _ _ _ g #[p,xs,rfl,c5,r3,aR.mono g.f ds xs r2]
def pV(K:ak)(F:Hp)(O:a_)(U:L2.St):Prop:=∀(i:Nat) d,O[i]?=M (M d)->∃v,U[i]?=M (M v)/\bf K F d v
def pV.env(h:pV K F O U)(s:bh F H):lA K F H is O U:=#[λi _ d e=>h i d e,λk d e=>let⟨v,h1,h2⟩:=h k d e;#[v,F,h1,s,h2]]
def pV.mono(h:pV K F O U)(e:bh F F'):pV K F' O U:=λi d q=>by
 let#[v,h1,h2]:=h i d q;exact#[v,h1,bf.mono e d v h2]
def pV.set(h:pV K F O U)(hl:zl O=zl U)(r:bf K F d v):pV K F (O.set i<|M d) (U.set i<|M v):=λj e q=>by
 by_cases hij:i=j
 .subst hij;rw[gM]at q;by_cases hi:i<zl O
  .simp[hi]at q;subst q;exact#[v,by rw[gM];simp[<-hl,hi],r]
  .simp[hi]at q
 .rw[cX hij]at q;let#[w,h1,h2]:=h j e q;exact#[w,by rw[cX hij];exact h1,h2]
mutual
theorem ruG:∀(g:CG) {d:D}{v:V}{O ajk:a_}{U:L2.St}{F H:Hp}{Q:L2.St->Hp->Prop},pV K F O U->zl O=zl U->bh F H->bf K F d v->pG g d O=.c ajk->(∀σ',pV K F ajk σ'->zl ajk=zl σ'->Q σ' H)->wG K Y E g v U H Q
|.a i,d,v,O,ajk,U,F,H,Q,a,hl,s,r,e,h=>by
 cases e;exact h _ (a.set hl r)<|by simp[hl]
|.b gs,d,v,O,ajk,U,F,H,Q,a,hl,s,r,e,h=>by
 cases d with
 |d ds=>
  let#[b,vs,rfl,h2,h3,h4]:=r;let#[c,e]:=oF e;exact#[W,vs,(tupS h2).same' s,rfl,by rw[h4.len];exact ay c,aeK gs a hl s h4 e h]
 |_=>cases e
|.c _ _,d,v,O,ajk,U,F,H,Q,a,hl,s,r,e,h=>by cases e
theorem aeK:∀(g:vU) {ds:L D}{vs:L V}{O ajk:a_}{U:L2.St}{F H:Hp}{Q:L2.St->Hp->Prop},pV K F O U->zl O=zl U->bh F H->aR K F ds vs->AU g ds O=.c ajk->(∀σ',pV K F ajk σ'->zl ajk=zl σ'->Q σ' H)->OT K Y E g vs U H Q
|.nil,ds,vs,O,ajk,U,F,H,Q,a,hl,s,r,e,h=>by
 cases ds with
 |nil=>cases r;cases e;exact h U a hl
 |cons d dr=>cases e
|.cons g gr,ds,vs,O,ajk,U,F,H,Q,a,hl,s,r,e,h=>by
 cases ds with
 |nil=>cases e
 |cons d dr=>
  let#[v,vr,rfl,r1,r2]:=r;let#[σ2,e1,e2]:=cu e;exact ruG g a hl s r1 e1 fun σ' a' hl'=>aeK gr a' hl' s r2 e2 h
end
def Uc{O:a_}{U:L2.St}{nl:L Str}{fr:L Nat}(h:lA K F H fr O U):pV K F (nl.map (λ_=>B)++fr.map λi=>O.getD i B) (nl.map (λ_=>B)++fr.map λi=>U.getD i B):=by
 intro i d e;by_cases hi:i<zl nl
 .rw[fc<|by simpa using hi]at e;rw[bz]at e;cases q:nl[i]? with
  |none=>rw[q]at e;cases e
  |some x=>rw[q]at e;cases e
 .rw[eU<|by simpa using hi]at e ⊢;simp only[ai,bz]at e ⊢;cases q:fr[i-zl nl]? with
  |none=>rw[q]at e;cases e
  |some j=>
   rw[q]at e;have e:O.getD j B=M d:=by simpa using e
   have e':O[j]?=M (M d):=by
    rw[bS]at e;cases z:O[j]? with
    |none=>rw[z]at e;cases e
    |some o=>rw[z]at e;simp at e;rw[e]
   let#[v,h1,h2]:=h.e j (jo q) d e';refine#[v,?_,h2];simp[bS,h1]
def Ud{O:a_}{U:L2.St}{nl:L Str}{fr:L Nat}:zl (nl.map (λ_=>(B:aah D))++fr.map λi=>O.getD i B)=zl (nl.map (λ_=>(B:aah V))++fr.map λi=>U.getD i B):=by simp
theorem Mu[Ex]{E:XK}{tg:CG}{cond:CO}{elt:CE}{k:L V->Hp->Prop}(hc:∀{O:a_}{U:L2.St}{F H:Hp}{Q:Bool->Hp->Prop},pV K F O U->bh F H->PB K F H (pC Γp cond O) Q->wC K Y E cond U H Q)(he:∀{O:a_}{U:L2.St}{F H:Hp}{Q:VK},pV K F O U->bh F H->PV K F H (pE Γp elt O) Q->wE K Y E elt U H Q)(ok:Hp->Prop)(H0:Hp)(F0:Hp):∀(ds:L D) (its:L Item) (acc:L D) (vacc:L V) (fp:L Addr) (O:a_) (U:L2.St) (F H:Hp),pV K F O U->zl O=zl U->bX F0 H0 F H->l5 K F ds its->(∀H'',bh F H''->ok H'')->zl acc+zl ds<=ao->
  aX K H F acc vacc fp->jC fp H0 F->
  (∀ys,eB (pG tg) (pC Γp cond) (pE Γp elt) ds O=.c ys->∀F' H' vs fp',bX F0 H0 F' H'->aX K H' F' (acc++ys) vs fp'->jC fp' H0 F'->k vs H')->(∃ys,eB (pG tg) (pC Γp cond) (pE Γp elt) ds O=.c ys)->
  vn ok (wG K Y E tg) (wC K Y E cond) (wE K Y E elt) k its vacc U H
|[],its,acc,vacc,fp,O,U,F,H,a,hl,g,hi,hok,hz,ra,fr,hk,hy=>by
 cases hi;refine#[hok H g.s,hk [] rfl F H vacc fp g (by rw[dS];exact ra) fr]
|d::ds,its,acc,vacc,fp,O,U,F,H,a,hl,g,hi,hok,hz,ra,fr,hk,hy=>by
 let#[it,r,rfl,i1,i2]:=hi;let#[ys,ey]:=hy;let#[σ2,e1,e2]:=cu ey;let#[b,e3,e4]:=cu e2;simp only[eY]at hz;refine#[hok H g.s,by rw[ra.len];omega,Jk g.s i1 λF1 H1 v g1 r1=>?_];have fresh1:∀{F' H':Hp},bX F H F' H'->aX K H' F' acc vacc fp/\jC fp H0 F':=λg'=>by
  let#[c1,c2]:=aeE g' fr ra;exact#[c1,fr.nd,fr.nh,c2]
 refine ruG tg (a.mono g1.f) hl g1.s r1 e1 fun σ' a' hl'=>?_;refine hc a' g1.s ?_;rw[e3];intro F2 H2 g2;have g12:=g1.trans g2;have hok2:∀{F' H':Hp},bX F H F' H'->∀H'',bh F' H''->ok H'':=λg' H'' s''=>hok H''<|g'.f.trans s'';cases b with
 |false=>
  rw[aE aN];let#[c1,c2]:=fresh1 g12;refine Mu hc he ok H0 F0 ds r acc vacc fp σ2 σ' F2 H2 (a'.mono g2.f) hl' (g.trans g12) (l5.mono g12.f i2) (hok2 g12) (by omega) c1 c2 (λzs ez=>?_) #[ys,e4];refine hk zs ?_;show((pG tg _ _).bind fun σ2=>(pC Γp cond σ2).bind λb=>if b=W then _ else eB _ _ _ ds σ2)=_;rw[e1];show((pC Γp cond _).bind λb=>if b=W then _ else _)=_;rw[e3];exact ez
 |true=>
  rw[aQ rfl];let#[y,e5,e6]:=cu e4;let#[zs,e7,e8]:=cu e6;refine he (a'.mono g2.f) g2.s ?_;rw[e5];intro F3 H3 w f3 g3 fr3 r3;have g123:=g12.trans g3;let#[c1,c2]:=fresh1 g123;have hx:∀a∈fp,∃o,H a=M o:=λa ha=>by
   let#[o,e,_]:=aX.ex acc vacc fp ra a ha;exact#[o,e]
  have fr':=jC.app (H1:=H) g.h fr hx c2.nf #[fr3.nd,λa ha=>bh.none g12.h<|fr3.nh a ha,fr3.nf];refine Mu hc he ok H0 F0 ds r (acc++[y]) (vacc++[w]) (fp++f3) σ2 σ' F3 H3 (a'.mono<|g2.f.trans g3.f) hl' (g.trans g123) (l5.mono g123.f i2) (hok2 g123) (by simp;omega) (aX.app c1<|aX.one r3) fr' (λzs' ez=>?_) #[zs,e7];rw[bR];refine hk (y::zs') ?_;show((pG tg _ _).bind fun σ2=>(pC Γp cond σ2).bind λb=>if b=W then(pE Γp elt σ2).bind λy=>(eB (pG tg) (pC Γp cond) (pE Γp elt) ds σ2).bind λys=>.c (y::ys)else _)=_;rw[e1];show((pC Γp cond _).bind λb=>if b=W then(pE Γp elt σ2).bind λy=>(eB (pG tg) (pC Γp cond) (pE Γp elt) ds σ2).bind λys=>.c (y::ys)else _)=_;rw[e3];show((pE Γp elt σ2).bind λy=>(eB (pG tg) (pC Γp cond) (pE Γp elt) ds σ2).bind λys=>.c (y::ys))=_;rw[e5];show((eB (pG tg) (pC Γp cond) (pE Γp elt) ds σ2).bind λys=>.c (y::ys))=_;rw[ez];rfl
end
end L3
end
section
namespace L2
open PySem PySem.W PySem.Calls PyProof.Rows
theorem Ue{α:Type}{aaf:α->Prop}{lt lt':Nat->Nat->Bool}(h:∀i j,i<n->j<n->lt i j=lt' i j):∀t:KasT α,KBd n aaf t->vP lt t=vP lt' t
|.ret _,_=>rfl
|.ask i j k,hb=>by
 show vP lt (k<|lt i j)=vP lt' (k<|lt' i j);rw[<-h i j hb.1 hb.2.1];exact Ue h _<|hb.2.2 _
def Xh(n:Nat)(lt:Nat->Nat->Bool):(rG n lt).Perm (bg n):=by
 unfold rG;split
 .rfl
 .have hP:mh n (vP lt<|qR n):=Fe _ _ (yQ<|by omega);exact hP.2.toList
def Di{α:Type}[JW α](κ:α->L Key)(xs:L α):L α:=(iQ<|xs.map κ).map λi=>xs.getD i default
section
variable{α:Type} [JW α] {κ:α->L Key}
def abI:∀i∈iQ kss,i<zl kss:=yR _ _
def abJ(xs:L α):zl (Di κ xs)=zl xs:=by
 unfold Di iQ;rw[ai,vD,ai]
def range_getD(xs:L α):(bg<|zl xs).map (λi=>xs.getD i default)=xs:=by
 apply ng
 .simp
 .intro i a b;simp[bS,aB b]
def Xi(xs:L α):(Di κ xs).Perm xs:=by
 have h:=(Xh (zl xs)<|LJ<|xs.map κ).map λi=>xs.getD i default;rw[range_getD]at h;unfold Di iQ;rw[ai];exact h
def aeL{xs:L α}(h:i<zl xs):(xs.map κ).getD i []=κ (xs.getD i default):=by simp_all
end
end L2
end
section
namespace L3
open PySem L2
section
variable{K:ak}{Γp:L PG}{Y:L G}
mutual
theorem Pj:∀d:D,bW (bW d)=bW d
|.g=>rfl
|.e _=>rfl
|.a _=>rfl
|.c _=>rfl
|.b o xs=>by show D.b J (aH<|aH xs)=_;rw[ju xs];rfl
|.d xs=>by show D.d (aH<|aH xs)=_;rw[ju xs];rfl
|.f o ks xs=>by show D.f J ks (aH<|aH xs)=_;rw[ju xs];rfl
|.j=>rfl
|.h o ks xs=>by show D.h J ks (aH<|aH xs)=_;rw[ju xs];rfl
|.i C ks xs=>by show D.i C ks (aH<|aH xs)=_;rw[ju xs];rfl
theorem ju:∀ds:L D,aH (aH ds)=aH ds
|[]=>rfl
|d::r=>by show bW (bW d)::aH (aH r)=_;rw[Pj d,ju r];rfl
end
def PV.isOk[Ex](h:PV K F H r Q)(n:r.cg):∃d,r=.c d:=h.some n
def PI'.isOk[Ex]{k:(Hp->Prop)->L Item->Hp->Prop}(h:PI' K A F H r k)(n:r.cg):∃d,r=.c d:=by
 cases r with
 |c d=>exact#[d,rfl]
 |e x=>exact aC rfl<|n x
 |d=>cases h
def PB.isOk[Ex]{α:Type}{F H:Hp}{r:R α}{Q:α->Hp->Prop}(h:PB K F H r Q)(n:r.cg):∃d,r=.c d:=by
 cases r with
 |c d=>exact#[d,rfl]
 |e x=>exact aC rfl<|n x
 |d=>cases h
def HJ{α:Type}{r:R α}{a:α}(h:r.ly=.c a):r=.c a:=by
 cases r with
 |c b=>exact h
 |e x=>cases h
 |d=>cases h
def abK{x:aah PG}{p:Addr×L Addr}(h:aeD x=M p):x=M (.b p.1 p.2):=by
 cases x with
 |none=>exact nU h
 |some y=>cases y<;>first|exact nU h|(cases h;rfl)
theorem FN{Γp:L PG}{Y:L G}(hΓ:d7 K Γp Y){c:aah Addr}:∀(gs:L Nat) {b:Bool},HD Γp gs c=M b->yd Y gs c=M b
|[],b,h=>h
|g::gs,b,h=>by
 let#[p,q,h]:=fL.mp h;let#[g',e1,e2]:=hΓ.get g<|abK q;cases g'<;>first|exact e2.elim|skip
 let#[rfl,rfl]:=e2;show(QG Y[g]?).bind _=_;rw[e1];cases c with
 |none=>exact FN hΓ gs h
 |some C=>
  have h:(if C∈p.2 then(if C=p.1 then M W else HD Γp gs (M C))else B)=M b:=h;show(if C∈p.2 then(if C=p.1 then M W else yd Y gs (M C))else B)=M b;by_cases hC:C∈p.2
  .rw[aQ hC]at h ⊢;by_cases hD:C=p.1
   .rw[aQ hD]at h ⊢;exact h
   .rw[aE hD]at h ⊢;exact FN hΓ gs h
  .rw[aE hC]at h;cases h
set_option tactic.hygienic true
theorem Pk{Γp:L PG}{Y:L G}(hΓ:d7 K Γp Y):∀(gs:L Nat),W9 Γp gs=W->∃Ds,C9 Y gs Ds
|[],_=>#[[],rfl]
|g::gs,h=>by
 unfold W9 at h;rw[iU]at h;let#[h1,h2]:=aS.mp h;let#[Ds,hD]:=Pk hΓ gs h2;cases q:Γp[g]? with
 |none=>rw[q]at h1;cases h1
 |some p=>
  let#[g',e1,e2]:=hΓ.get g q;rw[q]at h1;cases p<;>first|cases h1|skip
  cases g'<;>first|exact e2.elim|skip
  rename_i D Cs _ _;let#[rfl,rfl]:=e2;exact#[_,_,_,_,rfl,e1,hD]
def Mv(Γp:L PG)(gs:L Nat)(x:D):(yi Γp gs x).cg:=cg.bP (by cases x<;>first|exact cg.bad|exact cg.opt)
def Mw(Γp:L PG)(g:Nat)(x:D):(yj Γp g x).cg:=by
 unfold yj;cases Γp[g]? with
 |none=>exact cg.bad
 |some p=>cases p<;>first|exact cg.bad|(cases x<;>first|exact cg.bad|exact cg.ok|exact cg.bP cg.ok)
def Z2{Γp:L PG}{Y:L G}(hΓ:d7 K Γp Y){gs:L Nat}{x:D}{v:V}{F H:Hp}{b:Bool}{Q:Bool->Prop}(s:bh F H)(r:bf K F x v)(e:yi Γp gs x=.c b)(q:Q b):LS Y gs v H Q:=by
 unfold yi at e;let#[c,e]:=oF e;simp only[cK,iJ]at c;let#[#[c1,c2],c3]:=c;refine#[(λz=>by subst z;cases c1),c2,Pk hΓ gs c3,?_];cases x<;>first|cases e|skip
 .cases r;exact .inl #[rfl,b,FN hΓ gs<|jj e,q]
 .obtain⟨a,d,vs,rfl,h2,h3,h4⟩:=r;exact .inr #[a,rfl,J,_,d,_,s _ _ h2,h3.same s,b,FN hΓ gs<|jj e,q]
def Z3{Γp:L PG}{Y:L G}(hΓ:d7 K Γp Y){g:Nat}{x:D}{v:V}{F H:Hp}{b:Bool}{Q:Bool->Prop}(s:bh F H)(r:bf K F x v)(e:yj Γp g x=.c b)(q:Q b):QH Y g v H Q:=by
 unfold yj at e;cases z:Γp[g]? with
 |none=>rw[z]at e;cases e
 |some p=>
  let#[g',e1,e2]:=hΓ.get g z;rw[z]at e;cases p<;>first|cases e|skip
  cases g'<;>first|exact e2.elim|skip
  let#[rfl,rfl]:=e2;cases x<;>first|cases e|skip
  .cases r;exact#[_,_,e1,.inl #[rfl,q]]
  .obtain⟨a,d,vs,rfl,h2,h3,h4⟩:=r;let#[c,e]:=oF e;cases e;exact#[_,_,e1,.inr #[a,rfl,J,_,d,_,s _ _ h2,h3.same s,ay c,q]]
def PB.Z5[Ex]{F H:Hp}{r:R D}{Q:Bool->Hp->Prop}(h:PB K F H (r.bind kB) Q):PV K F H r (λx H1=>mW K x H1 λb=>Q b H1):=by
 refine h.nV λx F1 H1 v g r hb=>?_;let#[b,e]:=hb.isOk<|Ae x;rw[e]at hb;exact Q4 g.s r e<|hb F1 H1<|bX.refl g.s
def Jl(F:Hp):bh (λ_=>B) F:=λb o h=>by cases h
def Xj(r:bf K F x v)(h:yh x=.c ds):zl ds<=ao:=by
 cases x with
 |b o xs=>cases h;let#[a,vs,_,_,h3,h4]:=r;rw[tD,<-h4.len];exact h3
 |d xs=>cases h;let#[a,vs,_,_,h3,h4]:=r;rw[tD,<-h4.len];exact h3
 |_=>cases h
def ago{G H:Hp}{k:(Hp->Prop)->L Item->Hp->Prop}(s:bh G H)(r:bf K G x v)(e:yh x=.c ds)(h:∀ok its,(∀H'',bh G H''->ok H'')->l5 K G ds its->zl ds<=ao->k ok its H):Hj K v H k:=by
 have hl:=Xj r e;cases x with
 |b o xs=>
  cases e;let#[a,vs,rfl,h2,h3,h4]:=r;exact#[J,vs,(Rd.seq h2).same' s,h _ _ (λ_ s'=>(Rd.seq h2).same' s') (BS h4) hl]
 |d xs=>
  cases e;let#[a,vs,rfl,h2,h3,h4]:=r;exact#[W,vs,(tupS h2).same' s,h _ _ (λ_ s'=>(tupS h2).same' s') (BS h4) hl]
 |_=>cases e
def agp{k:(Hp->Prop)->L Item->Hp->Prop}(r:aR K F ds vs)(e:BK ds=.c is)(h:∀its,(∀G,l5 K G is its)->zl is<=ao->k (λ_=>True) its H):Fk vs H k:=by
 have hs:=szl;let#[x,e1,e]:=cu e;let#[j,e2,e]:=cu e;rw[HH<|jj e1,mH<|jj e2]at r;let#[v,r',rfl,rfl,rfl]:=r;let#[c,e3]:=oF e;cases e3;have c:=ay c;refine#[#[c.1,by omega],h _ (λG=>?_) (by unfold gj;rw[ai,gO];exact c.2)];have q:=Ub (K:=K) (F:=G) 0 j.toNat;simpa using q
theorem BU(i:Int):∀l:L Nat,aH (l.map λ(k:Nat)=>D.a<|i+(k:Int))=(l.map λ(k:Nat)=>D.a<|i+(k:Int))/\aR K F (l.map λ(k:Nat)=>D.a<|i+(k:Int)) (l.map λ(k:Nat)=>V.b<|i+(k:Int))
|[]=>#[rfl,rfl]
|k::r=>by
 let#[a,b]:=BU i r;exact#[by show D.a _::aH (r.map λ(k:Nat)=>D.a<|i+(k:Int))=_;rw[a];rfl,#[_,_,rfl,rfl,b]]
def agq[Ex](s:bh F H)(r:aR K F ds vs)(h:PV K F H (Mn ds) Q):WD vs H Q:=by
 let#[#[a,b],e1,h]:=PV.j9 h;let#[i,e2,h]:=PV.j9 h;let#[j,e3,h]:=PV.j9 h;rw[Dg e1,mH e2,mH e3]at r;let#[v,r',rfl,rfl,u,r2,rfl,rfl,rfl]:=r;let#[c,h]:=PV.bP h;have c:=ay c;let#[e1,e2]:=BU (K:=K) (F:=F) i<|bg (j-i).toNat;have h:PV K F H (.c<|.d<|aH<|(bg (j-i).toNat).map λ(k:Nat)=>D.a<|i+(k:Int)) Q:=by rw[e1];exact h
 exact#[i,j,rfl,c,λp hp=>h.tup s e2 (by rw[ai,gO,cB];omega) hp]
theorem f7{α:Type}(f:α->D)(h:∀a,bW (f a)=f a):∀l:L α,aH (l.map f)=l.map f
|[]=>rfl
|a::r=>by show bW (f a)::aH (r.map f)=_;rw[h a,f7 f h r];rfl
theorem Pn:∀(ks:L<|L Key) {F H:Hp}{k:L Addr->Hp->Prop},bh F H->(∀ts F1 H1,bX F H F1 H1->jF F1 ks ts->k ts H1)->Fp ks H k
|[],F,H,k,s,h=>h [] F H (bX.refl s) .nil
|x::ks,F,H,k,s,h=>λp hp=>by
 have hf:=bh.none s hp;have g:bX F H (upd F p<|.b<|x.map kV) (upd H p<|.b<|x.map kV):=by
  refine#[λb u q=>by rw[bq<|bZ q hp];exact q,λb u q=>by rw[bq<|bZ q hf];exact q,λb u q=>?_,λb o q q'=>?_]
  .by_cases hb:b=p
   .subst hb;rw[c5]at q ⊢;exact q
   .rw[bq hb]at q ⊢;exact s b u q
  .by_cases hb:b=p
   .subst hb;exact NT.of hp
   .rw[bq hb,q']at q;cases q
 refine Pn ks g.s λts F1 H1 g1 ht=>h (p::ts) F1 H1 (g.trans g1)<|.cons (g1.f p _ c5) ht
theorem Po:∀{ks:L Key}{xs:L D}{kvs:L<|Key×V}{ps:L<|Str×Int},Ac ks xs=M ps->kvs.map (·.1)=ks->aR K F xs (kvs.map (·.2))->kvs=ps.map λp:Str×Int=>(eG p.1,V.b p.2)
|[],[],kvs,ps,h,h1,_=>by
 cases h;cases kvs with
 |nil=>rfl
 |cons _ _=>cases h1
|.inr x::ks,d::xs,kvs,ps,h,h1,h2=>by
 cases d<;>first|(cases h;done)|skip
 cases kvs with
 |nil=>cases h1
 |cons kv kvs=>
  let#[k,v]:=kv;let#[qs,e1,rfl]:=fj.mp h;let#[w,r,e2,e3,e4]:=h2;cases e2;cases h1;cases e3;rw[Po e1 rfl e4];rfl
|[],_::_,_,_,h,_,_=>by cases h
|.inr _::_,[],_,_,h,_,_=>by cases h
|.inl _::_,_,_,_,h,_,_=>by cases h
theorem Mx:∀{ps:L<|Str×Int},keysOk (ps.map λp=>(eG p.1:Key))=W->qX (l0 ps)=W
|[],_=>rfl
|p::ps,h=>by
 obtain⟨h1,h2⟩:keyOk (.inr p.1)=W/\keysOk (ps.map λp=>(eG p.1:Key))=W:=by simpa[keysOk]using h
 have h3:=Mx h2;have h4:t9 [.inr p.1,.inl p.2]=W:=by
  have:2<=ao:=by rw[cB];lia
  unfold t9 keysOk;simp[h1,keyOk,this];exact ay h1
 show(t9 _&&_)=W;rw[h4];exact h3
def agr[Ex](s:bh F H)(r:bf K F d v)(h:PV K F H (Hz d) Q):WG v H Q:=by
 cases d<;>first|exact h.elim|skip
 rename_i o ks xs;let#[a,kvs,rfl,h1,h2,#[h3,h4],h5]:=r;have h:PV K F H ((R.opt<|Ac ks xs).bind λps=>.bP (decide<|zl ps<64)<|.c<|.b W<|o_<|l0 ps) Q:=h;cases e:Ac ks xs with
 |none=>rw[e]at h;exact h.elim
 |some ps=>
  rw[e]at h;let#[c,h]:=PV.bP h;have ek:=Po e h3 h5;subst ek;have h64:=ay c;rw[<-h3,bV]at h4;refine#[a,ps,rfl,.inl<|s a _ h1,h64,Pn _ s λts F1 H1 g ht p hp=>(h.grow g).sorted g.s (Mx h4) ?_ (Paired.imp' (λk t e=>g.s t _ e) ht) hp];unfold sortable;rw[cK];refine#[by rw[l0,ai];exact c,bN.mpr λk hk=>?_];rw[cK];refine#[?_,bN.mpr λq hq=>IV k hk q hq];let#[p,_,rfl]:=bK.mp hk;rfl
theorem Jm:∀{ds:L D}{vs:L V},aR K F ds vs->aR K F ds.reverse vs.reverse
|[],_,h=>by cases h;rfl
|d::ds,_,h=>by
 let#[v,r,rfl,h1,h2]:=h;rw[iH,iH];exact aR.app (Jm h2) #[v,[],rfl,h1,rfl]
def ags[Ex](s:bh F H)(r:bf K F d v)(h:PV K F H (W8 d) Q):WJ v H Q:=by
 cases d<;>first|exact h.elim|skip
 let#[a,vs,rfl,h1,h2,h3]:=r;exact#[a,vs,rfl,Rd.same s h1,λp hp=>PV.lst h s (Jm h3) (by simp_all) hp]
def agt[Ex]{d:D}{v:V}{F H:Hp}{Q:VK}(s:bh F H)(r:bf K F d v)(h:PV K F H (HC d) Q):WI v H Q:=by
 cases d<;>first|exact h.elim|skip
 rename_i n;cases(show v=.b n from r);let#[c,h]:=PV.bP (show PV K F H (.bP (decide<|0<=n/\n.toNat<=2 ^ 24)<|.c<|.b W<|(bg n.toNat).map λ(k:Nat)=>D.a (k:Int)) Q from h);have c:=ay c;have e0:(λ(k:Nat)=>D.a<|(0:Int)+(k:Int))=λ(k:Nat)=>D.a (k:Int):=by funext k;rw[sC]
 have e1:(λ(k:Nat)=>V.b<|(0:Int)+(k:Int))=λ(k:Nat)=>V.b (k:Int):=by funext k;rw[sC]
 let#[a,b]:=BU (K:=K) (F:=F) 0<|bg n.toNat;rw[e0]at a b;rw[e1]at b;exact#[n,rfl,c,λp hp=>PV.lst (ds:=(bg n.toNat).map λ(k:Nat)=>D.a (k:Int)) (by rw[a];exact h) s b (by rw[ai,gO,cB];lia) hp]
def PV.unk[Ex]{Q:VK}{p:Addr}{F H:Hp}(h:PV K F H (.c .j) Q)(s:bh F H)(hp:H p=B)(vs:L V):Q (.a p) (upd H p<|.a vs):=by
 have fp:F p=B:=bh.none s hp;refine h (upd F p<|.a vs) _ _ [] #[λb u q=>by rw[bq<|bZ q hp];exact q,λb u q=>by rw[bq<|bZ q fp];exact q,λb u q=>?_,λb o q z=>?_] #[gz,nofun,nofun] #[#[p,vs,rfl,c5],rfl]
 .by_cases e:b=p
  .rw[e,c5]at q ⊢;exact q
  .rw[bq e]at q ⊢;exact s b u q
 .by_cases e:b=p
  .rw[e,hp];trivial
  .rw[bq e,z]at q;cases q
def agu[Ex]{d:D}{v:V}{F H:Hp}{Q:VK}(s:bh F H)(r:bf K F d v)(h:PV K F H (HA d) Q):WH v H Q:=by
 cases d<;>first|exact h.elim|skip
 rename_i o xs;let#[a,vs,rfl,h1,h2,h3]:=r;have h:PV K F H ((R.opt<|tV xs).bind λkss=>.bP (sortable kss&&decide (zl kss<=18))<|.c .j) Q:=h;cases e:tV xs with
 |none=>rw[e]at h;exact h.elim
 |some kss=>
  rw[e]at h;let#[c,h]:=PV.bP h;rw[cK]at c;let#[ts,rfl,e2]:=Ji h3 e;exact#[a,ts,kss,rfl,Rd.same s h1,DV s e2,c.1,ay c.2,λp vs hn=>PV.unk h s hn vs]
def band'(h:(a&&b)=W):a=W/\b=W:=by simpa using h
theorem aeM(n:Xa K H O U):∀(ps:L<|Str×Nat) (a y:Str),T4 O ps a=M y->ZN U ps a=M y
|[],a,y,h=>h
|p::r,a,y,h=>by
 have h:(match O[p.2]? with
  |some (M d)=>(HE d).bind λy=>T4 O r<|a++p.1++y
  |_=>B)=M y:=h
 show(match U[p.2]? with
  |some (M v)=>(QI v).bind λy=>ZN U r<|a++p.1++y
  |_=>B)=M y
 cases q:O[p.2]? with
 |none=>rw[q]at h;cases h
 |some o=>
  cases o with
  |none=>rw[q]at h;cases h
  |some d=>
   rw[q]at h;let#[v,F',h1,_,h2]:=n p.2 d q;rw[h1];have e:∀z,HE d=M z->QI v=M z:=λz hz=>by
    cases d<;>first|cases hz|skip
    .cases h2;exact hz
    .obtain⟨rfl,_⟩:=h2;rfl
   cases c:HE d with
   |none=>have h:(HE d).bind (λy=>T4 O r<|a++p.1++y)=M y:=h;rw[c]at h;cases h
   |some z=>
    have h:(HE d).bind (λy=>T4 O r<|a++p.1++y)=M y:=h;rw[c]at h;show(QI v).bind (λy=>ZN U r<|a++p.1++y)=M y;rw[e z c];exact aeM n r _ y h
def agv[Ex](h:PV K F H (jR .a [x]) Q)(s:bh F H):PV K F' H (jR .a [x]) Q:=by
 cases x<;>first|exact PV.int h s|exact h.elim
def Z6[Ex](n:Xa K H O U)(s:bh F H)(hl:xZ f as=W)(h:PV K F H ((ic Γp as O).bind λds=>jR f ds) Q):wEs K Y Ex.E as U H λvs H1=>Bu K f vs H1 Q:=by
 cases f<;>first|cases hl;done|skip
 cases as with
 |nil=>cases hl
 |cons a r=>
  cases a<;>first|cases hl;done|skip
  rename_i k;cases r with
  |cons _ _=>cases hl
  |nil=>
  have h:PV K F H (((match O[k]? with
   |some (M d)=>R.c<|bW d
   |_=>.d).bind λx=>(R.c []).bind λxs=>.c (x::xs)).bind λds=>jR .a ds) Q:=h
  cases q:O[k]? with
  |none=>rw[q]at h;exact h.elim
  |some o=>
   cases o with
   |none=>rw[q]at h;exact h.elim
   |some d=>
    rw[q]at h;let#[v,F',h1,h2,h3]:=n k d q;exact#[v,h1,Q5 h2 (show aR K F' [bW d] [v]from#[v,[],rfl,(bf.bW d v).mpr h3,rfl]) (agv (show PV K F H (jR .a [bW d]) Q from h) s)]
set_option tactic.hygienic false
def Ug(hΓ:d7 K Γp Y)[Ex](hE:∀QA:L V->Hp->Prop,AV K F H (ic Γp as O) QA->wEs K Y Ex.E as U H QA)(h:PV K F H (pE Γp (.c g as) O) Q):wE K Y Ex.E (.c g as) U H Q:=by
 have h:PV K F H (match Γp[g]? with
  |some (.a m dds)=>(ic Γp as O).bind λds=>m<|aH ds++dds
  |_=>.d) Q:=h
 show(match Y[g]? with
  |some (.a sp dvs)=>wEs K Y Ex.E as U H λvs H1=>sp (vs++dvs) H1 Q Ex.E
  |_=>bu)
 cases q:Γp[g]? with
 |none=>rw[q]at h;exact h.elim
 |some p=>
  let#[g',e1,e2]:=hΓ.get g q;rw[q]at h;rw[e1];cases p<;>first|exact h.elim|skip
  .rename_i m dds;cases g'<;>first|exact e2.elim|skip
   .rename_i sp dvs;refine hE _<|AV.FL h λds F1 H1 vs g1 r1 h1=>?_;exact e2.1 _ _ _ _ #[F1,aH ds++dds,g1.s,by rw[qN,ju,e2.2.1],aR.app ((aR.aH ds vs).mpr r1)<|aR.mono (Jl F1) dds dvs e2.2.2,h1]
set_option tactic.hygienic true in
mutual
theorem gQ(hΓ:d7 K Γp Y)[Ex]:∀(e:CE) {O:a_}{U:L2.St}{F H:Hp}{Q:VK},lA K F H (cz e) O U->bh F H->eF e=W->PV K F H (pE Γp e O) Q->wE K Y Ex.E e U H Q
|.a i,O,U,F,H,Q,env,s,lt,h=>by
 have h:PV K F H (match O[i]? with
  |some (M d)=>.c<|bW d
  |_=>.d) Q:=h
 cases q:O[i]? with
 |none=>rw[q]at h;exact h.elim
 |some o=>
  cases o with
  |none=>rw[q]at h;exact h.elim
  |some d=>
   rw[q]at h;let#[v,h1,h2]:=env.e i (aL.mpr rfl) d q;exact#[v,h1,h.here s h2]
|.e v,O,U,F,H,Q,env,s,lt,h=>by
 have h:PV K F H (BJ v) Q:=h;show Q v H;unfold BJ at h;cases v<;>first|exact h.elim|exact h.flat s ⟨rfl,rfl⟩|exact h.flat s ⟨⟨rfl,ay lt⟩,rfl⟩
|.g op a b,O,U,F,H,Q,env,s,lt,h=>by
 let#[l1,l2]:=band' lt;refine gQ hΓ a env.l s l1 (PV.bind (show PV K F H ((pE Γp a O).bind λx=>(pE Γp b O).bind λy=>mY op x y) Q from h) λx F1 H1 v g1 r1 h1=>?_);refine gQ hΓ b (env.r.mono g1) g1.s l2<|h1.bind λy F2 H2 u g2 r2 h2=>?_;exact agn g2.s (bf.mono g2.f x v r1) r2 h2
|.y a,O,U,F,H,Q,env,s,lt,h=>by
 refine gQ hΓ a env s lt (PV.bind (show PV K F H ((pE Γp a O).bind λx=>Ad x) Q from h) λx F1 H1 v g1 r1 h1=>?_);cases x with
 |b o ds=>
  have h1:PV K F1 H1 (match kY ds with
   |some ss=>.bP (decide<|zl ss<4000)<|.c<|.a<|zl<|kX ss
   |none=>.d) Q:=h1
  split at h1
  .rename_i ss e1;let#[c,h1]:=PV.bP h1;let#[b,us,rfl,k2,k3,k4]:=r1;have e2:=BR k4 e1;subst e2;exact#[b,ss,rfl,Rd.same g1.s k2,ay c,h1.flat g1.s #[rfl,rfl]]
  .exact h1.elim
 |_=>cases h1
|.m a,O,U,F,H,Q,env,s,lt,h=>by
 refine gQ hΓ a env s lt (PV.bind (show PV K F H ((pE Γp a O).bind λx=>match x with|.a i=>.c (.a<|-i)|_=>.d) Q from h) λx F1 H1 v g1 r1 h1=>?_);cases x with
 |a i=>cases r1;exact h1.flat g1.s #[rfl,rfl]
 |_=>cases h1
|.p a,O,U,F,H,Q,env,s,lt,h=>by
 refine gQ hΓ a env s lt (PV.bind (show PV K F H ((pE Γp a O).bind λx=>(kB x).bind λb=>.c<|.e<|!b) Q from h) λx F1 H1 v g1 r1 h1=>?_);let#[d,e]:=h1.isOk<|cg.bind (Ae x) λ_=>cg.ok;let#[b,e1,e2]:=cu e;rw[e1]at h1;exact Q4 g1.s r1 e1<|h1.flat g1.s #[rfl,rfl]
|.l a b,O,U,F,H,Q,env,s,lt,h=>by
 let#[l1,l2]:=band' lt;refine gQ hΓ a env.l s l1 (PV.bind (show PV K F H ((pE Γp a O).bind λx=>match x with|.e c=>if c=W then pE Γp b O else .c (.e J)|_=>.d) Q from h) λx F1 H1 v g1 r1 h1=>?_);cases x with
 |e c=>
  cases r1;cases c with
  |true=>exact gQ hΓ b (env.r.mono g1) g1.s l2 h1
  |false=>exact h1.flat g1.s #[rfl,rfl]
 |_=>cases h1
|.o a b,O,U,F,H,Q,env,s,lt,h=>by
 let#[l1,l2]:=band' lt;refine gQ hΓ a env.l s l1 (PV.bind (show PV K F H ((pE Γp a O).bind λx=>match x with|.e c=>if c=W then .c (.e W)else pE Γp b O|_=>.d) Q from h) λx F1 H1 v g1 r1 h1=>?_);cases x with
 |e c=>
  cases r1;cases c with
  |false=>exact gQ hΓ b (env.r.mono g1) g1.s l2 h1
  |true=>exact h1.flat g1.s #[rfl,rfl]
 |_=>cases h1
|.q c a b,O,U,F,H,Q,env,s,lt,h=>by
 let#[l1,l2]:=band' lt;let#[l2,l3]:=band' l2;refine AW hΓ c env.l s l1 (PV.bindB (K:=K) (show PV K F H ((pT Γp c O).bind λk=>if k=W then pE Γp a O else pE Γp b O) Q from h) λk F1 H1 g1 h1=>?_);cases k with
 |true=>exact gQ hΓ a (env.r.l.mono g1) g1.s l2 h1
 |false=>exact gQ hΓ b (env.r.r.mono g1) g1.s l3 h1
|.d op a b,O,U,F,H,Q,env,s,lt,h=>by
 let#[l1,l2]:=band' lt;refine gQ hΓ a env.l s l1 (PV.bind (show PV K F H ((pE Γp a O).bind λx=>(pE Γp b O).bind λy=>gY op x y) Q from h) λx F1 H1 v g1 r1 h1=>?_);refine gQ hΓ b (env.r.mono g1) g1.s l2<|h1.bind λy F2 H2 u g2 r2 h2=>?_;exact Dh g2.s (bf.mono g2.f x v r1) r2 h2
|.t o1 o2 a b c,O,U,F,H,Q,env,s,lt,h=>by
 let#[l1,l2]:=band' lt;let#[l2,l3]:=band' l2;refine gQ hΓ a env.l s l1 (PV.bind (show PV K F H ((pE Γp a O).bind λx=>(pE Γp b O).bind λy=>(gY o1 x y).bind λz=>match z with|.e k=>if k=W then(pE Γp c O).bind λu=>gY o2 y u else .c (.e J)|_=>.d) Q from h) λx F1 H1 v g1 r1 h1=>?_);refine gQ hΓ b (env.r.l.mono g1) g1.s l2<|h1.bind λy F2 H2 u g2 r2 h2=>?_;refine Dh g2.s (bf.mono g2.f x v r1) r2<|h2.bind λz F3 H3 w g3 r3 h3=>?_;cases z with
 |e k=>
  cases r3;cases k with
  |true=>exact gQ hΓ c (env.r.r.mono<|g1.trans<|g2.trans g3) g3.s l3 (PV.bind (show PV K F3 H3 ((pE Γp c O).bind λu=>gY o2 y u) Q from h3) λz F4 H4 w g4 r4 h4=>Dh g4.s (bf.mono (g3.f.trans g4.f) y u r2) r4 h4)
  |false=>exact h3.flat g3.s #[rfl,rfl]
 |_=>cases h3
|.c g as,O,U,F,H,Q,env,s,lt,h=>Ug hΓ (λ_ h=>tE hΓ as env s lt h) h
|.h f as,O,U,F,H,Q,env,s,lt,h=>by
 by_cases hl:xZ f as=W
 .exact Z6 env.n s hl h
 have env:lA K F H (jA as) O U:=by
  have e:lA K F H (if xZ f as=W then[]else jA as) O U:=env;rw[aE hl]at e;exact e
 refine tE hΓ as env s lt (AV.FL (show PV K F H ((ic Γp as O).bind λds=>jR f ds) Q from h) λds F1 H1 vs g1 r1 h1=>Q5 g1.s r1 h1)
|.v a t,O,U,F,H,Q,env,s,lt,h=>by
 refine gQ hΓ a env s lt (PV.bind (show PV K F H ((pE Γp a O).bind λx=>.bP (v8 x)<|.c<|.e<|BI t x) Q from h) λx F1 H1 v g1 r1 h1=>?_);let#[hn,h1]:=h1.bP;exact Z0 g1.s r1 hn<|h1.flat g1.s #[rfl,rfl]
|.i m o as,O,U,F,H,Q,env,s,lt,h=>by
 let#[l1,l2]:=band' lt;refine gQ hΓ o env.l s l1 (PV.bind (show PV K F H ((pE Γp o O).bind λx=>(ic Γp as O).ly.bind λds=>uM m x ds) Q from h) λx F1 H1 v g1 r1 h1=>?_);let#[d,e]:=h1.isOk<|cg.bind (cg.ly _) λ_=>Mp _ _ _;let#[ds,e1,e2]:=cu e;have e1':=HJ e1;rw[e1,<-e1']at h1;refine#[Ua g1.s r1 e2,tE hΓ as (env.r.mono g1) g1.s l2<|AV.FL h1 λds F2 H2 vs g2 r2 h2=>?_];exact Z1 g2.s (bf.mono g2.f x v r1) r2 h2
|.b a b,O,U,F,H,Q,env,s,lt,h=>by
 let#[l1,l2]:=band' lt;refine gQ hΓ a env.l s l1 (PV.bind (show PV K F H ((pE Γp a O).bind λx=>(pE Γp b O).bind λy=>t_ x y) Q from h) λx F1 H1 v g1 r1 h1=>?_);refine gQ hΓ b (env.r.mono g1) g1.s l2<|h1.bind λy F2 H2 u g2 r2 h2=>?_;exact aeG g2.s (bf.mono g2.f x v r1) r2 h2
|.r a lo hi,O,U,F,H,Q,env,s,lt,h=>by
 let#[l1,l2]:=band' lt;let#[l2,l3]:=band' l2;refine gQ hΓ a env.l s l1 (PV.bind (show PV K F H ((pE Γp a O).bind λx=>(pO Γp lo O).bind λl=>(pO Γp hi O).bind λh=>Mm x l h) Q from h) λx F1 H1 v g1 r1 h1=>?_);refine ruO hΓ lo (env.r.l.mono g1) g1.s l2<|h1.bindB λl F2 H2 g2 h2=>?_;refine ruO hΓ hi (env.r.r.mono<|g1.trans g2) g2.s l3<|h2.bindB λl' F3 H3 g3 h3=>?_;exact okSl g3.s (bf.mono (g2.f.trans g3.f) x v r1) h3
|.k as,O,U,F,H,Q,env,s,lt,h=>by
 have h:PV K F H ((ic Γp as O).bind λds=>.bP (decide<|zl ds<=ao)<|.c<|.b W ds) Q:=h;refine tE hΓ as env s lt ?_;cases e1:ic Γp as O with
 |e x=>rw[e1]at h;exact h
 |d=>rw[e1]at h;exact h.elim
 |c ds=>
 rw[e1]at h;let#[c,h]:=PV.bP h;intro F1 H1 vs fp g fr r;have hl:zl vs<=ao:=by rw[r.len];exact ay c
 exact#[hl,λp hp=>h.aeJ g fr r hl hp]
|.f as,O,U,F,H,Q,env,s,lt,h=>by
 have h:PV K F H ((ic Γp as O).bind λds=>.bP (decide<|zl ds<=ao)<|.c<|.d ds) Q:=h;refine tE hΓ as env s lt ?_;cases e1:ic Γp as O with
 |e x=>rw[e1]at h;exact h
 |d=>rw[e1]at h;exact h.elim
 |c ds=>
 rw[e1]at h;let#[c,h]:=PV.bP h;intro F1 H1 vs fp g fr r;have hl:zl vs<=ao:=by rw[r.len];exact ay c
 exact#[hl,λp hp=>h.tupX g fr r hl hp]
|.u a,O,U,F,H,Q,env,s,lt,h=>
 gQ hΓ a env s lt (PV.bind (show PV K F H ((pE Γp a O).bind λx=>Hz x) Q from h) λx F1 H1 v g1 r1 h1=>agr g1.s r1 h1)
|.aa a,O,U,F,H,Q,env,s,lt,h=>
 gQ hΓ a env s lt (PV.bind (show PV K F H ((pE Γp a O).bind λx=>HC x) Q from h) λx F1 H1 v g1 r1 h1=>agt g1.s r1 h1)
|.ac a,O,U,F,H,Q,env,s,lt,h=>
 gQ hΓ a env s lt (PV.bind (show PV K F H ((pE Γp a O).bind λx=>W8 x) Q from h) λx F1 H1 v g1 r1 h1=>ags g1.s r1 h1)
|.x a,O,U,F,H,Q,env,s,lt,h=>
 gQ hΓ a env s lt (PV.bind (show PV K F H ((pE Γp a O).bind λx=>HA x) Q from h) λx F1 H1 v g1 r1 h1=>agu g1.s r1 h1)
|.z as,O,U,F,H,Q,env,s,lt,h=>
 tE hΓ as env s lt (AV.FL (show PV K F H ((ic Γp as O).bind λds=>Mn ds) Q from h) λds F1 H1 vs g1 r1 h1=>agq g1.s r1 h1)
|.w,O,U,F,H,Q,env,s,lt,h=>by
 intro p hp;have h:PV K F H (.c<|.h W [] []) Q:=h;let#[g,hf]:=newList (vs:=[]) (o:=.d []) s hp;refine h F _ (.a p) [p] g #[by simp,?_,?_] ?_
 .intro a ha;rw[aL.mp ha];exact hp
 .intro a ha;rw[aL.mp ha];exact hf
 .exact fQ p #[[],[],rfl,c5,c7 _,#[rfl,rfl],#[rfl,rfl],rfl]
|.ab,O,U,F,H,Q,env,s,lt,h=>by
 intro p hp;have h:PV K F H (.c<|.f W [] []) Q:=h;let#[g,hf]:=newList (vs:=[]) (o:=.c []) s hp;refine h F _ (.a p) [p] g #[by simp,?_,?_] ?_
 .intro a ha;rw[aL.mp ha];exact hp
 .intro a ha;rw[aL.mp ha];exact hf
 .exact fQ p #[[],[],rfl,c5,c7 _,#[rfl,rfl],#[rfl,rfl],rfl]
|.j nl fr elt tg src cond,O,U,F,H,Q,env,s,lt,h=>by
 let#[l1,l2]:=band' lt;let#[l2,l3]:=band' l2;have h:PV K F H ((pI Γp src O).bind λitems=>(eB (pG tg) (pC Γp cond) (pE Γp elt) items.2<|nl.map (λ_=>B)++fr.map λi=>O.getD i B).ly.bind λds=>.c<|.b W ds) Q:=h;refine ruI hΓ src [] env.l s (λ_ h=>aC h aO) l2 ?_;cases e1:pI Γp src O with
 |e x=>rw[e1]at h;exact h
 |d=>rw[e1]at h;exact h.elim
 |c items=>
 rw[e1]at h;have h:PV K F H ((eB (pG tg) (pC Γp cond) (pE Γp elt) items.2<|nl.map (λ_=>B)++fr.map λi=>O.getD i B).ly.bind λds=>.c<|.b W ds) Q:=h;let#[d,e]:=h.isOk<|cg.bind (cg.ly _) λ_=>cg.ok;let#[ys,e3,e4]:=cu e;rw[e]at h;cases e4;replace e3:=HJ e3;intro F1 H1 ok its g1 hok hi hl;rw[T6]at hok hi;refine@Mu K Γp Y ⟨E0⟩ E0 tg cond elt _ (λa s' hb=>@ruC hΓ ⟨E0⟩ cond _ _ _ _ _ (a.env s') s' l3 hb) (λa s' hv=>@gQ hΓ ⟨E0⟩ elt _ _ _ _ _ (a.env s') s' l1 hv) ok H1 F1 items.2 its [] [] [] _ _ F1 H1 (Uc<|env.r.mono g1) Ud (bX.refl g1.s) hi hok (by simpa using hl) #[rfl,rfl] .nil (λzs ez F' H' vs fp' g' r' fr' p hp=>?_) #[ys,e3];rw[e3]at ez;cases ez;have hz:zl vs<=ao:=by
  rw[r'.len,lT];have:∀(ds:L D) (O:a_) (ys:L D),eB (pG tg) (pC Γp cond) (pE Γp elt) ds O=.c ys->zl ys<=zl ds:=by
   intro ds;induction ds with
   |nil=>intro O ys h;cases h;exact aM _
   |cons d ds ih=>
    intro O ys h;let#[σ2,i1,i2]:=cu h;let#[b,i3,i4]:=cu i2;cases b with
    |false=>have:=ih σ2 ys i4;simp;omega
    |true=>
     let#[y,i5,i6]:=cu (show((pE Γp elt σ2).bind λy=>(eB (pG tg) (pC Γp cond) (pE Γp elt) ds σ2).bind λys=>.c (y::ys))=.c ys from i4);let#[zs,i7,i8]:=cu i6;cases i8;have:=ih σ2 zs i7;simp;omega
  have:=this items.2 _ ys e3;omega
 refine h.aeJ (g1.trans g') #[fr'.nd,λa ha=>bh.none g1.h<|fr'.nh a ha,fr'.nf] r' hz hp
|.n one gs a,O,U,F,H,Q,env,s,lt,h=>by
 refine gQ hΓ a env s lt (PV.bind (show PV K F H ((pE Γp a O).bind λx=>(yi Γp gs x).bind λb=>.c<|.e b) Q from h) λx F1 H1 v g1 r1 h1=>?_);let#[d,e]:=h1.isOk<|cg.bind (Mv _ _ _) λ_=>cg.ok;let#[b,e1,e2]:=cu e;rw[e1]at h1;exact Z2 hΓ g1.s r1 e1<|h1.flat g1.s #[rfl,rfl]
|.s g a,O,U,F,H,Q,env,s,lt,h=>by
 refine gQ hΓ a env s lt (PV.bind (show PV K F H ((pE Γp a O).bind λx=>(yj Γp g x).bind λb=>.c<|.e b) Q from h) λx F1 H1 v g1 r1 h1=>?_);let#[d,e]:=h1.isOk<|cg.bind (Mw _ _ _) λ_=>cg.ok;let#[b,e1,e2]:=cu e;rw[e1]at h1;exact Z3 hΓ g1.s r1 e1<|h1.flat g1.s #[rfl,rfl]
theorem AW(hΓ:d7 K Γp Y)[Ex]:∀(e:CE) {O:a_}{U:L2.St}{F H:Hp}{Q:Bool->Hp->Prop},lA K F H (cz e) O U->bh F H->eF e=W->PB K F H (pT Γp e O) Q->wT K Y Ex.E e U H Q
|.p a,O,U,F,H,Q,env,s,lt,h=>by
 exact AW hΓ a env s lt (PB.bindB (show PB K F H ((pT Γp a O).bind λb=>.c<|!b) Q from h) λb F1 H1 g1 h1=>h1 F1 H1<|bX.refl g1.s)
|.l a b,O,U,F,H,Q,env,s,lt,h=>by
 let#[l1,l2]:=band' lt;refine AW hΓ a env.l s l1 (PB.bindB (show PB K F H ((pT Γp a O).bind λc=>if c=W then pT Γp b O else .c J) Q from h) λc F1 H1 g1 h1=>?_);cases c with
 |true=>exact AW hΓ b (env.r.mono g1) g1.s l2 h1
 |false=>exact h1 F1 H1<|bX.refl g1.s
|.o a b,O,U,F,H,Q,env,s,lt,h=>by
 let#[l1,l2]:=band' lt;refine AW hΓ a env.l s l1 (PB.bindB (show PB K F H ((pT Γp a O).bind λc=>if c=W then .c W else pT Γp b O) Q from h) λc F1 H1 g1 h1=>?_);cases c with
 |false=>exact AW hΓ b (env.r.mono g1) g1.s l2 h1
 |true=>exact h1 F1 H1<|bX.refl g1.s
|.q c a b,O,U,F,H,Q,env,s,lt,h=>by
 let#[l1,l2]:=band' lt;let#[l2,l3]:=band' l2;refine AW hΓ c env.l s l1 (PB.bindB (show PB K F H ((pT Γp c O).bind λk=>if k=W then pT Γp a O else pT Γp b O) Q from h) λk F1 H1 g1 h1=>?_);cases k with
 |true=>exact AW hΓ a (env.r.l.mono g1) g1.s l2 h1
 |false=>exact AW hΓ b (env.r.r.mono g1) g1.s l3 h1
|.d op a b,O,U,F,H,Q,env,s,lt,h=>by
 let#[l1,l2]:=band' lt;refine gQ hΓ a env.l s l1 (PB.nV (show PB K F H ((pE Γp a O).bind λx=>(pE Γp b O).bind λy=>(gY op x y).bind λz=>match z with|.e k=>.c k|_=>.d) Q from h) λx F1 H1 v g1 r1 h1=>?_);refine gQ hΓ b (env.r.mono g1) g1.s l2<|h1.nV λy F2 H2 u g2 r2 h2=>?_;refine Dh g2.s (bf.mono g2.f x v r1) r2<|h2.nV λz F3 H3 w g3 r3 h3=>?_;cases z with
 |e k=>cases r3;exact h3 F3 H3<|bX.refl g3.s
 |_=>cases h3
|.t o1 o2 a b c,O,U,F,H,Q,env,s,lt,h=>by
 let#[l1,l2]:=band' lt;let#[l2,l3]:=band' l2;refine gQ hΓ a env.l s l1 (PB.nV (show PB K F H ((pE Γp a O).bind λx=>(pE Γp b O).bind λy=>(gY o1 x y).bind λz=>match z with|.e k=>if k=W then(pE Γp c O).bind λu=>(gY o2 y u).bind λz=>match z with|.e k=>.c k|_=>.d else .c J|_=>.d) Q from h) λx F1 H1 v g1 r1 h1=>?_);refine gQ hΓ b (env.r.l.mono g1) g1.s l2<|h1.nV λy F2 H2 u g2 r2 h2=>?_;refine Dh g2.s (bf.mono g2.f x v r1) r2<|h2.nV λz F3 H3 w g3 r3 h3=>?_;cases z with
 |e k=>
  cases r3;cases k with
  |true=>
   refine gQ hΓ c (env.r.r.mono<|g1.trans<|g2.trans g3) g3.s l3 (PB.nV (show PB K F3 H3 ((pE Γp c O).bind λu=>(gY o2 y u).bind λz=>match z with|.e k=>.c k|_=>.d) Q from h3) λz F4 H4 w g4 r4 h4=>?_);refine Dh g4.s (bf.mono (g3.f.trans g4.f) y u r2) r4<|h4.nV λz F5 H5 w g5 r5 h5=>?_;cases z with
   |e k=>cases r5;exact h5 F5 H5<|bX.refl g5.s
   |_=>cases h5
  |false=>exact h3 F3 H3<|bX.refl g3.s
 |_=>cases h3
|.a i,O,U,F,H,Q,env,s,lt,h=>by
 have h:PB K F H (match O[i]? with
  |some (M d)=>kB d
  |_=>.d) Q:=h
 cases q:O[i]? with
 |none=>rw[q]at h;exact h.elim
 |some o=>
  cases o with
  |none=>rw[q]at h;exact h.elim
  |some d=>
   rw[q]at h;let#[v,h1,h2]:=env.e i (aL.mpr rfl) d q;refine#[v,h1,?_];let#[b,e]:=h.isOk<|Ae d;rw[e]at h;exact Q4 s h2 e<|h F H<|bX.refl s
|.c g as,O,U,F,H,Q,env,s,lt,h=>by
 rw[Pa];have h':PB K F H ((pE Γp (.c g as) O).bind kB) Q:=by
  revert h;show PB K F H (match Γp[g]? with
   |some (.a m dds)=>((ic Γp as O).bind λds=>m<|aH ds++dds).bind kB
   |_=>.d) Q->PB K F H ((match Γp[g]? with
   |some (.a m dds)=>(ic Γp as O).bind λds=>m<|aH ds++dds
   |_=>.d).bind kB) Q
  cases Γp[g]? with
  |none=>exact λh=>h
  |some p=>cases p<;>exact λh=>h
 have hv:=PB.Z5 (K:=K) h';exact Ug hΓ (λ_ h=>tE hΓ as env s lt h) hv
|.h f as,O,U,F,H,Q,env,s,lt,h=>by
 have hv:=PB.Z5 (K:=K) (show PB K F H (((ic Γp as O).bind λds=>jR f ds).bind kB) Q from h);by_cases hl:xZ f as=W
 .exact Z6 (Q:=λx H2=>mW K x H2 λb=>Q b H2) env.n s hl hv
 have env:lA K F H (jA as) O U:=by
  have e:lA K F H (if xZ f as=W then[]else jA as) O U:=env;rw[aE hl]at e;exact e
 exact tE hΓ as env s lt<|AV.FL hv λds F1 H1 vs g1 r1 h1=>Q5 g1.s r1 h1
|.v a t,O,U,F,H,Q,env,s,lt,h=>by
 refine gQ hΓ a env s lt (PB.nV (show PB K F H ((pE Γp a O).bind λx=>.bP (v8 x)<|.c<|BI t x) Q from h) λx F1 H1 v g1 r1 h1=>?_);let#[hn,h1]:=h1.bP;exact Z0 g1.s r1 hn (show mW K (.c<|BI t x) H1 λb=>Q b H1 from h1 F1 H1 (bX.refl g1.s))
|.i m o as,O,U,F,H,Q,env,s,lt,h=>by
 let#[l1,l2]:=band' lt;refine gQ hΓ o env.l s l1 (PB.nV (show PB K F H ((pE Γp o O).bind λx=>(ic Γp as O).ly.bind λds=>(uM m x ds).bind kB) Q from h) λx F1 H1 v g1 r1 h1=>?_);let#[d,e]:=h1.isOk<|cg.bind (cg.ly _) λ_=>cg.bind (Mp _ _ _) λ_=>Ae _;let#[ds,e1,e2]:=cu e;have e1':=HJ e1;rw[e1,<-e1']at h1;let#[d',e3,e4]:=cu e2;refine#[Ua g1.s r1 e3,tE hΓ as (env.r.mono g1) g1.s l2<|PB.aeI h1 λds F2 H2 vs g2 r2 h2=>?_];exact Z1 g2.s (bf.mono g2.f x v r1) r2<|PB.Z5 h2
|.e v,O,U,F,H,Q,env,s,lt,h=>h.elim
|.g op a b,O,U,F,H,Q,env,s,lt,h=>h.elim
|.y a,O,U,F,H,Q,env,s,lt,h=>h.elim
|.m a,O,U,F,H,Q,env,s,lt,h=>h.elim
|.b a b,O,U,F,H,Q,env,s,lt,h=>by
 let#[l1,l2]:=band' lt;have hv:=PB.Z5 (K:=K) (show PB K F H (((pE Γp a O).bind λx=>(pE Γp b O).bind λy=>t_ x y).bind kB) Q from h);refine gQ hΓ a env.l s l1<|PV.bind hv λx F1 H1 v g1 r1 h1=>?_;refine gQ hΓ b (env.r.mono g1) g1.s l2<|h1.bind λy F2 H2 u g2 r2 h2=>?_;exact aeG g2.s (bf.mono g2.f x v r1) r2 h2
|.r a lo hi,O,U,F,H,Q,env,s,lt,h=>h.elim
|.k as,O,U,F,H,Q,env,s,lt,h=>h.elim
|.f as,O,U,F,H,Q,env,s,lt,h=>h.elim
|.w,O,U,F,H,Q,env,s,lt,h=>h.elim
|.z _,O,U,F,H,Q,env,s,lt,h=>h.elim
|.u _,O,U,F,H,Q,env,s,lt,h=>h.elim
|.ac _,O,U,F,H,Q,env,s,lt,h=>h.elim
|.aa _,O,U,F,H,Q,env,s,lt,h=>h.elim
|.x _,O,U,F,H,Q,env,s,lt,h=>h.elim
|.ab,O,U,F,H,Q,env,s,lt,h=>h.elim
|.j nl fr elt tg src cond,O,U,F,H,Q,env,s,lt,h=>h.elim
|.n one gs a,O,U,F,H,Q,env,s,lt,h=>by
 refine gQ hΓ a env s lt (PB.nV (show PB K F H ((pE Γp a O).bind λx=>yi Γp gs x) Q from h) λx F1 H1 v g1 r1 h1=>?_);let#[b,e1]:=h1.isOk<|Mv _ _ _;rw[e1]at h1;exact Z2 hΓ g1.s r1 e1 (show mW K (.c b) H1 λb=>Q b H1 from h1 F1 H1 (bX.refl g1.s))
|.s g a,O,U,F,H,Q,env,s,lt,h=>by
 refine gQ hΓ a env s lt (PB.nV (show PB K F H ((pE Γp a O).bind λx=>yj Γp g x) Q from h) λx F1 H1 v g1 r1 h1=>?_);let#[b,e1]:=h1.isOk<|Mw _ _ _;rw[e1]at h1;exact Z3 hΓ g1.s r1 e1 (show mW K (.c b) H1 λb=>Q b H1 from h1 F1 H1 (bX.refl g1.s))
theorem tE(hΓ:d7 K Γp Y)[Ex]:∀(as:jQ) {O:a_}{U:L2.St}{F H:Hp}{Q:L V->Hp->Prop},lA K F H (jA as) O U->bh F H->nN as=W->AV K F H (ic Γp as O) Q->wEs K Y Ex.E as U H Q
|.nil,O,U,F,H,Q,env,s,lt,h=>(show AV K F H (.c []) Q from h) F H [] [] (bX.refl s) .nil #[rfl,rfl]
|.cons a r,O,U,F,H,Q,env,s,lt,h=>by
 let#[l1,l2]:=band' lt;have h:AV K F H ((pE Γp a O).bind λx=>(ic Γp r O).bind λxs=>.c (x::xs)) Q:=h;refine gQ hΓ a env.l s l1 ?_;cases e1:pE Γp a O with
 |e x=>rw[e1]at h;exact h
 |d=>rw[e1]at h;exact h.elim
 |c x=>
  cases e2:ic Γp r O with
  |e x=>
   rw[e1]at h;simp only[R.bind,e2]at h;intro F1 H1 v f1 g1 fr1 r1;refine tE hΓ r (env.r.mono g1) g1.s l2 ?_;rw[e2];exact mG.grow (K:=K) (x:=x) h g1
  |d=>rw[e1]at h;simp only[R.bind,e2]at h;exact h.elim
  |c xs=>
   rw[e1]at h;simp only[R.bind,e2]at h;intro F1 H1 v f1 g1 fr1 r1;refine tE hΓ r (env.r.mono g1) g1.s l2 ?_;rw[e2];intro F2 H2 vs f2 g2 fr2 r2;let#[c1,c2]:=carry g2 fr1 r1;refine h F2 H2 (v::vs) (f1++f2) (g1.trans g2) (jC.app g1.h fr1 (λa ha=>?_) c2 fr2) #[v,vs,f1,f2,rfl,rfl,c1,r2];let#[o,e,_]:=dj.ex x v f1 r1 a ha;exact#[o,e]
theorem ruO(hΓ:d7 K Γp Y)[Ex]:∀(c:CO) {O:a_}{U:L2.St}{F H:Hp}{Q:aah Int->Hp->Prop},lA K F H (ZZ c) O U->bh F H->T5 c=W->PB K F H (pO Γp c O) Q->wO K Y Ex.E c U H Q
|.none,O,U,F,H,Q,env,s,lt,h=>(show PB K F H (.c B) Q from h) F H<|bX.refl s
|.some a,O,U,F,H,Q,env,s,lt,h=>by
 refine gQ hΓ a env s lt (PB.nV (show PB K F H ((pE Γp a O).bind λx=>match x with|.a i=>.c (M i)|_=>.d) Q from h) λx F1 H1 v g1 r1 h1=>?_);cases x with
 |a i=>cases r1;exact h1 F1 H1<|bX.refl g1.s
 |_=>cases h1
theorem ruC(hΓ:d7 K Γp Y)[Ex]:∀(c:CO) {O:a_}{U:L2.St}{F H:Hp}{Q:Bool->Hp->Prop},lA K F H (ZZ c) O U->bh F H->T5 c=W->PB K F H (pC Γp c O) Q->wC K Y Ex.E c U H Q
|.none,O,U,F,H,Q,env,s,lt,h=>(show PB K F H (.c W) Q from h) F H<|bX.refl s
|.some a,O,U,F,H,Q,env,s,lt,h=>AW hΓ a env s lt h
theorem ruI(hΓ:d7 K Γp Y)[Ex]:∀(c:CI) (A:L Addr) {O:a_}{U:L2.St}{F H:Hp}{k:(Hp->Prop)->L Item->Hp->Prop},lA K F H (ua c) O U->bh F H->q_ H A->ltI c=W->PI' K A F H (pI Γp c O) k->wI K Y Ex.E c U H k
|.a a,A,O,U,F,H,k,env,s,hA,lt,h=>by
 have h:PI' K A F H ((pE Γp a O).bind λx=>(yh x).bind λds=>.c (aV x,ds)) k:=h;refine gQ hΓ a env s lt ?_;cases e1:pE Γp a O with
 |e x=>rw[e1]at h;exact h
 |d=>rw[e1]at h;exact h.elim
 |c x=>
 rw[e1]at h;have h:PI' K A F H ((yh x).bind λds=>.c (aV x,ds)) k:=h;let#[o,e]:=h.isOk<|cg.bind (Xe x) λ_=>cg.ok;let#[ds,e3,e4]:=cu (show((yh x).bind λds=>R.c (aV x,ds))=.c o from e);rw[e]at h;cases e4;intro F1 H1 v fp g fr r;let#[F2,g2,r2]:=Xc hA g fr r;exact ago ((BO _ _ _).trans g2.s) r2 e3 λok its h1 h2 h3=>h F2 H1 ok its g2 h1 h2 h3
|.b as,A,O,U,F,H,k,env,s,hA,lt,h=>by
 have h:PI' K A F H ((ic Γp as O).bind λxs=>(BK xs).bind λds=>.c (W,ds)) k:=h;refine tE hΓ as env s lt ?_;cases e1:ic Γp as O with
 |e x=>rw[e1]at h;exact h
 |d=>rw[e1]at h;exact h.elim
 |c xs=>
 rw[e1]at h;have h:PI' K A F H ((BK xs).bind λds=>.c (W,ds)) k:=h;let#[o,e]:=h.isOk<|cg.bind (Xf xs) λ_=>cg.ok;let#[ds,e3,e4]:=cu (show((BK xs).bind λds=>R.c (W,ds))=.c o from e);rw[e]at h;cases e4;intro F1 H1 vs fp g fr r;let#[F2,g2,_,r2]:=K0 g fr r;exact agp r2 e3 λits h1 h2=>h F2 H1 _ its g2 (λ_ _=>trivial) (h1 _) h2
|.c a,A,O,U,F,H,k,env,s,hA,lt,h=>by
 have h:PI' K A F H ((pE Γp a O).bind λx=>match x with|.b _ xs=>.c (aV x,lH 0<|aH xs)|_=>.d) k:=h;refine gQ hΓ a env s lt ?_;cases e1:pE Γp a O with
 |e x=>rw[e1]at h;exact h
 |d=>rw[e1]at h;exact h.elim
 |c x=>
 rw[e1]at h;intro F1 H1 v fp g fr r;let#[F2,g2,r2]:=Xc hA g fr r;cases x with
 |b o xs=>
  have s2:=(BO (aV<|.b o xs) F2 A).trans g2.s;let#[b,vs,rfl,h2,h3,h4]:=r2;exact#[vs,Rd.same s2 h2,h F2 H1 _ _ g2 (λ_ s'=>Rd.same s' h2) (Ms 0 h4) (by rw[Jj,tD,<-h4.len];exact h3)]
 |_=>cases h
|.d a,A,O,U,F,H,k,env,s,hA,lt,h=>by
 have h:PI' K A F H ((pE Γp a O).bind λx=>match x with|.b _ xs=>.c (aV x,(aH xs).reverse)|_=>.d) k:=h;refine gQ hΓ a env s lt ?_;cases e1:pE Γp a O with
 |e x=>rw[e1]at h;exact h
 |d=>rw[e1]at h;exact h.elim
 |c x=>
 rw[e1]at h;intro F1 H1 v fp g fr r;let#[F2,g2,r2]:=Xc hA g fr r;cases x with
 |b o xs=>
  have s2:=(BO (aV<|.b o xs) F2 A).trans g2.s;let#[b,vs,rfl,h2,h3,h4]:=r2;exact#[vs,Rd.same s2 h2,h F2 H1 _ _ g2 (λ_ s'=>Rd.same s' h2) (Ph h4) (by rw[sP,tD,<-h4.len];exact h3)]
 |_=>cases h
end
end
def qO:Nat->a_->a_
|_,[]=>[]
|0,o::r=>o.map bW::r
|n+1,o::r=>o::qO n r
def qC:L Nat->a_->a_
|[],U=>U
|i::is,U=>qC is<|qO i U
def jw(is:L Nat)(o:Bool)(U:a_):a_:=match o with
|true=>U
|false=>qC is U
noncomputable def Q6:CE->aah Nat
|.a i=>M i
|_=>B
def nW(Y:L PG):jQ->a_->R (L D)
|.nil=>λ_=>.c []
|.cons a r=>λU=>match Q6 a with
 |some i=>match U[i]? with
  |some (M d)=>(nW Y r<|U.set i B).bind λds=>.c (d::ds)
  |_=>.d
 |none=>(pE Y a U).bind λd=>.bP (aV d)<|(nW Y r U).bind λds=>.c (d::ds)
noncomputable def R.alt{α β:Type}(x:R α)(f:α->R β)(y:R β):R β:=match x with
|.c a=>f a
|_=>y
def pM(Y:L PG)(e:CE)(U:a_):R D:=match e with
|.a i=>match U[i]? with
 |some (M d)=>.c d
 |_=>.d
|.f as=>(nW Y as U).alt (λds=>.bP (decide<|zl ds<=ao)<|.c<|.d ds)<|pE Y (.f as) U
|e=>pE Y e U
noncomputable def v_:D->aah (L D)
|.b W xs=>M xs
|_=>B
noncomputable def asD:D->aah (L Key×L D)
|.f W ks xs=>M (ks,xs)
|_=>B
noncomputable def k9{α:Type}(f:D->aah α)(x:aah<|aah D):aah α:=x.bind λy=>y.bind f
noncomputable def oG{α:Type}(o:aah α)(f:α->Fl):Fl:=match o with
|some a=>f a
|none=>.b
def rO(x:aah<|aah D):Bool:=(k9 v_ x).isSome
def Q7(k:Nat)(is:L Nat)(d:D)(U:a_):Fl:=oG (v_ d) λys=>oG (k9 v_ U[k]?) λxs=>if(decide (zl xs+zl ys<=ao)&&(aV d||!is.contains k))=W then .a ((jw is (aV d) U).set k<|M<|.b W<|xs++ys)else .b
def Q8(k:Nat)(U:a_)(x y:aah<|aah D):Fl:=oG (k9 v_ x) λxs=>oG (k9 u7 y) λn=>oG (kY xs) λns=>if decide (n∈ns)=W then .a (U.set k<|M<|.b W<|(ns.eraseIdx<|ns.idxOf n).map D.a)else .b
def BV(k:Nat)(U:a_)(x y z:aah<|aah D):aah (a_×Bool):=(k9 asD x).bind λp=>(k9 asS y).bind λq=>(k9 u7 z).bind λn=>if zl p.1<ao then match ia p.1 p.2 (.inr q)with
  |some m=>(u7 m).map λm=>(U,decide<|m≠n)
  |none=>if ji p.1 (.inr q)=J then M (U.set k<|M<|.f W (p.1++[.inr q])<|p.2++[.a n],J)else B
 else B
def pX(Y:L PG)(e:CE)(U:a_):Fl:=match e with
|.i m (.a k) as=>match m with
 |.a=>match as with
  |#v[a]=>(pE Y a U).pU (rO U[k]?) λd=>oG (k9 v_ U[k]?) λxs=>if(decide (zl xs<ao)&&(aV d||!(cz a).contains k))=W then .a ((jw (cz a) (aV d) U).set k<|M<|.b W<|xs++[d])else .b
  |_=>.b
 |.d=>match as with
  |#v[a]=>(pE Y a U).pU (rO U[k]?) λd=>Q7 k (cz a) d U
  |_=>.b
 |.e=>match as with
  |#v[.a j]=>Q8 k U U[k]? U[j]?
  |_=>.b
 |.f=>match as with
  |#v[i,a]=>(pE Y i U).pU J λj=>(pE Y a U).pU J λd=>oG (u7 j) λj=>oG (k9 v_ U[k]?) λxs=>if(decide (0<=j/\j<2 ^ 40/\zl xs<ao)&&aV d)=W then .a (U.set k<|M<|.b W (xs.take j.toNat++d::xs.drop j.toNat))else .b
  |_=>.b
 |_=>(pE Y e U).bG λ_=>.a U
|e=>(pE Y e U).bG λ_=>.a U
mutual
noncomputable def mq:D->Bool
|.b _ _=>J
|.f _ _ _=>J
|.j=>J
|.h _ _ _=>J
|.i _ _ _=>J
|.d xs=>oH xs
|_=>W
noncomputable def oH:L D->Bool
|[]=>W
|d::r=>mq d&&oH r
end
def putL(xs:L D)(d j:D):aah D:=match j with
|.a j=>(nS (zl xs) j).map λn=>.b W<|xs.set n d
|_=>B
def Xk(ks:L Key)(xs:L D)(d j:D):aah D:=match v7 j with
|some q=>if zl ks<ao then(if ji ks q=W then(if mq d=W then M (.f W ks<|nM ks xs q d)else B)else M (.f W (ks++[q])<|xs++[d]))else B
|none=>B
def My(ks:L<|L Key)(xs:L D)(d j:D):aah D:=match lX j with
|some q=>if zl ks<ao then(if ji ks q=W then(if mq d=W then M (.h W ks<|nM ks xs q d)else B)else M (.h W (ks++[q])<|xs++[d]))else B
|none=>B
def putIn(x d j:D):aah D:=match x with
|.b W xs=>putL xs d j
|.f W ks xs=>Xk ks xs d j
|.h W ks xs=>My ks xs d j
|_=>B
def pA(Y:L PG)(g:CG)(e:CE)(U:a_):Fl:=match g with
|.a i=>(pE Y e U).bG λd=>.a<|(jw (cz e) (aV d) U).set i<|M d
|.b gs=>(pE Y e U).bG λd=>(pG (.b gs) d<|jw (cz e) (aV d) U).bG .a
|.c o i=>match o with
 |.a k=>(pE Y e U).bG λd=>(pE Y i<|jw (cz e) (aV d) U).pU J λj=>match U[k]? with
  |some (M x)=>if(aV d||!(cz e).contains k)=W then(R.opt<|putIn x d j).bG λx'=>.a ((jw (cz e) (aV d) U).set k<|M x')else .b
  |_=>.b
 |_=>.b
noncomputable def yX(i:Nat):Fl->Fl
|.a U=>.a<|U.set i B
|.c d=>.c d
|_=>.b
open Classical in
noncomputable def Ls(i:Nat)(a:Int)(U:a_):D->Fl
|.a b=>.a<|U.set i<|M<|.a<|a+b
|_=>.b
def Jo(Y:L PG)(c:Nat)(as:jQ)(x y:Nat)(e:CE)(U:a_):R a_:=match Y[c]? with
|some (.a m dds)=>(ic Y as U).ly.bind λds=>(m<|aH ds++dds).bind λd=>(pE Y e<|(jw (jA as) (aV d) U).set x<|M d).ly.bind λu=>.bP (aV u)<|.c<|((jw (jA as) (aV d) U).set x<|M d).set y<|M u
|_=>.d
mutual
noncomputable def pS(Y:L PG)(n:Nat):CS->a_->Fl
|.e e=>λU=>pX Y e U
|.c g e=>λU=>pA Y g e U
|.g i e=>λU=>match U[i]? with
 |some (M<|.a a)=>(pE Y e U).bG λd=>Ls i a U d
 |_=>.b
|.f i e=>λU=>(pE Y e U).bG λd=>.a<|(jw (cz e) (aV d) U).set i<|M d
|.k g e=>λU=>pA Y g e U
|.a e=>λU=>(pM Y e U).bG .c
|.l k i j a b=>λU=>match BV k U U[k]? U[i]? U[j]? with
 |some p=>if p.2=W then b_ Y n a p.1 else b_ Y n b p.1
 |none=>.b
|.b c a b=>λU=>(pT Y c U).bG λk=>if k=W then b_ Y n a U else b_ Y n b U
|.i c b=>λU=>v9 (pT Y c) (b_ Y n b) n U
|.d g src b=>λU=>(pI Y src U).bG λitems=>forR (pG g) (b_ Y n b) items.2<|jw (ua src) items.1 U
|.n=>λU=>.f U
|.m=>λU=>.e U
|.h g=>λU=>match Y[g]? with
 |some (.c C)=>.d<|.i C [] []
 |_=>.b
|.j i g x c as y e h=>λU=>match Y[g]? with
 |some (.d Cs)=>match Jo Y c as x y e U with
  |.c σ'=>.a σ'
  |.e (.i C ks xs)=>if(decide (C∈Cs)&&oH xs)=W then yX i (b_ (Y.map PG.hand) n h<|U.set i<|M<|.i C ks xs)else .b
  |_=>.b
 |_=>.b
noncomputable def b_(Y:L PG)(n:Nat):cI->a_->Fl
|.nil=>λU=>.a U
|.cons s r=>λU=>match pS Y n s U with
 |.a σ'=>b_ Y n r σ'
 |x=>x
end
noncomputable def yY(N:L Str)(ds:L D):a_:=ds.map M++bl (zl N-zl ds) B
noncomputable def uO:Fl->R D
|.a _=>.c .g
|.c d=>.c d
|.d x=>.e x
|_=>.d
def HK(Y:L PG)(n:Nat)(N:L Str)(c:cI)(ds:L D):R D:=uO<|b_ Y n c<|yY N ds
mutual
noncomputable def ltS:CS->Bool
|.e e=>eF e
|.c g e=>ltG g&&eF e
|.g _ e=>eF e
|.f _ e=>eF e
|.k g e=>ltG g&&eF e
|.a e=>eF e
|.l _ _ _ a b=>lB a&&lB b
|.b c a b=>eF c&&(lB a&&lB b)
|.i c b=>eF c&&lB b
|.d _ src b=>ltI src&&lB b
|.h _=>W
|.j _ _ _ _ as _ e h=>nN as&&(eF e&&lB h)
|_=>W
noncomputable def lB:cI->Bool
|.nil=>W
|.cons s r=>ltS s&&lB r
noncomputable def ltG:CG->Bool
|.c o i=>eF o&&eF i
|_=>W
end
structure bJ (K:ak) (F0 H0:Hp) (O:a_) (U:L2.St) (F H:Hp) (fp:Nat->L Addr):Prop where
 g:bX F0 H0 F H
 len:zl O=zl U
 rep:∀(i:Nat) d,O[i]?=M (M d)->∃v,U[i]?=M (M v)/\dj K H F d v (fp i)
 ex:∀i,q_ H (fp i)
 nd:∀i,(fp i).Nodup
 nf:∀i a,a∈fp i->F a=B
 nh:∀i a,a∈fp i->H0 a=B
 dis:∀i j a,a∈fp i->a∈fp j->i=j
structure kC (K:ak) (H0 F H:Hp) (fp:Nat->L Addr) (d:D) (v:V) (f:L Addr):Prop where
 r:dj K H F d v f
 nd:f.Nodup
 nf:∀a∈f,F a=B
 nh:∀a∈f,H0 a=B
 dis:∀i a,a∈f->a∉fp i
section
variable{K:ak}{F0 H0 F H:Hp}{O:a_}{U:L2.St}{fp:Nat->L Addr}
theorem EG:∀(n:Nat) (U:a_) (i:Nat),(qO n U)[i]?=if i=n then(U[i]?).map (G5 bW)else U[i]?
|n,[],i=>by cases n<;>simp[qO]
|0,o::r,0=>by simp[qO]
|0,o::r,i+1=>by simp[qO]
|n+1,o::r,0=>by simp[qO]
|n+1,o::r,i+1=>by
 simp only[qO,jE,EG n r i];by_cases h:i=n
 .simp[h]
 .simp[h]
theorem Mz:∀(n:Nat) (U:a_),zl (qO n U)=zl U
|n,[]=>by cases n<;>rfl
|0,o::r=>rfl
|n+1,o::r=>by simp[qO,Mz n r]
theorem Jp:∀(is:L Nat) (U:a_),zl (qC is U)=zl U
|[],U=>rfl
|i::is,U=>by rw[qC,Jp is,Mz]
noncomputable def ownAt(fp:Nat->L Addr)(is:L Nat):L Addr:=is.flatMap fp
def jx:a∈ownAt fp is↔∃i∈is,a∈fp i:=by simp[ownAt,List.mem_flatMap]
def bJ.lists(I:bJ K F0 H0 O U F H fp)(is:L Nat):q_ H (ownAt fp is):=λa ha=>by
 let#[i,_,h]:=jx.mp ha;exact I.ex i a h
def bJ.env(I:bJ K F0 H0 O U F H fp)(is:L Nat):lA K (adopt F H<|ownAt fp is) H is O U:=#[λi hi d e=>by
 let#[v,h1,h2]:=I.rep i d e;exact#[v,h1,dj.fix (gh I.g.s) d v _ (λa ha=>m6<|jx.mpr #[i,hi,ha]) h2],λk d e=>by
 let#[v,h1,h2]:=I.rep k d e;exact#[v,adopt F H<|ownAt fp [k],h1,i0 I.g.s,dj.fix (gh I.g.s) d v _ (λa ha=>m6<|jx.mpr #[k,aL.mpr rfl,ha]) h2]]
def bJ.Z7(I:bJ K F0 H0 O U F H fp)(g:bX (adopt F H<|ownAt fp is) H F' H')(ha:a∈fp i)(hn:a∉ownAt fp is):F' a=B:=by
 let#[o,e,k]:=I.ex i a ha;cases q:F' a with
 |none=>rfl
 |some u=>exact((g.n a u q (by rw[lI hn];exact I.nf i a ha)).own e k).elim
def bJ.Z8(I:bJ K F0 H0 O U F H fp)(g:bX (adopt F H<|ownAt fp is) H F' H'):bX F0 H0 F' H':=by
 refine#[I.g.h.trans g.h,(I.g.f.trans<|gh I.g.s).trans g.f,g.s,λb o h h'=>?_];cases q:adopt F H (ownAt fp is) b with
 |none=>exact NT.back I.g.h<|g.n b o h q
 |some u=>
  by_cases z:b∈ownAt fp is
  .obtain⟨i,_,hb⟩:=jx.mp z;exact .of<|I.nh i b hb
  .rw[lI z]at q;exact I.g.n b u q h'
def bJ.back(I:bJ K F0 H0 O U F H fp)(g:bX (adopt F H<|ownAt fp is) H F' H'):bJ K F0 H0 O U (minus F'<|ownAt fp is) H' fp where
 g:=by
  have g0:=I.Z8 g;refine#[g0.h,λb o h=>?_,(qZ _ _).trans g0.s,λb o h h'=>g0.n b o (qZ _ _ b o h) h'];have hn:b∉ownAt fp is:=λz=>by
   let#[i,_,hb]:=jx.mp z;have:=I.nf i b hb;rw[I.g.f b o h]at this;cases this
  rw[jt hn];exact g0.f b o h
 len:=I.len
 rep:=λi d e=>by
  let#[v,h1,h2]:=I.rep i d e;refine#[v,h1,dj.mono ?_ d v _ (λa ha=>?_) h2]
  .intro b o h;have hn:b∉ownAt fp is:=λz=>by
    let#[i,_,hb]:=jx.mp z;have:=I.nf i b hb;rw[h]at this;cases this
   rw[jt hn];exact g.f b o<|gh I.g.s b o h
  .obtain⟨o,e,_⟩:=I.ex i a ha;rw[e,g.h a o e]
 ex:=λi=>(I.ex i).mono g.h
 nd:=I.nd
 nf:=λi a ha=>by
  by_cases hn:a∈ownAt fp is
  .exact ED hn
  .rw[jt hn];exact I.Z7 g ha hn
 nh:=I.nh
 dis:=I.dis
def Uh:∀(is:L Nat) (U:a_) (i:Nat),(qC is U)[i]?=M (M d)->∃d',U[i]?=M (M d')/\((i∈is/\d=bW d')\/(i∉is/\d=d')):=by
 have ff:=Pj;intro is;induction is with
 |nil=>intro U i h;exact#[d,h,.inr #[aO,rfl]]
 |cons j is ih=>
  intro U i h;let#[d1,e1,e2]:=ih (qO j U) i h;rw[EG]at e1;by_cases hj:i=j
  .rw[aQ hj]at e1;cases q:U[i]? with
   |none=>rw[q]at e1;cases e1
   |some o=>
    cases o with
    |none=>rw[q]at e1;cases e1
    |some d'=>
     rw[q]at e1;cases e1;refine#[d',rfl,.inl #[by rw[hj];exact aD,?_]];rcases e2 with⟨_,rfl⟩|⟨_,rfl⟩
     .exact ff d'
     .rfl
  .rw[aE hj]at e1;refine#[d1,e1,?_];rcases e2 with⟨h1,h2⟩|⟨h1,h2⟩
   .exact .inl #[az _ h1,h2]
   .exact .inr #[λz=>by rcases aY.mp z with z|z;exact hj z;exact h1 z,h2]
def bJ.aeQ(I:bJ K F0 H0 O U F H fp)(g:bX (adopt F H<|ownAt fp is) H F' H'):bJ K F0 H0 (qC is O) U F' H' (λi=>if i∈is then[]else fp i) where
 g:=I.Z8 g
 len:=by rw[Jp];exact I.len
 rep:=λi d e=>by
  let#[d',e1,e2]:=Uh is O i e;rcases e2 with⟨h1,rfl⟩|⟨h1,rfl⟩
  .obtain⟨v,q1,q2⟩:=(I.env is).e i h1 d' e1;exact#[v,q1,by rw[aQ h1];exact bf.AS d' v<|bf.mono g.f d' v q2]
  .obtain⟨v,q1,q2⟩:=I.rep i d e1;refine#[v,q1,?_];rw[aE h1];refine dj.mono ((gh I.g.s).trans g.f) d v _ (λa ha=>?_) q2;let#[o,e,_]:=I.ex i a ha;rw[e,g.h a o e]
 ex:=λi=>by
  by_cases h:i∈is
  .rw[aQ h];exact λa ha=>aC ha aO
  .rw[aE h];exact(I.ex i).mono g.h
 nd:=λi=>by
  by_cases h:i∈is
  .simp_all
  .rw[aE h];exact I.nd i
 nf:=λi a ha=>by
  by_cases h:i∈is
  .simp_all
  .rw[aE h]at ha;refine I.Z7 g ha λz=>?_;let#[j,hj,hb]:=jx.mp z;have:=I.dis i j a ha hb;subst this;exact h hj
 nh:=λi a ha=>by
  by_cases h:i∈is
  .simp_all
  .rw[aE h]at ha;exact I.nh i a ha
 dis:=λi j a ha hb=>by
  by_cases h:i∈is
  .simp_all
  .by_cases h':j∈is
   .simp_all
   .rw[aE h]at ha;rw[aE h']at hb;exact I.dis i j a ha hb
def bJ.told(I:bJ K F0 H0 O U F H fp)(g:bX (adopt F H<|ownAt fp is) H F' H')(fr:jC f H F')(r:dj K H' F' d v f):∃F1 fp1,bJ K F0 H0 (jw is (aV d) O) U F1 H' fp1/\kC K H0 F1 H' fp1 d v f/\(aV d=W->fp1=fp)/\∀i,i∉is->fp1 i=fp i:=by
 have nn:∀i a,a∈f->a∉fp i:=λi a ha hb=>by
  let#[o,e,_]:=I.ex i a hb;rw[fr.nh a ha]at e;cases e
 cases ho:aV d with
 |true=>
  refine#[_,fp,I.back g,#[dj.less (rN g.s<|(I.lists is).mono g.h) d v f ho r,fr.nd,λa ha=>?_,λa ha=>bh.none I.g.h<|fr.nh a ha,nn],λ_=>rfl,λ_ _=>rfl];exact bh.none (qZ _ _)<|fr.nf a ha
 |false=>
  refine#[_,_,I.aeQ g,#[r,fr.nd,fr.nf,λa ha=>bh.none I.g.h<|fr.nh a ha,λi a ha hb=>?_],(λz=>nomatch z),λi hi=>aE hi];by_cases h:i∈is
  .simp_all
  .simp_all
def bJ.set{v:V}(I:bJ K F0 H0 O U F H fp)(V:kC K H0 F H fp d v f)(k:Nat):bJ K F0 H0 (O.set k<|M d) (U.set k<|M v) F H (λi=>if i=k then f else fp i) where
 g:=I.g
 len:=by simp[I.len]
 rep:=λi d' e=>by
  by_cases h:i=k
  .subst h;rw[aQ rfl];rw[gM]at e;by_cases hi:i<zl O
   .simp[hi]at e;subst e;exact#[v,by rw[gM];simp[<-I.len,hi],V.r]
   .simp_all
  .rw[aE h];rw[cX<|dc h]at e;let#[w,h1,h2]:=I.rep i d' e;exact#[w,by rw[cX<|dc h];exact h1,h2]
 ex:=λi=>by
  by_cases h:i=k
  .rw[aQ h];exact dj.ex d v f V.r
  .rw[aE h];exact I.ex i
 nd:=λi=>by
  by_cases h:i=k
  .rw[aQ h];exact V.nd
  .rw[aE h];exact I.nd i
 nf:=λi a ha=>by
  by_cases h:i=k
  .rw[aQ h]at ha;exact V.nf a ha
  .rw[aE h]at ha;exact I.nf i a ha
 nh:=λi a ha=>by
  by_cases h:i=k
  .rw[aQ h]at ha;exact V.nh a ha
  .rw[aE h]at ha;exact I.nh i a ha
 dis:=λi j a ha hb=>by
  by_cases h:i=k
  .rw[aQ h]at ha;by_cases h':j=k
   .rw[h,h']
   .rw[aE h']at hb;exact aC hb<|V.dis j a ha
  .rw[aE h]at ha;by_cases h':j=k
   .rw[aQ h']at hb;exact aC ha<|V.dis i a hb
   .rw[aE h']at hb;exact I.dis i j a ha hb
def bJ.put(I:bJ K F0 H0 O U F H fp)(ha:a∈fp k)(hv:U[k]?=M (M v))(hr:dj K (upd H a o) F d v f)(nd:f.Nodup)(nf:∀b∈f,F b=B)(nh:∀b∈f,H0 b=B)(dis:∀i,i≠k->∀b∈f,b∉fp i):bJ K F0 H0 (O.set k<|M d) U F (upd H a o) (λi=>if i=k then f else fp i):=by
 have hF:=I.nf k a ha;have hH0:=I.nh k a ha;have hne:∀i,i≠k->∀b∈fp i,b≠a:=λi hi b hb z=>by
  subst z;exact hi<|I.dis i k b hb ha
 refine#[#[λb u q=>by rw[bq<|bZ q hH0];exact I.g.h b u q,I.g.f,λb u q=>by rw[bq<|bZ q hF];exact I.g.s b u q,I.g.n],by simp[I.len],λi d' e=>?_,λi=>?_,λi=>?_,λi b hb=>?_,λi b hb=>?_,λi j b hb hc=>?_]
 .by_cases h:i=k
  .subst h;rw[aQ rfl];rw[gM]at e;by_cases hi:i<zl O
   .simp_all
   .simp_all
  .rw[aE h];rw[cX<|dc h]at e;let#[w,h1,h2]:=I.rep i d' e;exact#[w,h1,dj.mono (bh.refl _) d' w _ (λb hb=>bq<|hne i h b hb) h2]
 .by_cases h:i=k
  .rw[aQ h];exact dj.ex d v f hr
  .rw[aE h];intro b hb;let#[u,e,q]:=I.ex i b hb;exact#[u,by rw[bq<|hne i h b hb];exact e,q]
 .by_cases h:i=k
  .simp_all
  .rw[aE h];exact I.nd i
 .by_cases h:i=k
  .simp_all
  .rw[aE h]at hb;exact I.nf i b hb
 .by_cases h:i=k
  .simp_all
  .rw[aE h]at hb;exact I.nh i b hb
 .by_cases h:i=k
  .rw[aQ h]at hb;by_cases h':j=k
   .rw[h,h']
   .simp_all
  .rw[aE h]at hb;by_cases h':j=k
   .simp_all
   .rw[aE h']at hc;exact I.dis i j b hb hc
def bJ.rebase(I:bJ K F0 H0 O U F H fp):bJ K F H0 O U F H fp:=#[#[I.g.h,bh.refl _,I.g.s,λb o h h'=>by rw[h]at h';cases h'],I.len,I.rep,I.ex,I.nd,I.nf,I.nh,I.dis]
def bJ.MA(g0:bX F0 H0 F1 H1)(I:bJ K F1 H0 O U F H fp):bJ K F0 H0 O U F H fp:=#[#[I.g.h,g0.f.trans I.g.f,I.g.s,λb o h h'=>by
 cases q:F1 b with
 |none=>exact I.g.n b o h q
 |some u=>exact g0.n b u q h'],I.len,I.rep,I.ex,I.nd,I.nf,I.nh,I.dis]
end
def dO[Ex](K:ak)(F0 H0:Hp)(fl:Fl)(X:Ends):Prop:=match fl with
|.a O=>∀U F H fp,bJ K F0 H0 O U F H fp->X.nx U H
|.f O=>∀U F H fp,bJ K F0 H0 O U F H fp->X.bk U H
|.e O=>∀U F H fp,bJ K F0 H0 O U F H fp->X.ct U H
|.c d=>∀v F H f,bX F0 H0 F H->jC f H0 F->dj K H F d v f->X.rt v H
|.d x=>mG K F0 H0 x
|.b=>bu
section
variable{K:ak}{Γp:L PG}{Y:L G}{F0 H0 F H:Hp}{O:a_}{U:L2.St}{fp:Nat->L Addr}{X:Ends}
def Pp(g0:bX F0 H0 F1 H1)(g:bX F1 H0 F H):bX F0 H0 F H:=#[g.h,g0.f.trans g.f,g.s,λb o h h'=>by
 cases q:F1 b with
 |none=>exact g.n b o h q
 |some u=>exact g0.n b u q h']
def dO.rebase[Ex](g0:bX F0 H0 F1 H1)(h:dO K F0 H0 fl X):dO K F1 H0 fl X:=by
 cases fl with
 |a O=>exact λU F H fp I=>h U F H fp<|I.MA g0
 |f O=>exact λU F H fp I=>h U F H fp<|I.MA g0
 |e O=>exact λU F H fp I=>h U F H fp<|I.MA g0
 |c d=>exact λv F H f g fr r=>h v F H f (Pp g0 g) fr r
 |d x=>
  cases x with
  |i C ks xs=>exact λF' H' d vs g=>h F' H' d vs<|Pp g0 g
  |_=>exact h
 |b=>exact h
def MB[Ex]{α:Type}{r:R α}{f:α->Fl}(h:dO K F0 H0 (r.bG f) X)(n:r.cg):∃a,r=.c a/\dO K F0 H0 (f a) X:=by
 cases r with
 |c a=>exact#[a,rfl,h]
 |e x=>exact aC rfl<|n x
 |d=>cases h
def qd[Ex]{α:Type}{r:R α}{f:α->Fl}(h:dO K F0 H0 (r.bG f) X):(∃x,r=.e x/\mG K F0 H0 x)\/∃a,r=.c a/\dO K F0 H0 (f a) X:=by
 cases r with
 |c a=>exact .inr #[a,rfl,h]
 |e x=>exact .inl #[x,rfl,h]
 |d=>cases h
def HL[Ex]{α:Type}{b:Bool}{r:R α}{f:α->Fl}(h:dO K F0 H0 (r.pU b f) X):(b=W/\∃x,r=.e x/\mG K F0 H0 x)\/∃a,r=.c a/\dO K F0 H0 (f a) X:=by
 cases r with
 |c a=>exact .inr #[a,rfl,h]
 |e x=>
  cases b with
  |true=>exact .inl #[rfl,x,rfl,h]
  |false=>cases h
 |d=>cases h
def HM[Ex]{α:Type}{r:R α}{f:α->Fl}(h:dO K F0 H0 (r.pU J f) X):∃a,r=.c a/\dO K F0 H0 (f a) X:=by
 rcases HL h with⟨z,_⟩|z
 .cases z
 .exact z
mutual
theorem MC:∀(g:CG) (d:D) (U:a_),(pG g d U).cg
|.a i,d,U=>cg.ok
|.b gs,d,U=>by
 cases d<;>first|exact cg.bad|skip
 exact cg.bP<|Pq gs _ U
|.c _ _,d,U=>cg.bad
theorem Pq:∀(g:vU) (ds:L D) (U:a_),(AU g ds U).cg
|.nil,ds,U=>by cases ds<;>first|exact cg.ok|exact cg.bad
|.cons g r,ds,U=>by
 cases ds with
 |nil=>exact cg.bad
 |cons d dr=>exact cg.bind (MC g d U) fun σ'=>Pq r dr σ'
end
theorem Ui(F H:Hp):adopt F H []=F:=by rfl
def bJ.grow(I:bJ K F0 H0 O U F H fp)(g:bX F H F1 H1):bJ K F0 H0 O U F1 H1 fp:=by
 have e:ownAt fp []=[]:=rfl;have q:=I.back (by rw[e,Ui];exact g);rw[e,Je]at q;exact q
def kC.Q9(r:bf K F d v):kC K H0 F H fp (bW d) v []:=#[bf.AS d v r,gz,λ_ h=>aC h aO,λ_ h=>aC h aO,λ_ _ h=>aC h aO]
mutual
theorem ruG':∀(g:CG) {d:D}{v:V}{O ajk:a_}{U:L2.St}{fp:Nat->L Addr}{Q:L2.St->Hp->Prop},bJ K F0 H0 O U F H fp->bf K F d v->pG g (bW d) O=.c ajk->(∀σ' fp',bJ K F0 H0 ajk σ' F H fp'->Q σ' H)->wG K Y E g v U H Q
|.a i,d,v,O,ajk,U,fp,Q,I,r,e,h=>by
 cases e;exact h _ _<|I.set (kC.Q9 r) i
|.b gs,d,v,O,ajk,U,fp,Q,I,r,e,h=>by
 cases d with
 |d ds=>
  let#[b,vs,rfl,h2,h3,h4]:=r;let#[c,e]:=oF (show R.bP (decide<|zl (aH ds)=gs.len) (AU gs (aH ds) O)=.c ajk from e);have c:=ay c;rw[tD]at c;exact#[W,vs,(tupS h2).same' I.g.s,rfl,by rw[h4.len];exact c,ruGs' gs I h4 e h]
 |_=>cases e
|.c _ _,d,v,O,ajk,U,fp,Q,I,r,e,h=>by cases e
theorem ruGs':∀(g:vU) {ds:L D}{vs:L V}{O ajk:a_}{U:L2.St}{fp:Nat->L Addr}{Q:L2.St->Hp->Prop},bJ K F0 H0 O U F H fp->aR K F ds vs->AU g (aH ds) O=.c ajk->(∀σ' fp',bJ K F0 H0 ajk σ' F H fp'->Q σ' H)->OT K Y E g vs U H Q
|.nil,ds,vs,O,ajk,U,fp,Q,I,r,e,h=>by
 cases ds with
 |nil=>cases r;cases e;exact h U fp I
 |cons d dr=>cases e
|.cons g gr,ds,vs,O,ajk,U,fp,Q,I,r,e,h=>by
 cases ds with
 |nil=>cases e
 |cons d dr=>
  let#[v,vr,rfl,r1,r2]:=r;let#[σ2,e1,e2]:=cu (show((pG g (bW d) O).bind fun σ'=>AU gr (aH dr) σ')=.c ajk from e);exact ruG' g I r1 e1 fun σ' fp' I'=>ruGs' gr I' r2 e2 h
end
mutual
theorem aeR:∀(g:CG) {d:D}{v:V}{O ajk:a_}{U:L2.St}{fp:Nat->L Addr}{f:L Addr}{Q:L2.St->Hp->Prop},bJ K F0 H0 O U F H fp->kC K H0 F H fp d v f->pG g d O=.c ajk->
 (∀σ' fp',bJ K F0 H0 ajk σ' F H fp'->(∀i a,a∈fp' i->a∈f\/a∈fp i)->Q σ' H)->wG K Y E g v U H Q
|.a i,d,v,O,ajk,U,fp,f,Q,I,V,e,h=>by
 cases e;refine h _ _ (I.set V i) λj a ha=>?_;by_cases c:j=i
 .rw[aQ c]at ha;exact .inl ha
 .rw[aE c]at ha;exact .inr ha
|.b gs,d,v,O,ajk,U,fp,f,Q,I,V,e,h=>by
 cases d with
 |d ds=>
  let#[b,vs,rfl,h2,h3,h4]:=V.r;let#[c,e]:=oF e;exact#[W,vs,(tupS h2).same' I.g.s,rfl,by rw[h4.len];exact ay c,Z9 gs I h4 V.nd V.nf V.nh V.dis e h]
 |_=>cases e
|.c _ _,d,v,O,ajk,U,fp,f,Q,I,V,e,h=>by cases e
theorem Z9:∀(g:vU) {ds:L D}{vs:L V}{O ajk:a_}{U:L2.St}{fp:Nat->L Addr}{f:L Addr}{Q:L2.St->Hp->Prop},bJ K F0 H0 O U F H fp->aX K H F ds vs f->f.Nodup->(∀a∈f,F a=B)->(∀a∈f,H0 a=B)->
 (∀i a,a∈f->a∉fp i)->AU g ds O=.c ajk->(∀σ' fp',bJ K F0 H0 ajk σ' F H fp'->(∀i a,a∈fp' i->a∈f\/a∈fp i)->Q σ' H)->OT K Y E g vs U H Q
|.nil,ds,vs,O,ajk,U,fp,f,Q,I,r,nd,nf,nh,dis,e,h=>by
 cases ds with
 |nil=>
  let#[rfl,_]:=r;cases e;exact h U fp I λ_ _ z=>.inr z
 |cons d dr=>cases e
|.cons g gr,ds,vs,O,ajk,U,fp,f,Q,I,r,nd,nf,nh,dis,e,h=>by
 cases ds with
 |nil=>cases e
 |cons d dr=>
  let#[v,vr,f1,f2,rfl,rfl,r1,r2]:=r;let#[σ2,e1,e2]:=cu e;let#[n1,n2,n3]:=cE.mp nd;refine aeR g I #[r1,n1,λa ha=>nf a<|cF _ ha,λa ha=>nh a<|cF _ ha,λi a ha=>dis i a<|cF _ ha] e1 fun σ' fp' I' sub=>?_;refine Z9 gr I' r2 n2 (λa ha=>nf a<|bw _ ha) (λa ha=>nh a<|bw _ ha) (λi a ha z=>?_) e2 fun σ3 fp3 I3 sub3=>h σ3 fp3 I3 λi a ha=>?_
  .rcases sub i a z with q|q
   .exact n3 a q a ha rfl
   .exact dis i a (bw _ ha) q
  .rcases sub3 i a ha with q|q
   .exact .inl (bw _ q)
   .rcases sub i a q with q|q
    .exact .inl (cF _ q)
    .exact .inr q
end
def BW[Ex](hΓ:d7 K Γp Y)(I:bJ K F0 H0 O U F H fp)(lt:eF e=W)(he:pE Γp e O=.c d)(h:∀v F1 H1 fp1 f,bJ K F0 H0 (jw (cz e) (aV d) O) U F1 H1 fp1->kC K H0 F1 H1 fp1 d v f->Q v H1):wE K Y Ex.E e U H Q:=by
 refine gQ hΓ e (I.env<|cz e) (i0 I.g.s) lt ?_;rw[he];intro F' H' v f g fr r;let#[F1,fp1,I1,V1,_,_]:=I.told g fr r;exact h v F1 H' fp1 f I1 V1
def runD'[Ex](hΓ:d7 K Γp Y)(I:bJ K F0 H0 O U F H fp)(lt:eF e=W)(he:pE Γp e O=.c d)(h:∀v F1 H1,bJ K F0 H0 O U F1 H1 fp->bh H H1->(aV d=W->∃f,kC K H0 F1 H1 fp d v f)->Q v H1):wE K Y Ex.E e U H Q:=by
 refine gQ hΓ e (I.env<|cz e) (i0 I.g.s) lt ?_;rw[he];intro F' H' v f g fr r;refine h v _ H' (I.back g) g.h λho=>?_;refine#[f,dj.less (rN g.s<|(I.lists _).mono g.h) d v f ho r,fr.nd,λa ha=>bh.none (qZ _ _)<|fr.nf a ha,λa ha=>bh.none I.g.h<|fr.nh a ha,λi a ha hb=>?_];let#[o,e,_]:=I.ex i a hb;rw[fr.nh a ha]at e;cases e
def kC.back(I:bJ K F0 H0 O U F H fp){v:V}(V:kC K H0 F H fp d v f)(g:bX (adopt F H<|ownAt fp is) H F' H'):kC K H0 (minus F'<|ownAt fp is) H' fp d v f:=by
 have hn:∀a∈f,a∉ownAt fp is:=λa ha z=>by
  let#[i,_,hb]:=jx.mp z;exact V.dis i a ha hb
 have hx:=dj.ex d v f V.r;refine#[dj.mono ?_ d v f (λa ha=>?_) V.r,V.nd,λa ha=>?_,V.nh,V.dis]
 .intro b o h;have hb:b∉ownAt fp is:=λz=>by
   let#[i,_,hb]:=jx.mp z;have:=I.nf i b hb;rw[h]at this;cases this
  rw[jt hb];exact g.f b o<|gh I.g.s b o h
 .obtain⟨o,e,_⟩:=hx a ha;rw[e,g.h a o e]
 .rw[jt<|hn a ha];let#[o,e,k]:=hx a ha;cases q:F' a with
  |none=>rfl
  |some u=>exact((g.n a u q (by rw[lI<|hn a ha];exact V.nf a ha)).own e k).elim
structure qD (K:ak) (H0 F H:Hp) (fp:Nat->L Addr) (ds:L D) (vs:L V) (f:L Addr):Prop where
 r:aX K H F ds vs f
 nd:f.Nodup
 nf:∀a∈f,F a=B
 nh:∀a∈f,H0 a=B
 dis:∀i a,a∈f->a∉fp i
def qD.back(I:bJ K F0 H0 O U F H fp){v:L V}(V:qD K H0 F H fp d v f)(g:bX (adopt F H<|ownAt fp is) H F' H'):qD K H0 (minus F'<|ownAt fp is) H' fp d v f:=by
 have hn:∀a∈f,a∉ownAt fp is:=λa ha z=>by
  let#[i,_,hb]:=jx.mp z;exact V.dis i a ha hb
 have hx:=aX.ex d v f V.r;refine#[aX.mono ?_ d v f (λa ha=>?_) V.r,V.nd,λa ha=>?_,V.nh,V.dis]
 .intro b o h;have hb:b∉ownAt fp is:=λz=>by
   let#[i,_,hb]:=jx.mp z;have:=I.nf i b hb;rw[h]at this;cases this
  rw[jt hb];exact g.f b o<|gh I.g.s b o h
 .obtain⟨o,e,_⟩:=hx a ha;rw[e,g.h a o e]
 .rw[jt<|hn a ha];let#[o,e,k]:=hx a ha;cases q:F' a with
  |none=>rfl
  |some u=>exact((g.n a u q (by rw[lI<|hn a ha];exact V.nf a ha)).own e k).elim
def qD.snoc{vs:L V}{v:V}(V:qD K H0 F H fp ds vs f)(aad:kC K H0 F H fp d v f')(hd:∀a∈f,a∉f'):qD K H0 F H fp (ds++[d]) (vs++[v]) (f++f'):=by
 refine#[V.r.app #[v,[],f',[],rfl,by simp,aad.r,rfl,rfl],cE.mpr #[V.nd,aad.nd,λa ha b hb z=>hd a ha (by rw[z];exact hb)],λa ha=>?_,λa ha=>?_,λi a ha=>?_]
 .rcases bC.mp ha with q|q
  .exact V.nf a q
  .exact aad.nf a q
 .rcases bC.mp ha with q|q
  .exact V.nh a q
  .exact aad.nh a q
 .rcases bC.mp ha with q|q
  .exact V.dis i a q
  .exact aad.dis i a q
def runN[Ex](hΓ:d7 K Γp Y)(I:bJ K F0 H0 O U F H fp)(V0:qD K H0 F H fp ds vs f0)(lt:eF e=W)(he:pE Γp e O=.c d)(ho:aV d=W)(h:∀v F1 H1 f,bJ K F0 H0 O U F1 H1 fp->qD K H0 F1 H1 fp (ds++[d]) (vs++[v]) f->Q v H1):wE K Y Ex.E e U H Q:=by
 refine gQ hΓ e (I.env<|cz e) (i0 I.g.s) lt ?_;rw[he];intro F' H' v f g fr r;refine h v _ H' _ (I.back g)<|(V0.back I g).snoc #[dj.less (rN g.s<|(I.lists _).mono g.h) d v f ho r,fr.nd,λa ha=>bh.none (qZ _ _)<|fr.nf a ha,λa ha=>bh.none I.g.h<|fr.nh a ha,λi a ha hb=>?_] λa ha hb=>?_
 .obtain⟨o,e,_⟩:=I.ex i a hb;rw[fr.nh a ha]at e;cases e
 .obtain⟨o,e,_⟩:=aX.ex ds vs f0 V0.r a ha;rw[fr.nh a hb]at e;cases e
def bJ.agw(I:bJ K F0 H0 O U F H fp)(k:Nat):bJ K F0 H0 (O.set k B) U F H (λi=>if i=k then[]else fp i):=by
 have sub:∀i a,a∈(if i=k then[]else fp i)->a∈fp i:=λi a ha=>by grind
 refine#[I.g,by simp[I.len],λi d e=>?_,λi a ha=>I.ex i a<|sub i a ha,λi=>?_,λi a ha=>I.nf i a<|sub i a ha,λi a ha=>I.nh i a<|sub i a ha,λi j a ha hb=>I.dis i j a (sub i a ha)<|sub j a hb]
 .by_cases c:i=k
  .subst c;rw[gM]at e;by_cases hi:i<zl O
   .simp[hi]at e
   .simp[hi]at e
  .rw[cX<|dc c]at e;rw[aE c];exact I.rep i d e
 .by_cases c:i=k
  .rw[aQ c];exact gz
  .rw[aE c];exact I.nd i
def Xl[Ex](hΓ:d7 K Γp Y)(I:bJ K F0 H0 O U F H fp)(V0:kC K H0 F H fp d0 v0 f0)(lt:eF e=W)(he:pE Γp e O=.c d)(h:∀v F1 H1,bJ K F0 H0 O U F1 H1 fp->kC K H0 F1 H1 fp d0 v0 f0->(∀{x:D},d=x->aV x=W->bf K H1 x v)->Q v H1):wE K Y Ex.E e U H Q:=by
 refine gQ hΓ e (I.env<|cz e) (i0 I.g.s) lt ?_;rw[he];intro F' H' v f g fr r;refine h v _ H' (I.back g) (V0.back I g) λz ho=>?_;subst z;let#[F2,g2,s2,rf]:=W_ g fr r;exact bf.mono g2.s d v rf
def aeS[Ex](hΓ:d7 K Γp Y){Q:Bool->Hp->Prop}(I:bJ K F0 H0 O U F H fp)(lt:eF e=W)(he:pT Γp e O=.c b)(h:∀F1 H1,bJ K F0 H0 O U F1 H1 fp->Q b H1):wT K Y Ex.E e U H Q:=by
 refine AW hΓ e (I.env<|cz e) (i0 I.g.s) lt ?_;rw[he];exact λF' H' g=>h _ H'<|I.back g
def bJ.own(I:bJ K F0 H0 O U F H fp)(is:L Nat):bX F0 H0 (adopt F H<|ownAt fp is) H:=vo I.g λa ha=>by
 let#[i,_,hi]:=jx.mp ha;exact I.nh i a hi
def Ag[Ex](hΓ:d7 K Γp Y){e:CE}{x:D}{Q:VK}(I:bJ K F0 H0 O U F H fp)(lt:eF e=W)(he:pE Γp e O=.e x)(h:mG K F0 H0 x):wE K Y Ex.E e U H Q:=by
 refine gQ hΓ e (I.env<|cz e) (i0 I.g.s) lt ?_;rw[he];exact mG.grow (K:=K) (x:=x) h<|I.own<|cz e
def Z_[Ex](hΓ:d7 K Γp Y){e:CE}{x:D}{Q:Bool->Hp->Prop}(I:bJ K F0 H0 O U F H fp)(lt:eF e=W)(he:pT Γp e O=.e x)(h:mG K F0 H0 x):wT K Y Ex.E e U H Q:=by
 refine AW hΓ e (I.env<|cz e) (i0 I.g.s) lt ?_;rw[he];exact mG.grow (K:=K) (x:=x) h<|I.own<|cz e
def agx[Ex](hΓ:d7 K Γp Y){c:CI}{x:D}{k:(Hp->Prop)->L Item->Hp->Prop}(I:bJ K F0 H0 O U F H fp)(lt:ltI c=W)(he:pI Γp c O=.e x)(h:mG K F0 H0 x):wI K Y Ex.E c U H k:=by
 refine ruI hΓ c (ownAt fp<|ua c) (I.env<|ua c) (i0 I.g.s) (I.lists _) lt ?_;rw[he];exact mG.grow (K:=K) (x:=x) h<|I.own<|ua c
def HP{o:Bool}{U:a_}{k:Nat}(h:(o||!is.contains k)=W):(jw is o U)[k]?=U[k]?:=by
 cases o with
 |true=>rfl
 |false=>
  have hk:k∉is:=by simpa using h
  show(qC is U)[k]?=_;clear h;induction is generalizing U with
  |nil=>rfl
  |cons i is ih=>
   rw[qC,ih λz=>hk<|az _ z,EG,aE λz=>hk (by rw[z];exact aD)]
def bJ.lst{k:Nat}{xs:L D}(I:bJ K F0 H0 O U F H fp)(e:O[k]?=M (M<|.b W xs)):∃a vs fs,U[k]?=M (M<|.a a)/\H a=M (.a vs)/\zl vs<=ao/\aX K H F xs vs fs/\fp k=a::fs:=by
 let#[v,h1,h2]:=I.rep k _ e;let#[a,vs,fs,rfl,q]:=h2;exact#[a,vs,fs,h1,q]
def bJ.T9(I:bJ K F0 H0 O U F H fp)(e:O[k]?=M (M<|.f W ks xs)):∃a kvs fs,U[k]?=M (M<|.a a)/\H a=M (.c kvs)/\zl kvs<=ao/\(kvs.map (·.1)=ks/\keysOk ks=W)/\aX K H F xs (kvs.map (·.2)) fs/\fp k=a::fs:=by
 let#[v,h1,h2]:=I.rep k _ e;let#[a,vs,fs,rfl,q]:=h2;exact#[a,vs,fs,h1,q]
def bJ.dtk(I:bJ K F0 H0 O U F H fp)(e:O[k]?=M (M<|.h W ks xs)):∃a kvs fs,U[k]?=M (M<|.a a)/\H a=M (.d kvs)/\zl kvs<=ao/\(kvs.map (·.1)=ks/\qX ks=W)/\aX K H F xs (kvs.map (·.2)) fs/\fp k=a::fs:=by
 let#[v,h1,h2]:=I.rep k _ e;let#[a,vs,fs,rfl,q]:=h2;exact#[a,vs,fs,h1,q]
def slot_of{k:V->Prop}(h:U[i]?=M (M v))(q:k v):Fo U i k:=by
 exact#[v,h,q]
theorem aX.set:∀{ds:L D}{vs:L V}{fs f:L Addr} (n:Nat) {d:D}{v:V},aX K H F ds vs fs->dj K H F d v f->(fs++f).Nodup->∃fs',aX K H F (ds.set n d) (vs.set n v) fs'/\fs'.Nodup/\∀b∈fs',b∈fs\/b∈f
|[],_,_,_,n,_,_,h,_,nd=>by
 let#[rfl,rfl]:=h;exact#[[],#[rfl,rfl],gz,λb hb=>aC hb aO]
|e::ds,_,_,f,0,d,v,h,hd,nd=>by
 let#[w,r,f1,f2,rfl,rfl,h3,h4]:=h;refine#[f++f2,#[v,r,f,f2,rfl,rfl,hd,h4],?_,?_]
 .grind
 .grind
|e::ds,_,_,f,n+1,d,v,h,hd,nd=>by
 let#[w,r,f1,f2,rfl,rfl,h3,h4]:=h;have nd':(f2++f).Nodup/\f1.Nodup/\∀a∈f1,∀b,(b∈f2\/b∈f)->a≠b:=by
  rw[bR]at nd;let#[n1,n2,n3]:=cE.mp nd;exact#[n2,n1,λa ha b hb=>n3 a ha b<|bC.mpr hb]
 let#[fs',q1,q2,q3]:=aX.set n h4 hd nd'.1;refine#[f1++fs',#[w,_,f1,fs',rfl,rfl,h3,q1],cE.mpr #[nd'.2.1,q2,λa ha b hb=>nd'.2.2 a ha b<|q3 b hb],?_];intro b hb;rcases bC.mp hb with hb|hb
 .exact .inl (cF _ hb)
 .grind
theorem aX.split:∀{ds:L D}{vs:L V}{fs:L Addr} (n:Nat),aX K H F ds vs fs->∃f1 f2,fs=f1++f2/\aX K H F (ds.take n) (vs.take n) f1/\aX K H F (ds.drop n) (vs.drop n) f2
|_,_,_,0,h=>#[[],_,rfl,#[rfl,rfl],h]
|[],_,_,n+1,h=>by
 let#[rfl,rfl]:=h;exact#[[],[],rfl,#[rfl,rfl],#[rfl,rfl]]
|d::ds,_,_,n+1,h=>by
 let#[w,r,f1,f2,rfl,rfl,h3,h4]:=h;let#[g1,g2,rfl,q1,q2]:=aX.split n h4;exact#[f1++g1,g2,by simp,#[w,_,f1,g1,rfl,rfl,h3,q1],q2]
def bJ.Q_{k:Nat}{o:HO}{d':D}{a:Addr}{fs fs' f:L Addr}{d:D}{v:V}(I:bJ K F0 H0 O U F H fp)(V:kC K H0 F H fp d v f)(hσ:U[k]?=M (M<|.a a))(hk:fp k=a::fs)(nd:fs'.Nodup)(sub:∀b∈fs',b∈fs\/b∈f)(hr:(∀b∈fs,upd H a o b=H b)->(∀b∈f,upd H a o b=H b)->dj K (upd H a o) F d' (.a a) (a::fs')):∃fp',bJ K F0 H0 (O.set k<|M d') U F (upd H a o) fp':=by
 have hak:a∈fp k:=by rw[hk];exact aD
 have nda:a∉fs/\fs.Nodup:=by have:=I.nd k;rw[hk]at this;exact cL.mp this
 have haf:a∉f:=λz=>V.dis k a z hak;have hs:∀b∈fs',b∈fp k\/b∈f:=λb hb=>by
  rcases sub b hb with z|z
  .exact .inl (by rw[hk];exact az _ z)
  .exact .inr z
 refine#[_,I.put hak hσ (d:=d') (f:=a::fs') (hr (λb hb=>bq λz=>nda.1 (by rw[<-z];exact hb)) λb hb=>bq λz=>haf (by rw[<-z];exact hb)) ?_ ?_ ?_ ?_]
 .refine cL.mpr #[λz=>?_,nd];rcases sub a z with z|z
  .exact nda.1 z
  .exact haf z
 .intro b hb;rcases aY.mp hb with rfl|hb
  .exact I.nf k b hak
  .rcases hs b hb with z|z
   .exact I.nf k b z
   .exact V.nf b z
 .intro b hb;rcases aY.mp hb with rfl|hb
  .exact I.nh k b hak
  .rcases hs b hb with z|z
   .exact I.nh k b z
   .exact V.nh b z
 .intro i hi b hb hc;rcases aY.mp hb with rfl|hb
  .exact hi (I.dis i k b hc hak)
  .rcases hs b hb with z|z
   .exact hi (I.dis i k b hc z)
   .exact V.dis i b z hc
def bJ.aaa{kvs':L<|Key×V}{v:V}(I:bJ K F0 H0 O U F H fp)(V:kC K H0 F H fp d v f)(hσ:U[k]?=M (M<|.a a))(hk:fp k=a::fs)(hl:zl kvs'<=ao)(hks:kvs'.map (·.1)=ks/\keysOk ks=W)(hr:∀{H':Hp},(∀b∈fs,H' b=H b)->(∀b∈f,H' b=H b)->aX K H' F xs' (kvs'.map (·.2)) fs')(nd:fs'.Nodup)(sub:∀b∈fs',b∈fs\/b∈f):∃fp',bJ K F0 H0 (O.set k<|M<|.f W ks xs') U F (upd H a<|.c kvs') fp':=I.Q_ V hσ hk nd sub λh1 h2=>fQ a #[kvs',fs',rfl,c5,hl,hks,hr h1 h2,rfl]
def bJ.agy{kvs':L<|L Key×V}{v:V}(I:bJ K F0 H0 O U F H fp)(V:kC K H0 F H fp d v f)(hσ:U[k]?=M (M<|.a a))(hk:fp k=a::fs)(hl:zl kvs'<=ao)(hks:kvs'.map (·.1)=ks/\qX ks=W)(hr:∀{H':Hp},(∀b∈fs,H' b=H b)->(∀b∈f,H' b=H b)->aX K H' F xs' (kvs'.map (·.2)) fs')(nd:fs'.Nodup)(sub:∀b∈fs',b∈fs\/b∈f):∃fp',bJ K F0 H0 (O.set k<|M<|.h W ks xs') U F (upd H a<|.d kvs') fp':=I.Q_ V hσ hk nd sub λh1 h2=>fQ a #[kvs',fs',rfl,c5,hl,hks,hr h1 h2,rfl]
def bJ.BX{xs xs':L D}{vs vs':L V}{v:V}(I:bJ K F0 H0 O U F H fp)(V:kC K H0 F H fp d v f)(hσ:U[k]?=M (M<|.a a))(hk:fp k=a::fs)(hl:zl vs'<=ao)(hr:∀{H':Hp},(∀b∈fs,H' b=H b)->(∀b∈f,H' b=H b)->aX K H' F xs' vs' fs')(nd:fs'.Nodup)(sub:∀b∈fs',b∈fs\/b∈f):∃fp',bJ K F0 H0 (O.set k<|M<|.b W xs') U F (upd H a<|.a vs') fp':=I.Q_ V hσ hk nd sub λh1 h2=>fQ a #[vs',fs',rfl,c5,hl,hr h1 h2,rfl]
end
def bJ.drop{fp:Nat->L Addr}(I:bJ K F0 H0 O U F H fp):bJ K F0 H0 (O.set i B) (U.set i w) F H fp where
 g:=I.g
 len:=by simp[I.len]
 rep:=λj d e=>by
  by_cases hij:i=j
  .subst hij;rw[gM]at e;split at e
   .split at e<;>cases e
   .rename_i z;exact aC rfl z
  .rw[cX hij]at e ⊢;exact I.rep j d e
 ex:=I.ex
 nd:=I.nd
 nf:=I.nf
 nh:=I.nh
 dis:=I.dis
section
variable{K:ak}{Γp:L PG}{Y:L G}{F0 H0 F H:Hp}{O:a_}{U:L2.St}{fp:Nat->L Addr}{X:Ends}
theorem Xm[Ex](hΓ:d7 K Γp Y):∀(as:jQ) {ds acc:L D}{av:L V}{af:L Addr}{O:a_}{F H:Hp}{fp:Nat->L Addr}{Q:L V->Hp->Prop},bJ K F0 H0 O U F H fp->qD K H0 F H fp acc av af->nN as=W->nW Γp as O=.c ds->
 (∀vs F1 H1 σ1 fp1 f,bJ K F0 H0 σ1 U F1 H1 fp1->qD K H0 F1 H1 fp1 (acc++ds) (av++vs) f->Q vs H1)->wEs K Y Ex.E as U H Q
|.nil,ds,acc,av,af,O,F,H,fp,Q,I,V,lt,e,h=>by
 cases e;exact h [] F H O fp af I (by rw[dS,dS];exact V)
|.cons a r,ds,acc,av,af,O,F,H,fp,Q,I,V,lt,e,h=>by
 let#[l1,l2]:=band' lt;have e:(match Q6 a with
  |some i=>match O[i]? with
   |some (M d)=>(nW Γp r<|O.set i B).bind λds=>.c (d::ds)
   |_=>.d
  |none=>(pE Γp a O).bind λd=>.bP (aV d)<|(nW Γp r O).bind λds=>.c (d::ds))=R.c ds:=e
 cases va:Q6 a with
 |some i=>
  have ea:a=.a i:=by cases a<;>first|(cases va;rfl)|(cases va)
  subst ea;rw[va]at e;simp only at e;cases q:O[i]? with
  |none=>simp_all
  |some o=>
   cases o with
   |none=>simp_all
   |some d=>
    rw[q]at e;let#[ds',e1,e2]:=cu e;cases e2;let#[v,h1,h2]:=I.rep i d q;have V1:qD K H0 F H (λj=>if j=i then[]else fp j) (acc++[d]) (av++[v]) (af++fp i):=by
     refine qD.snoc #[V.r,V.nd,V.nf,V.nh,λj a ha=>?_] #[h2,I.nd i,I.nf i,I.nh i,λj a ha=>?_] λa ha hb=>V.dis i a ha hb
     .by_cases c:j=i
      .rw[aQ c];exact aO
      .rw[aE c];exact V.dis j a ha
     .by_cases c:j=i
      .rw[aQ c];exact aO
      .rw[aE c];exact λz=>c<|I.dis j i a z ha
    refine slot_of h1<|Xm hΓ r (I.agw i) V1 l2 e1 λvs F1 H1 σ1 fp1 f I1 aad=>h (v::vs) F1 H1 σ1 fp1 f I1 ?_;rw[bR,bR]at aad;exact aad
 |none=>
  rw[va]at e;simp only at e;let#[d,e1,e2]:=cu e;let#[ho,e2]:=oF e2;let#[ds',e3,e4]:=cu e2;cases e4;refine runN hΓ I V l1 e1 ho λv F1 H1 f I1 V1=>?_;refine Xm hΓ r I1 V1 l2 e3 λvs F2 H2 σ2 fp2 f2 I2 aad=>h (v::vs) F2 H2 σ2 fp2 f2 I2 ?_;rw[bR,bR]at aad;exact aad
def agz[Ex](hΓ:d7 K Γp Y)(I:bJ K F0 H0 O U F H fp)(lt:eF e=W)(h:dO K F0 H0 ((pM Γp e O).bG .c) X):wE K Y Ex.E e U H X.rt:=by
 rcases qd h with⟨x,e1,hx⟩|⟨d,e1,h'⟩
 .have gen:pE Γp e O=.e x->wE K Y Ex.E e U H X.rt:=λhe=>Ag hΓ I lt he hx;cases e with
  |a i=>
   have e1:(match O[i]? with|some (M d)=>R.c d|_=>.d)=.e x:=e1;split at e1<;>cases e1
  |f as=>
   have e1:(nW Γp as O).alt (λds=>.bP (decide<|zl ds<=ao)<|.c<|.d ds) (pE Γp (.f as) O)=.e x:=e1;unfold R.alt at e1;split at e1
   .exact aC e1 (cg.bP cg.ok x)
   .exact gen e1
  |_=>exact gen e1
 clear h;have gen:=λhe=>BW hΓ I lt he λv F1 H1 fp1 f I1 V1=>h' v F1 H1 f I1.g #[V1.nd,V1.nh,V1.nf] V1.r;cases e with
 |a i=>
  have e1:(match O[i]? with|some (M d)=>R.c d|_=>.d)=.c d:=e1;cases q:O[i]? with
  |none=>rw[q]at e1;cases e1
  |some o=>
   cases o with
   |none=>rw[q]at e1;cases e1
   |some d'=>
    rw[q]at e1;cases e1;let#[v,h1,h2]:=I.rep i d q;exact slot_of h1<|h' v F H (fp i) I.g #[I.nd i,I.nh i,I.nf i] h2
 |f as=>
  have e1:(nW Γp as O).alt (λds=>.bP (decide<|zl ds<=ao)<|.c<|.d ds) (pE Γp (.f as) O)=.c d:=e1;cases e2:nW Γp as O with
  |c ds=>
   rw[e2]at e1;let#[c3,e4]:=oF e1;cases e4;refine Xm hΓ as I (acc:=[]) (av:=[]) (af:=[]) #[#[rfl,rfl],gz,λ_ z=>aC z aO,λ_ z=>aC z aO,λ_ _ z=>aC z aO] lt e2 λvs F1 H1 σ1 fp1 f I1 V=>?_;have hr:aX K H1 F1 ds vs f:=V.r;have hl:zl vs<=ao:=by rw[hr.len];exact ay c3
   refine#[hl,λp hp=>?_];have g2:=BL (o:=.b vs) I1.g.s hp;have I2:=I1.grow g2;have np:∀a∈f,a≠p:=λa ha z=>by
    let#[o,e,_]:=aX.ex ds vs f hr a ha;rw[z,hp]at e;cases e
   exact h' (.a p) _ _ f I2.g #[V.nd,V.nh,λa ha=>by rw[bq<|np a ha];exact V.nf a ha] #[p,vs,rfl,c5,hl,aX.mono g2.f ds vs f (λa ha=>bq<|np a ha) hr]
  |_=>
   rw[e2]at e1;exact gen e1
 |_=>exact gen e1
set_option tactic.hygienic true
theorem Jq{H F:Hp}:∀{ds:L D}{vs:L V}{ns:L Int}{f:L Addr},aX K H F ds vs f->kY ds=M ns->vs=ns.map V.b/\f=[]
|[],_,_,_,r,e=>by let#[rfl,rfl]:=r;cases e;exact#[rfl,rfl]
|d::ds,_,_,_,r,e=>by
 let#[v,r',f1,f2,rfl,rfl,h1,h2]:=r;cases d<;>first|cases e|skip
 rename_i z;have e:(kY ds).map (z::·)=M _:=e;cases q:kY ds with
 |none=>rw[q]at e;cases e
 |some ns'=>
  rw[q]at e;cases e;let#[rfl,rfl]:=h1;let#[e1,e2]:=Jq h2 q;exact#[by rw[e1];rfl,by rw[e2];rfl]
theorem FO{H F:Hp}:∀ns:L Int,aX K H F (ns.map D.a) (ns.map V.b) []
|[]=>#[rfl,rfl]
|n::ns=>#[.b n,ns.map V.b,[],[],rfl,rfl,#[rfl,rfl],FO ns]
theorem Jr:∀(ns:L Int) (i:Nat),(ns.eraseIdx i).map V.b=(ns.map V.b).eraseIdx i
|[],i=>by cases i<;>rfl
|n::ns,0=>rfl
|n::ns,i+1=>by show V.b n::(ns.eraseIdx i).map V.b=V.b n::(ns.map V.b).eraseIdx i;rw[Jr ns i]
def Uj{d:D}{xs:L D}(h:v_ d=M xs):d=.b W xs:=by
 cases d<;>first|exact nU h|skip
 rename_i o ds;cases o<;>first|exact nU h|(cases h;rfl)
def aeT{d:D}{p:L Key×L D}(h:asD d=M p):d=.f W p.1 p.2:=by
 cases d<;>first|exact nU h|skip
 rename_i o ks ds;cases o<;>first|exact nU h|(cases h;rfl)
def aeU{d:D}{i:Str}(h:asS d=M i):d=.c i:=by cases d<;>first|exact nU h|(cases h;rfl)
def BY{α:Type}{f:D->aah α}{x:aah<|aah D}{a:α}(h:k9 f x=M a):∃d,x=M (M d)/\f d=M a:=by
 cases x with
 |none=>exact nU h
 |some y=>
  cases y with
  |none=>exact nU h
  |some d=>exact#[d,rfl,h]
def Uk{x:aah<|aah D}{xs:L D}(h:k9 v_ x=M xs):x=M (M<|.b W xs):=by
 let#[d,e,h]:=BY h;rw[e,Uj h]
def yZ[Ex]{α:Type}{F0 H0:Hp}{X:Ends}{o:aah α}{f:α->Fl}(h:dO K F0 H0 (oG o f) X):∃a,o=M a/\dO K F0 H0 (f a) X:=by
 cases o with
 |none=>cases h
 |some a=>exact#[a,rfl,h]
def Dj[Ex]{F0 H0:Hp}{X:Ends}{x:aah<|aah D}{f:L D->Fl}(h:dO K F0 H0 (oG (k9 v_ x) f) X):∃a,x=M (M<|.b W a)/\dO K F0 H0 (f a) X:=by
 let#[a,e,h]:=yZ h;exact#[a,Uk e,h]
def FP[Ex]{F0 H0:Hp}{X:Ends}{c:Bool}{f:Fl}(h:dO K F0 H0 (if c=W then f else .b) X):c=W/\dO K F0 H0 f X:=by
 cases c with
 |true=>exact#[rfl,h]
 |false=>cases h
def Pr{x:aah<|aah D}(h:rO x=W):∃xs,x=M (M<|.b W xs):=by
 unfold rO at h;cases e:k9 v_ x with
 |none=>rw[e]at h;cases h
 |some xs=>exact#[xs,Uk e]
def agA[Ex]{Y:L G}{k j:Nat}{F0 H0 F H:Hp}{O:a_}{U:L2.St}{fp:Nat->L Addr}{X:Ends}(I:bJ K F0 H0 O U F H fp)(h:dO K F0 H0 (Q8 k O O[k]? O[j]?) X):wE K Y Ex.E (.i .e (.a k) #v[.a j]) U H λ_ H1=>X.nx U H1:=by
 let#[xs,q1,h]:=Dj h;let#[n,q2,h]:=yZ h;let#[ns,e,h]:=yZ h;let#[hn,h]:=FP h;let#[d,q2,ed]:=BY q2;rw[mH ed]at q2;let#[a,us,fs,s1,s2,s3,s4,s5]:=I.lst q1;let#[v,h1,h2]:=(I.env [j]).e j (aL.mpr rfl) (.a n) q2;obtain rfl:v=.b n:=h2;let#[rfl,rfl]:=Jq s4 e;have em:(ns.map V.b).eraseIdx (ns.idxOf n)=(ns.eraseIdx<|ns.idxOf n).map V.b:=(Jr ns _).symm;let#[fp',I']:=I.BX (xs:=xs) (xs':=(ns.eraseIdx<|ns.idxOf n).map D.a) (vs:=ns.map V.b) (vs':=(ns.eraseIdx<|ns.idxOf n).map V.b) (fs:=[]) (fs':=[]) (kC.Q9 (d:=.a n) (show bf K F (.a n) (.b n)from rfl)) s1 s5 (by rw[ai]at s3 ⊢;exact fB (List.length_eraseIdx_le ..) s3)
  (λ_ _=>FO _) gz λb hb=>aC hb aO
 refine slot_of s1<|lW #[a,rfl,.inr #[rfl,_,.inl s2]]<|slot_of h1 ?_;exact#[a,ns,n,rfl,rfl,s2,ay hn,by rw[em];exact h U F _ fp' I']
theorem Jt{H F:Hp}:∀(kvs:L<|Key×V) (ds:L D) (k:Key) (f:L Addr),aX K H F ds (kvs.map (·.2)) f->(match ia (kvs.map (·.1)) ds k with
 |some d=>∃v f',gc kvs k=M v/\dj K H F d v f'
 |none=>gc kvs k=B)
|[],ds,k,f,h=>by cases ds<;>rfl
|(q,w)::r,[],k,f,h=>by let#[z,_]:=h;cases z
|(q,w)::r,d::ds,k,f,h=>by
 let#[v,r',f1,f2,e,rfl,h1,h2]:=h;cases e;have ih:=Jt r ds k f2 h2;unfold gc at ih ⊢;have z:ia (((q,w)::r).map (·.1)) (d::ds) k=if q=k then M d else ia (r.map (·.1)) ds k:=rfl
 rw[z];by_cases c:q=k
 .rw[aQ c];exact#[w,f1,by simp[c],h1]
 .rw[aE c];cases e:ia (r.map (·.1)) ds k with
  |none=>rw[e]at ih;simp[c]at ih ⊢;exact ih
  |some x=>rw[e]at ih;let#[v',f',i1,i2]:=ih;exact#[v',f',by simp[c]at i1 ⊢;exact i1,i2]
def agB[Ex]{Y:L G}{k i j:Nat}{F0 H0 F H:Hp}{O σ2:a_}{U:L2.St}{fp:Nat->L Addr}{c:Bool}{Q:Bool->Hp->Prop}(I:bJ K F0 H0 O U F H fp)(q:BV k O O[k]? O[i]? O[j]?=M (σ2,c))(h:∀H1 fp1,bJ K F0 H0 σ2 U F H1 fp1->Q c H1):wT K Y Ex.E (LU k i j) U H Q:=by
 let#[#[ks,xs],q1,q]:=fL.mp q;let#[s,q2,q]:=fL.mp q;let#[n,q3,q]:=fL.mp q;let#[d,q1,e1]:=BY q1;rw[aeT e1]at q1;dsimp only at q1 q;let#[d,q2,e2]:=BY q2;rw[aeU e2]at q2;let#[d,q3,e3]:=BY q3;rw[mH e3]at q3;by_cases hk:zl ks<ao
 case neg=>rw[aE hk]at q;cases q
 rw[aQ hk]at q;let#[a,kvs,fs,s1,s2,s3,s4,s5,s6]:=I.T9 q1;let#[v,h1,h2]:=(I.env [i]).e i (aL.mpr rfl) (.c s) q2;let#[rfl,hs]:=(show v=.e s/\_ from h2);let#[v,h3,h4]:=(I.env [j]).e j (aL.mpr rfl) (.a n) q3;obtain rfl:v=.b n:=h4;have hl:zl kvs=zl ks:=by rw[<-s4.1,ai]
 have hg:=Jt kvs xs (.inr s) fs s5;rw[s4.1]at hg;have cmp:∀(m:Int) (H1:Hp),Q (decide<|m≠n) H1->Fo U j λy=>qM K .NotEq (.b m) y H1 λz H3=>match z with
  |.c k=>Q k H3
  |_=>bu:=λm H1 hq=>slot_of h3 #[.a m,.a n,rfl,rfl,rfl,rfl,by
   have:(!k_ (.a m) (.a n))=decide (m≠n):=(decide_not ..).symm;rw[this];exact hq]
 refine slot_of s1 (lW #[a,rfl,.inl #[rfl,kvs,s2]] (slot_of h1 (slot_of h3 #[a,kvs,.inr s,.b n,rfl,rfl,s2,by omega,λv hv=>?_,λhn=>?_])))
 .cases e:ia ks xs (.inr s)with
  |none=>
   rw[e]at hg;rw[hg]at hv;cases hv
  |some m=>
   rw[e]at hg q;let#[m,em,q]:=fj.mp q;cases q;let#[v,f',g1,g2]:=hg;rw[mH em]at g2;let#[rfl,rfl]:=g2;rw[g1]at hv;cases hv;exact cmp m H<|h H fp I
 .cases e:ia ks xs (.inr s)with
  |some m=>
   rw[e]at hg;let#[v,f',g1,g2]:=hg;rw[g1]at hn;cases hn
  |none=>
   rw[e]at hg q;by_cases hx:ji ks (.inr s)=J
   case neg=>rw[aE hx]at q;cases q
   rw[aQ hx]at q;cases q;rw[Wr _ hn];have nd0:=I.nd k;rw[s6]at nd0;let#[fp',I']:=I.aaa (ks:=ks++[.inr s]) (xs':=xs++[.a n]) (kvs':=kvs++[(.inr s,.b n)]) (fs:=fs) (fs':=fs) (kC.Q9 (d:=.a n) (show bf K F (.a n) (.b n)from rfl)) s1 s6 (by simp;omega)
    #[by rw[be,s4.1];rfl,by
     have z:=s4.2;unfold keysOk at z ⊢;rw[xX,z];simp[keyOk,hs]]
    (λh1 _=>by
     rw[be];have:=aX.app (aX.mono (bh.refl _) _ _ _ h1 s5)<|aX.one (d:=.a n) (v:=.b n) (fp:=[]) (K:=K) (F:=F) #[rfl,rfl];rw[dS]at this;exact this) (cL.mp nd0).2 λb hb=>.inl hb
   have:=h _ fp' I';exact cmp n _<|by simpa using this
def okX[Ex](hΓ:d7 K Γp Y)(I:bJ K F0 H0 O U F H fp)(lt:eF e=W)(h:dO K F0 H0 (pX Γp e O) X):wE K Y Ex.E e U H λ_ H1=>X.nx U H1:=by
 have gen:dO K F0 H0 ((pE Γp e O).bG λ_=>.a O) X->wE K Y Ex.E e U H λ_ H1=>X.nx U H1:=λh=>by
  rcases qd h with⟨x,e1,hx⟩|⟨d,e1,h⟩
  .exact Ag hΓ I lt e1 hx
  exact runD' hΓ I lt e1 λv F1 H1 I1 _ _=>h U F1 H1 fp I1
 cases e with
 |i m o as=>
  cases o with
  |a k=>
   let#[_,lt2]:=band' (show(eF (.a k)&&nN as)=W from lt);cases m with
   |a=>
    cases as with
    |nil=>cases h
    |cons a r=>
     cases r with
     |cons _ _=>cases h
     |nil=>
      let#[la,_]:=band' (show(eF a&&nN .nil)=W from lt2);rcases HL (show dO K F0 H0 ((pE Γp a O).pU (rO O[k]?) λd=>oG (k9 v_ O[k]?) λxs=>if(decide (zl xs<ao)&&(aV d||!(cz a).contains k))=W then .a ((jw (cz a) (aV d) O).set k<|M<|.b W<|xs++[d])else .b) X from h)with⟨hb,x,e1,hx⟩|⟨d,e1,h⟩
      .obtain⟨xs,q⟩:=Pr hb;let#[a0,us,fs,s1,s2,_]:=I.lst q;exact slot_of s1 (lW #[a0,rfl,.inr #[rfl,us,.inl s2]] (show wE K Y Ex.E a U H _ from Ag hΓ I la e1 hx))
      let#[xs,q,h]:=Dj h;let#[c,h]:=FP h;let#[c1,c2]:=band' c;have c1:=ay c1;let#[a0,us,fs,s1,s2,s3,s4,s5]:=I.lst q;refine slot_of s1 (lW #[a0,rfl,.inr #[rfl,us,.inl s2]] (show wE K Y Ex.E a U H _ from ?_));refine BW hΓ I la e1 λv F1 H1 fp1 f I1 V1=>?_;let#[a1,us1,je,t1,t2,t3,t4,t5]:=I1.lst (k:=k) (xs:=xs) (by rw[HP c2];exact q);rw[s1]at t1;cases t1;refine#[a0,us1,v,rfl,rfl,t2,by rw[t4.len];exact c1,?_];have nd1:(je++f).Nodup:=by
       have n:=I1.nd k;rw[t5]at n;refine cE.mpr #[(cL.mp n).2,V1.nd,λa ha b hb z=>?_];subst z;exact V1.dis k a hb (by rw[t5];exact az _ ha)
      let#[fp',I']:=I1.BX (xs:=xs) (xs':=xs++[d]) (vs:=us1) (vs':=us1++[v]) (fs:=je) (fs':=je++f) V1 s1 t5 (by rw[aW,t4.len];simp;omega)
       (λh1 h2=>aX.app (aX.mono (bh.refl _) _ _ _ h1 t4)<|aX.one<|dj.mono (bh.refl _) _ _ _ h2 V1.r) nd1 λb hb=>bC.mp hb
      exact h U F1 _ fp' I'
   |d=>
    cases as with
    |nil=>cases h
    |cons a r=>
     cases r with
     |cons _ _=>cases h
     |nil=>
      let#[la,_]:=band' (show(eF a&&nN .nil)=W from lt2);rcases HL (show dO K F0 H0 ((pE Γp a O).pU (rO O[k]?) λd=>Q7 k (cz a) d O) X from h)with⟨hb,x,e1,hx⟩|⟨d,e1,h⟩
      .obtain⟨xs,q⟩:=Pr hb;let#[a0,us,fs,s1,s2,_]:=I.lst q;exact slot_of s1 (lW #[a0,rfl,.inr #[rfl,us,.inl s2]] (show wE K Y Ex.E a U H _ from Ag hΓ I la e1 hx))
      let#[ys,ed,h]:=yZ h;have ed:=Uj ed;subst ed;let#[xs,q,h]:=Dj h;let#[c,h]:=FP h;let#[c1,c2]:=band' c;have c1:=ay c1;let#[a0,us,fs,s1,s2,s3,s4,s5]:=I.lst q;refine slot_of s1 (lW #[a0,rfl,.inr #[rfl,us,.inl s2]] (show wE K Y Ex.E a U H _ from ?_));refine BW hΓ I la e1 λv F1 H1 fp1 f I1 V1=>?_;let#[a1,us1,je,t1,t2,t3,t4,t5]:=I1.lst (k:=k) (xs:=xs) (by rw[HP c2];exact q);rw[s1]at t1;cases t1;have rv:=V1.r;let#[b,ws,f2,rfl,k2,k3,k4,rfl]:=rv;refine#[a0,b,us1,ws,rfl,rfl,t2,k2,by rw[t4.len,k4.len];exact c1,?_];have nd2:=cL.mp V1.nd;have nd1:(je++f2).Nodup:=by
       have n:=I1.nd k;rw[t5]at n;refine cE.mpr #[(cL.mp n).2,nd2.2,λa ha b hb z=>?_];subst z;exact V1.dis k a (az _ hb) (by rw[t5];exact az _ ha)
      let#[fp',I']:=I1.BX (xs:=xs) (xs':=xs++ys) (vs:=us1) (vs':=us1++ws) (fs:=je) (fs':=je++f2) V1 s1 t5 (by rw[aW,t4.len,k4.len];exact c1)
       (λh1 h2=>aX.app (aX.mono (bh.refl _) _ _ _ h1 t4)<|aX.mono (bh.refl _) _ _ _ (λb hb=>h2 b<|az _ hb) k4) nd1 (λb hb=>by
        rcases bC.mp hb with z|z
        .exact .inl z
        .exact .inr (az _ z))
      exact h U F1 _ fp' I'
   |e=>
    cases as with
    |nil=>cases h
    |cons a r=>cases a<;>first|exact h.elim|(cases r<;>first|exact h.elim|exact agA I h)
   |f=>
    cases as with
    |nil=>cases h
    |cons i r=>
    cases r with
    |nil=>cases h
    |cons a r=>
    cases r with
    |cons _ _=>cases h
    |nil=>
     let#[li,l2]:=band' (show(eF i&&nN #v[a])=W from lt2);let#[la,_]:=band' (show(eF a&&nN .nil)=W from l2);let#[j,e1,h]:=HM h;let#[d,e2,h]:=HM h;let#[j,ej,h]:=yZ h;have ej:=mH ej;subst ej;let#[xs,q,h]:=Dj h;let#[c,h]:=FP h;let#[c1,c2]:=band' c;have c1:=ay c1;let#[a0,us,fs,s1,s2,s3,s4,s5]:=I.lst q;refine slot_of s1 (lW #[a0,rfl,.inr #[rfl,us,.inl s2]] (show wE K Y Ex.E i U H _ from ?_));refine runD' hΓ I li e1 λv F1 H1 I1 _ V1=>?_;let#[f0,V1]:=V1 rfl;let#[rfl,_]:=V1.r;refine runD' hΓ I1 la e2 λv F2 H2 I2 _ V2=>?_;let#[f,V2]:=V2 c2;let#[a1,us1,je,t1,t2,t3,t4,t5]:=I2.lst q;rw[s1]at t1;cases t1;refine#[a0,us1,j,v,rfl,rfl,t2,by rw[t4.len];exact c1,?_];let#[g1,g2,eg,w1,w2]:=aX.split j.toNat t4;subst eg;have nd1:(g1++(f++g2)).Nodup:=by
      have n:=I2.nd k;rw[t5]at n;have n:=(cL.mp n).2;let#[n1,n2,n3]:=cE.mp n;have nf:∀b∈f,b∉g1/\b∉g2:=λb hb=>#[λz=>V2.dis k b hb (by rw[t5];exact az _<|cF _ z),λz=>V2.dis k b hb (by rw[t5];exact az _<|bw _ z)];refine cE.mpr #[n1,cE.mpr #[V2.nd,n2,λa ha b hb z=>(nf a ha).2 (by rw[z];exact hb)],λa ha b hb z=>?_];rcases bC.mp hb with hb|hb
      .exact(nf b hb).1 (by rw[<-z];exact ha)
      .exact n3 a ha b hb z
     let#[fp',I']:=I2.BX (xs:=xs) (xs':=xs.take j.toNat++d::xs.drop j.toNat) (vs:=us1) (vs':=us1.take j.toNat++v::us1.drop j.toNat) (fs:=g1++g2) (fs':=g1++(f++g2)) V2 s1 t5 (by
       rw[aW,fC,eY,eV,t4.len];omega)
      (λh1 h2=>aX.app (aX.mono (bh.refl _) _ _ _ (λb hb=>h1 b<|cF _ hb) w1) #[v,_,f,g2,rfl,rfl,dj.mono (bh.refl _) _ _ _ h2 V2.r,aX.mono (bh.refl _) _ _ _ (λb hb=>h1 b<|bw _ hb) w2]) nd1 (λb hb=>by
       rcases bC.mp hb with hb|hb
       .exact .inl (cF _ hb)
       .rcases bC.mp hb with hb|hb
        .exact .inr hb
        .exact .inl (bw _ hb))
     exact h U F2 _ fp' I'
   |_=>exact gen h
  |_=>exact gen h
 |_=>exact gen h
set_option tactic.hygienic false
mutual
theorem dj.flat:∀(d:D) (v:V) (f:L Addr),mq d=W->dj K H F d v f->f=[]/\dj K H' F d v []
|.g,v,f,_,h=>#[h.2,h.1,rfl]
|.e b,v,f,_,h=>#[h.2,h.1,rfl]
|.a i,v,f,_,h=>#[h.2,h.1,rfl]
|.c x,v,f,_,h=>#[h.2,h.1,rfl]
|.b _ _,v,f,e,h=>by cases e
|.f _ _ _,v,f,e,h=>by cases e
|.j,v,f,e,h=>by cases e
|.h _ _ _,v,f,e,h=>by cases e
|.i _ _ _,v,f,e,h=>by cases e
|.d ds,v,f,e,h=>by
 let#[a,vs,h1,h2,h3,h4]:=h;let#[e1,e2]:=aX.flat ds vs f e h4;exact#[e1,a,vs,h1,h2,h3,e2]
theorem aX.flat:∀(ds:L D) (vs:L V) (f:L Addr),oH ds=W->aX K H F ds vs f->f=[]/\aX K H' F ds vs []
|[],vs,f,_,h=>#[h.2,h.1,rfl]
|d::ds,vs,f,e,h=>by
 let#[e1,e2]:=band' (show(mq d&&oH ds)=W from e);let#[v,r,f1,f2,h1,rfl,h3,h4]:=h;let#[rfl,q1]:=dj.flat d v f1 e1 h3;let#[rfl,q2]:=aX.flat ds r f2 e2 h4;exact#[rfl,v,r,[],[],h1,rfl,q1,q2]
end
theorem aX.nM{κ:Type}[dz κ]{kk:κ}(hd:dj K H F d v []):∀{ds:L D}{kvs:L<|κ×V}{fs:L Addr},aX K H F ds (kvs.map (·.2)) fs->∃fs',aX K H F (L3.nM (kvs.map (·.1)) ds kk d) ((kvs.map λkv=>if kv.1=kk then(kv.1,v)else kv).map (·.2)) fs'/\fs'.Sublist fs
|[],[],_,h=>#[[],#[rfl,rfl],by rw[h.2];exact DM _]
|[],_::_,_,h=>by cases h.1
|_::_,[],_,h=>by
 let#[_,_,_,_,z,_]:=h;cases z
|e::ds,(k,w)::kvs,_,h=>by
 let#[u,r,f1,f2,z,rfl,h3,h4]:=h;simp only[bB]at z;injection z with z1 z2;subst z1 z2;let#[fs',q1,q2]:=aX.nM hd h4;have z1:L3.nM (((k,w)::kvs).map (·.1)) (e::ds) kk d=(if k=kk then d else e)::L3.nM (kvs.map (·.1)) ds kk d:=rfl;have z2:(((k,w)::kvs).map λkv=>if kv.1=kk then(kv.1,v)else kv).map (·.2)=(if k=kk then(k,v)else(k,w)).2::(kvs.map λkv=>if kv.1=kk then(kv.1,v)else kv).map (·.2):=rfl;rw[z1,z2];by_cases hk:k=kk
 .rw[aQ hk,aQ hk];exact#[fs',#[v,_,[],fs',rfl,rfl,hd,q1],q2.trans<|List.sublist_append_right f1 f2]
 .rw[aE hk,aE hk];exact#[f1++fs',#[w,_,f1,fs',rfl,rfl,h3,q1],Sq (DM _) q2]
theorem Ju:∀{ds:L D}{k:L Key},xE ds=M k->b9 ds=W
|[],_,_=>rfl
|d::ds,k,h=>by
 unfold xE at h;cases hd:v7 d with
 |none=>simp_all
 |some q=>
  rw[hd]at h;cases hr:xE ds with
  |none=>simp_all
  |some r=>
   show(aV d&&b9 ds)=W;rw[Ju hr,qJ];cases d<;>first|rfl|(cases hd)
def Xn(h:lX j=M k):aV j=W:=by
 cases j<;>first|(cases h)|exact Ju h
def Pu{κ:Type}[dz κ](mk:L κ->L D->D){ks:L κ}{xs:L D}{kk:κ}{d x':D}{v:V}{kvs:L<|κ×V}{fs f:L Addr}(hk:kvs.map (·.1)=ks)(r:aX K H F xs (kvs.map (·.2)) fs)(V:dj K H F d v f)(nd:(fs++f).Nodup)(e:(if zl ks<ao then(if ji ks kk=W then(if mq d=W then M (mk ks<|nM ks xs kk d)else B)else M (mk (ks++[kk])<|xs++[d]))else B)=M x'):∃ks' xs' fs',x'=mk ks' xs'/\zl kvs<ao/\(putK kvs kk v).map (·.1)=ks'/\(ks'=ks\/ks'=ks++[kk])/\zl (putK kvs kk v)<=ao/\fs'.Nodup/\(∀b∈fs',b∈fs\/b∈f)/\∀{H':Hp},(∀b∈fs,H' b=H b)->(∀b∈f,H' b=H b)->aX K H' F xs' ((putK kvs kk v).map (·.2)) fs':=by
 have hany:(kvs.any λkv=>decide<|kv.1=kk)=ji ks kk:=by
  rw[<-hk];unfold ji;rw[w5];rfl
 have hl:zl kvs=zl ks:=by rw[<-hk,ai]
 by_cases c0:zl ks<ao
 case neg=>rw[aE c0]at e;cases e
 rw[aQ c0]at e;by_cases hh:ji ks kk=W
 .rw[aQ hh]at e;by_cases hf:mq d=W
  case neg=>rw[aE hf]at e;cases e
  rw[aQ hf]at e;cases e;have e5:putK kvs kk v=kvs.map (λkv=>if kv.1=kk then(kv.1,v)else kv):=by
   unfold putK;rw[hany,aQ hh]
  rw[e5];let#[ef,hd]:=dj.flat (H':=H) d v f hf V;let#[fs',w1,w2]:=aX.nM (kk:=kk) hd r;rw[hk]at w1;refine#[ks,_,fs',rfl,by omega,?_,.inl rfl,by rw[ai];omega,w2.nodup (cE.mp nd).1,λb hb=>.inl<|w2.subset hb,λh1 _=>aX.mono (bh.refl _) _ _ _ (λb hb=>h1 b<|w2.subset hb) w1];rw[bV,<-hk];apply kZ;intro kv _;show(if kv.1=kk then(kv.1,v)else kv).1=kv.1;split<;>rfl
 .rw[aE hh]at e;cases e;have e5:putK kvs kk v=kvs++[(kk,v)]:=by
   unfold putK;rw[hany,aE hh]
  rw[e5];refine#[_,_,fs++f,rfl,by omega,by rw[be,hk];rfl,.inr rfl,by rw[aW];show zl kvs+1<=_;omega,nd,λb hb=>bC.mp hb,λh1 h2=>?_];rw[be];exact aX.app (aX.mono (bh.refl _) _ _ _ h1 r)<|aX.one<|dj.mono (bh.refl _) _ _ _ h2 V
def aeV[Ex](hΓ:d7 K Γp Y){g:CG}{e:CE}(I:bJ K F0 H0 O U F H fp)(lg:ltG g=W)(lt:eF e=W)(h:dO K F0 H0 (pA Γp g e O) X):wE K Y Ex.E e U H λx H1=>wG K Y Ex.E g x U H1 X.nx:=by
 cases g with
 |a i=>
  rcases qd (show dO K F0 H0 ((pE Γp e O).bG λd=>.a<|(jw (cz e) (aV d) O).set i<|M d) X from h)with⟨x,e1,hx⟩|⟨d,e1,h⟩
  .exact Ag hΓ I lt e1 hx
  exact BW hΓ I lt e1 λv F1 H1 fp1 f I1 V1=>h _ F1 H1 _<|I1.set V1 i
 |b gs=>
  rcases qd (show dO K F0 H0 ((pE Γp e O).bG λd=>(pG (.b gs) d<|jw (cz e) (aV d) O).bG .a) X from h)with⟨x,e1,hx⟩|⟨d,e1,h⟩
  .exact Ag hΓ I lt e1 hx
  let#[σ2,e2,h]:=MB h<|MC _ _ _;refine BW hΓ I lt e1 λv F1 H1 fp1 f I1 V1=>?_;exact aeR (.b gs) I1 V1 e2 fun σ' fp' I' _=>h σ' _ H1 fp' I'
 |c o i=>
  let#[_,li]:=band' (show(eF o&&eF i)=W from lg);cases o with
  |a k=>
   rcases qd (show dO K F0 H0 ((pE Γp e O).bG λd=>(pE Γp i<|jw (cz e) (aV d) O).pU J λj=>match O[k]? with
    |some (M x)=>if(aV d||!(cz e).contains k)=W then(R.opt<|putIn x d j).bG λx'=>.a ((jw (cz e) (aV d) O).set k<|M x')else .b
    |_=>.b) X from h)with⟨x,e1,hx⟩|⟨d,e1,h⟩
   .exact Ag hΓ I lt e1 hx
   let#[j,e2,h]:=HM h;cases q:O[k]? with
   |none=>simp only[q]at h;exact h.elim
   |some o=>
    cases o with
    |none=>simp only[q]at h;exact h.elim
    |some x=>
     simp only[q]at h;by_cases c:(aV d||!(cz e).contains k)=W
     .rw[aQ c]at h;let#[x',e3,h]:=MB h cg.opt;have e3:=jj e3;refine BW hΓ I lt e1 λv F1 H1 fp1 f I1 V1=>?_;have nd1:∀{F2 H2:Hp}{a0:Addr}{je:L Addr},bJ K F0 H0 (jw (cz e) (aV d) O) U F2 H2 fp1->kC K H0 F2 H2 fp1 d v f->fp1 k=a0::je->(je++f).Nodup:=λI2 V2 t5=>by
       have n:=I2.nd k;rw[t5]at n;refine cE.mpr #[(cL.mp n).2,V2.nd,λa ha b hb z=>?_];subst z;exact V2.dis k a hb (by rw[t5];exact az _ ha)
      have q1:(jw (cz e) (aV d) O)[k]?=M (M x):=by rw[HP c];exact q
      cases x with
      |b o xs=>
       cases o with
       |false=>cases e3
       |true=>
        cases j with
        |a j=>
         have e3:(nS (zl xs) j).map (λn=>D.b W<|xs.set n d)=M x':=e3;cases en:nS (zl xs) j with
         |none=>rw[en]at e3;cases e3
         |some n=>
          rw[en]at e3;cases e3;let#[a0,us,fs,s1,s2,s3,s4,s5]:=I1.lst q1;refine slot_of s1<|Xl hΓ I1 V1 li e2 λw F2 H2 I2 V2 rj=>?_;have rj:=rj rfl rfl;subst rj;let#[a1,us1,je,t1,t2,t3,t4,t5]:=I2.lst q1;rw[s1]at t1;cases t1;refine .inl #[a0,us1,j,n,rfl,t2,rfl,by rw[t4.len];exact en,?_];let#[fs',q1,q2,q3]:=aX.set n t4 V2.r<|nd1 I2 V2 t5;let#[fp',I']:=I2.BX (xs:=xs) (xs':=xs.set n d) (vs:=us1) (vs':=us1.set n v) (fs:=je) (fs':=fs') V2 s1 t5 (by rw[n5];exact t3)
           (λh1 h2=>aX.mono (bh.refl _) _ _ _ (λb hb=>by
            rcases q3 b hb with z|z
            .exact h1 b z
            .exact h2 b z) q1) q2 q3
          exact h U F2 _ fp' I'
        |_=>cases e3
      |f o ks xs=>
       cases o with
       |false=>cases e3
       |true=>
        have e3:Xk ks xs d j=M x':=e3;unfold Xk at e3;cases ek:v7 j with
        |none=>simp only[ek]at e3;cases e3
        |some kk=>
         simp only[ek]at e3;let#[a0,us,fs,s1,_]:=I1.T9 q1;refine slot_of s1<|Xl hΓ I1 V1 li e2 λw F2 H2 I2 V2 rj=>?_;have rj:=rj rfl (by cases j<;>first|rfl|(cases ek));have rk:=tB rj ek;have rl:keyOk kk=W:=by
          cases j<;>first|(cases ek;exact aA rj.2)|(cases ek;rfl)|(cases ek)
         subst rk;let#[a1,us1,je,t1,t2,t3,t4,t5,t6]:=I2.T9 q1;rw[s1]at t1;cases t1;let#[ks',xs',fs',rfl,p1,p2,p3,p4,p5,p6,p7]:=Pu (D.f W) t4.1 t5 V2.r (nd1 I2 V2 t6) e3;refine .inr<|.inl #[a0,us1,kk,rfl,t2,rfl,p1,?_];let#[fp',I']:=I2.aaa V2 s1 t6 p4 #[p2,by
          have z:=t4.2;rcases p3 with rfl|rfl
          .exact z
          .unfold keysOk at z ⊢;rw[xX,z];simp[rl]] p7 p5 p6
         exact h U F2 _ fp' I'
      |h o ks xs=>
       cases o with
       |false=>cases e3
       |true=>
        have e3:My ks xs d j=M x':=e3;unfold My at e3;cases ek:lX j with
        |none=>simp only[ek]at e3;cases e3
        |some kk=>
         simp only[ek]at e3;let#[a0,us,fs,s1,_]:=I1.dtk q1;refine slot_of s1<|Xl hΓ I1 V1 li e2 λw F2 H2 I2 V2 rj=>?_;have rj:=rj rfl<|Xn ek;let#[b0,rfl,hb0,rl]:=EE rj ek;let#[a1,us1,je,t1,t2,t3,t4,t5,t6]:=I2.dtk q1;rw[s1]at t1;cases t1;let#[ks',xs',fs',rfl,p1,p2,p3,p4,p5,p6,p7]:=Pu (D.h W) t4.1 t5 V2.r (nd1 I2 V2 t6) e3;refine .inr<|.inr #[a0,us1,kk,b0,rfl,t2,rfl,hb0,p1,?_];let#[fp',I']:=I2.agy V2 s1 t6 p4 #[p2,by
          have z:=t4.2;rcases p3 with rfl|rfl
          .exact z
          .unfold qX at z ⊢;rw[xX,z];simp[rl]] p7 p5 p6
         exact h U F2 _ fp' I'
      |_=>cases e3
     .rw[aE c]at h;exact h.elim
  |_=>cases h
theorem Jv:∀(ds:L D) (n:Nat),aH ds=ds->aH (lH n ds)=lH n ds
|[],_,_=>rfl
|d::r,n,h=>by
 have h':=h;injection h' with h1 h2;show D.d [.a (n:Int),bW d]::aH (lH (n+1) r)=_;rw[h1,Jv r (n+1) h2];rfl
def Xo(ds:L D):aH ds.reverse=(aH ds).reverse:=by
 induction ds with
 |nil=>rfl
 |cons d r ih=>rw[iH,qN,ih];show _=(bW d::aH r).reverse;rw[iH];rfl
def aeW(h:pI Γp src O=.c items):aH items.2=items.2:=by
 cases src with
 |a a=>
  let#[x,e1,e2]:=cu h;let#[ds,e3,e4]:=cu e2;cases e4;cases x with
  |b o xs=>cases e3;exact ju xs
  |d xs=>cases e3;exact ju xs
  |_=>cases e3
 |b as=>
  let#[x,e1,e2]:=cu h;let#[ds,e3,e4]:=cu e2;cases e4;rcases x with _|⟨v,_|⟨v2,r⟩⟩
  .cases e3
  .cases v<;>first|cases e3;done|skip
   let#[_,e5]:=oF e3;cases e5;exact f7 _ (λ_=>rfl) _
  .cases v<;>cases e3
 |c a=>
  let#[x,e1,e2]:=cu h;cases x with
  |b o xs=>cases e2;exact Jv _ 0<|ju xs
  |_=>cases e2
 |d a=>
  let#[x,e1,e2]:=cu h;cases x with
  |b o xs=>cases e2;rw[Xo,ju]
  |_=>cases e2
theorem Ra[Ex]{ok:Hp->Prop}(hok:∀H'',bh aaf H''->ok H'')(hb:∀{O:a_}{U:L2.St}{F H:Hp}{fp:Nat->L Addr}{X:Ends},bJ K aaf H0 O U F H fp->dO K aaf H0 (b_ Γp n b O) X->wSs K Y Ex.E b X U H):∀(ds:L D) (its:L Item) {O:a_}{U:L2.St}{F H:Hp}{fp:Nat->L Addr},bJ K aaf H0 O U F H fp->l5 K aaf ds its->dO K aaf H0 (forR (pG g) (b_ Γp n b) (aH ds) O) X->forL ok (wG K Y Ex.E g) (wSs K Y Ex.E b) X its U H
|[],its,O,U,F,H,fp,I,hi,h=>by
 cases hi;exact#[hok H<|I.g.f.trans I.g.s,h U F H fp I]
|d::ds,its,O,U,F,H,fp,I,hi,h=>by
 let#[it,r,rfl,i1,i2]:=hi;have hit:ItF K F d it:=by
  cases it with
  |v x=>exact bf.mono I.g.f d x i1
  |a xs=>let#[es,q1,q2,q3]:=i1;exact#[es,q1,aR.mono I.g.f es xs q2,q3]
 refine#[hok H<|I.g.f.trans I.g.s,Jk I.g.s hit λF1 H1 v g1 r1=>?_];let#[σ2,e1,h]:=MB (show dO K aaf H0 ((pG g (bW d) O).bG fun σ2=>match b_ Γp n b σ2 with
  |.a σ3=>forR (pG g) (b_ Γp n b) (aH ds) σ3
  |.e σ3=>forR (pG g) (b_ Γp n b) (aH ds) σ3
  |.f σ3=>.a σ3
  |.c d=>.c d
  |.d x=>.d x
  |.b=>.b) X from h)<|MC _ _ _
 refine ruG' g (I.grow g1) r1 e1 fun σ' fp' I'=>?_;refine hb I' ?_;cases q:b_ Γp n b σ2 with
 |a σ3=>simp only[q]at h;exact λU F H fp I3=>Ra hok hb ds r I3 i2 h
 |e σ3=>simp only[q]at h;exact λU F H fp I3=>Ra hok hb ds r I3 i2 h
 |f σ3=>simp only[q]at h;exact h
 |c d=>simp only[q]at h;exact h
 |d x=>simp only[q]at h;exact h
 |b=>simp only[q]at h;exact h.elim
end
mutual
theorem bf.FQ(e:EC F' F):∀(d:D) (v:V),mq d=W->bf K F' d v->bf K F d v
|.g,v,_,h=>h
|.e b,v,_,h=>h
|.a i,v,_,h=>h
|.c x,v,_,h=>h
|.b _ _,v,s,h=>by cases s
|.f _ _ _,v,s,h=>by cases s
|.i _ _ _,v,s,h=>by cases s
|.d ds,v,s,h=>by
 let#[a,vs,h1,h2,h3,h4]:=h;exact#[a,vs,h1,e.tup h2,h3,aR.FQ e ds vs s h4]
theorem aR.FQ(e:EC F' F):∀(ds:L D) (vs:L V),oH ds=W->aR K F' ds vs->aR K F ds vs
|[],vs,_,h=>h
|d::ds,vs,s,h=>by
 let#[s1,s2]:=band' (show(mq d&&oH ds)=W from s);let#[v,r,h1,h2,h3]:=h;exact#[v,r,h1,bf.FQ e d v s1 h2,aR.FQ e ds r s2 h3]
end
set_option tactic.hygienic true
def okTA'{K:ak}{Γp:L PG}{Y:L G}(hΓ:d7 K Γp Y){E':XK}{nx:L2.St->Hp->Prop}{F0 H0 F H:Hp}{O:a_}{U:L2.St}{fp:Nat->L Addr}{c x y:Nat}{as:jQ}{e:CE}(I:bJ K F0 H0 O U F H fp)(lt:nN as=W)(lt2:eF e=W)(h1:∀σ',Jo Γp c as x y e O=.c σ'->∀σv F1 H1 fp1,bJ K F0 H0 σ' σv F1 H1 fp1->nx σv H1)(h2:∀z,Jo Γp c as x y e O=.e z->∃C ks xs,z=.i C ks xs/\oH xs=W/\∀F1 H1 od vs,bJ K F0 H0 O U F1 H1 fp->Xd F1 od (ks.zip vs)->aR K F1 xs vs->E' (.ref C) od H1)(h3:Jo Γp c as x y e O=.d->bu):LV K Y c as x y e E' U H nx:=by
 unfold LV;unfold Jo at h1 h2 h3;cases q:Γp[c]? with
 |none=>rw[q]at h3;exact(h3 rfl).elim
 |some p=>
  let#[g',e1,e2]:=hΓ.get c q;rw[q]at h1 h2 h3;rw[e1];cases p<;>first|exact(h3 rfl).elim|skip
  cases g'<;>first|exact e2.elim|skip
  rename_i m dds sp dvs;dsimp only at h1 h2 h3 ⊢;refine@tE K Γp Y hΓ ⟨E0⟩ as O U (adopt F H<|ownAt fp<|jA as) H _ (I.env<|jA as) (i0 I.g.s) lt ?_;cases e3:ic Γp as O with
  |e x=>rw[e3]at h3;exact(h3 rfl).elim
  |d=>rw[e3]at h3;exact(h3 rfl).elim
  |c ds=>
   rw[e3]at h1 h2 h3;intro F1 H1 vs f g1 fr r;let#[F2,g2,_,rf]:=K0 g1 fr r;refine e2.1 _ _ _ _ #[F2,aH ds++dds,g2.s,by rw[qN,ju,e2.2.1],aR.app ((aR.aH ds vs).mpr rf)<|aR.mono (Jl F2) dds dvs e2.2.2,?_];simp only[R.ly,R.bind]at h1 h2 h3;cases em:m (aH ds++dds)with
   |d=>rw[em]at h3;exact(h3 rfl).elim
   |c d=>
    rw[em]at h1 h3;intro F3 H3 v f3 g3 fr3 r3;have gg:=g2.trans g3;let#[F4,fp4,I4,V4,_,_]:=I.told gg #[fr3.nd,λa ha=>bh.none g2.h<|fr3.nh a ha,fr3.nf] r3;show wE K Y E0 e (U.set x<|M v) H3 λu H4=>nx ((U.set x<|M v).set y<|M u) H4;have I5:=I4.set V4 x;cases e5:pE Γp e ((jw (jA as) (aV d) O).set x<|M d)with
    |e x=>simp only[e5]at h3;exact(h3 trivial).elim
    |d=>simp only[e5]at h3;exact(h3 trivial).elim
    |c u=>
     simp only[e5]at h1 h3;cases ho:aV u with
     |false=>rw[ho]at h3;exact(h3 rfl).elim
     |true=>
      rw[ho]at h1
      letI:Ex:=⟨E0⟩
      refine BW hΓ I5 lt2 e5 λw F6 H6 fp6 f6 I6 V6=>?_;rw[ho]at I6;exact h1 _ rfl _ _ _ _<|I6.set V6 y
   |e x=>
    rw[em]at h2;let#[C,ks,xs,rfl,hf,hx]:=h2 x rfl;intro F3 H3 od vs3 g3 hd hr;have gg:=g2.trans g3;refine hx _ H3 od vs3 (I.back gg) ?_<|aR.FQ (rN gg.s<|(I.lists _).mono gg.h) xs vs3 hf hr;cases od with
    |none=>exact hd
    |some d=>
     have hd:F3 d=M (Tc d<|ks.zip vs3):=hd;show _=M (Tc d<|ks.zip vs3);rw[jt,hd];intro z;let#[o,e,k]:=I.lists _ d z;have e':=gg.h _ _ e;rw[gg.s _ _ hd]at e';cases e';rcases k with⟨_,k⟩|⟨_,k⟩<;>cases k
def agC[Ex](hΓ:d7 K Γp Y){fp:Nat->L Addr}(I:bJ K F0 H0 O U F H fp)(lt:eF e=W)(h:dO K F0 H0 (pS Γp n (.g i e) O) X):wS K Y Ex.E (.g i e) X U H:=by
 have h:dO K F0 H0 (match O[i]? with
  |some (M<|.a a)=>(pE Γp e O).bG λd=>Ls i a O d
  |_=>.b) X:=h
 split at h
 .rename_i a q;let#[v,h1,h2]:=(I.env [i]).e i (aL.mpr rfl) (.a a) q;obtain rfl:v=.b a:=h2;refine#[.b a,h1,?_];rcases qd h with⟨x,e1,hx⟩|⟨d,e1,h⟩
  .exact Ag hΓ I lt e1 hx
  unfold Ls at h;split at h
  .rename_i b;refine runD' hΓ I lt e1 λw F1 H1 I1 _ V1=>?_;let#[f0,V1]:=V1 rfl;let#[rfl,_]:=V1.r;exact#[a,b,rfl,rfl,h _ F1 H1 _ (I1.set (kC.Q9 (d:=.a<|a+b) (show bf K F1 (.a<|a+b) (.b<|a+b)from rfl)) i)]
  .exact h.elim
 .exact h.elim
set_option tactic.hygienic false
def MD(n:H0 e=B)(h:upd H0 e o a=B):H0 a=B:=by
 by_cases z:a=e
 .rw[z];exact n
 .rw[bq z]at h;exact h
def bX.Rb(g:bX F1 (upd H0 e o) F H)(g0:bX F0 H0 F1 H1)(n:H0 e=B)(f:F1 e=M o):bX F0 H0 F H:=by
 refine#[λb u q=>g.h b u ?_,g0.f.trans g.f,g.s,λb u q q'=>?_]
 .rw[bq<|bZ q n];exact q
 .cases z:F1 b with
  |none=>
   have hb:b≠e:=λy=>by rw[y,f]at z;cases z
   have:=g.n b u q z;rw[bq hb]at this;exact this
  |some w=>exact g0.n b w z q'
def bJ.hd{fp:Nat->L Addr}(I:bJ K F0 H0 O U F H fp)(h:H e=M o)(f:F e=M o):bJ K F (upd H0 e o) O U F H fp:=by
 refine#[#[λb u q=>?_,bh.refl _,I.g.s,λb u q q'=>by rw[q]at q';cases q'],I.len,I.rep,I.ex,I.nd,I.nf,λi a ha=>?_,I.dis]
 .by_cases z:b=e
  .subst z;rw[c5]at q;cases q;exact h
  .rw[bq z]at q;exact I.g.h b u q
 .have z:a≠e:=λz=>by have:=I.nf i a ha;rw[z,f]at this;cases this
  rw[bq z];exact I.nh i a ha
def bJ.Rb{fp:Nat->L Addr}(I:bJ K F1 (upd H0 e o) O U F H fp)(g0:bX F0 H0 F1 H1)(n:H0 e=B)(f:F1 e=M o):bJ K F0 H0 O U F H fp:=
 #[I.g.Rb g0 n f,I.len,I.rep,I.ex,I.nd,I.nf,λi a ha=>MD n<|I.nh i a ha,I.dis]
mutual
theorem ruS(hΓ:d7 K Γp Y)[Ex]{n:Nat}:∀(c:CS) {F0 H0 F H:Hp}{O:a_}{U:L2.St}{fp:Nat->L Addr}{X:Ends},bJ K F0 H0 O U F H fp->ltS c=W->dO K F0 H0 (pS Γp n c O) X->wS K Y Ex.E c X U H
|.e e,F0,H0,F,H,O,U,fp,X,I,lt,h=>okX hΓ I lt h
|.c g e,F0,H0,F,H,O,U,fp,X,I,lt,h=>aeV hΓ I (band' lt).1 (band' lt).2 h
|.g i e,F0,H0,F,H,O,U,fp,X,I,lt,h=>agC hΓ I lt h
|.f i e,F0,H0,F,H,O,U,fp,X,I,lt,h=>by
 rcases qd (show dO K F0 H0 ((pE Γp e O).bG λd=>.a<|(jw (cz e) (aV d) O).set i<|M d) X from h)with⟨x,e1,hx⟩|⟨d,e1,h⟩
 .exact Ag hΓ I lt e1 hx
 exact BW hΓ I lt e1 λv F1 H1 fp1 f I1 V1=>h _ F1 H1 _<|I1.set V1 i
|.k g e,F0,H0,F,H,O,U,fp,X,I,lt,h=>aeV hΓ I (band' lt).1 (band' lt).2 h
|.a e,F0,H0,F,H,O,U,fp,X,I,lt,h=>agz hΓ I lt h
|.l k i j a b,F0,H0,F,H,O,U,fp,X,I,lt,h=>by
 let#[l2,l3]:=band' (show(lB a&&lB b)=W from lt);have h:dO K F0 H0 (match BV k O O[k]? O[i]? O[j]? with
  |some p=>if p.2=W then b_ Γp n a p.1 else b_ Γp n b p.1
  |none=>.b) X:=h
 cases q:BV k O O[k]? O[i]? O[j]? with
 |none=>rw[q]at h;exact h.elim
 |some p=>
  let#[σ2,c]:=p;rw[q]at h;show wT K Y Ex.E (LU k i j) U H λk H1=>if k=W then wSs K Y Ex.E a X U H1 else wSs K Y Ex.E b X U H1
  refine agB I q λH1 fp1 I1=>?_;cases c with
  |true=>exact Ah hΓ a I1 l2 h
  |false=>exact Ah hΓ b I1 l3 h
|.b c a b,F0,H0,F,H,O,U,fp,X,I,lt,h=>by
 let#[l1,l2]:=band' (show(eF c&&(lB a&&lB b))=W from lt);let#[l2,l3]:=band' l2;rcases qd (show dO K F0 H0 ((pT Γp c O).bG λk=>if k=W then b_ Γp n a O else b_ Γp n b O) X from h)with⟨x,e1,hx⟩|⟨k,e1,h⟩
 .exact Z_ hΓ I l1 e1 hx
 refine aeS hΓ I l1 e1 λF1 H1 I1=>?_;cases k with
 |true=>exact Ah hΓ a I1 l2 h
 |false=>exact Ah hΓ b I1 l3 h
|.i c b,F0,H0,F,H,O,U,fp,X,I,lt,h=>by
 let#[l1,l2]:=band' (show(eF c&&lB b)=W from lt);refine#[λm U H=>∃O F fp,bJ K F0 H0 O U F H fp/\dO K F0 H0 (v9 (pT Γp c) (b_ Γp n b) m O) X,#[n,O,F,fp,I,h],?_];rintro m U H ⟨O,F,fp,I,h⟩;cases m with
 |zero=>cases h
 |succ m=>
  rcases qd (show dO K F0 H0 ((pT Γp c O).bG λk=>if k=W then match b_ Γp n b O with
   |.a σ3=>v9 (pT Γp c) (b_ Γp n b) m σ3
   |.e σ3=>v9 (pT Γp c) (b_ Γp n b) m σ3
   |.f σ3=>.a σ3
   |.c d=>.c d
   |.d x=>.d x
   |.b=>.b
   else .a O) X from h)with⟨x,e1,hx⟩|⟨k,e1,h⟩
  .exact Z_ hΓ I l1 e1 hx
  refine aeS hΓ I l1 e1 λF1 H1 I1=>?_;cases k with
  |false=>
   rw[aE aN]at h;rw[aE aN];exact h U F1 H1 fp I1
  |true=>
   rw[aQ rfl]at h;rw[aQ rfl];refine#[λU H=>∃O F fp,bJ K F0 H0 O U F H fp/\dO K F0 H0 (v9 (pT Γp c) (b_ Γp n b) m O) X,fun σ' H' z=>#[m,ir m,z],?_];refine Ah (n:=n) hΓ b I1 l2 ?_;cases q:b_ Γp n b O with
   |a σ3=>simp only[q]at h;exact λU F H fp I3=>#[σ3,F,fp,I3,h]
   |e σ3=>simp only[q]at h;exact λU F H fp I3=>#[σ3,F,fp,I3,h]
   |f σ3=>simp only[q]at h;exact h
   |c d=>simp only[q]at h;exact h
   |d x=>simp only[q]at h;exact h
   |b=>simp only[q]at h;exact h.elim
|.d g src b,F0,H0,F,H,O,U,fp,X,I,lt,h=>by
 let#[l1,l2]:=band' (show(ltI src&&lB b)=W from lt);rcases qd (show dO K F0 H0 ((pI Γp src O).bG λitems=>forR (pG g) (b_ Γp n b) items.2<|jw (ua src) items.1 O) X from h)with⟨x,e1,hx⟩|⟨items,e1,h⟩
 .exact agx hΓ I l1 e1 hx
 refine ruI hΓ src (ownAt fp<|ua src) (I.env<|ua src) (i0 I.g.s) (I.lists _) l1 ?_;rw[e1];intro F' H' ok its g1 hok hi hl;obtain⟨fp',I'⟩:∃fp',bJ K F0 H0 (jw (ua src) items.1 O) U (vp items.1 F'<|ownAt fp<|ua src) H' fp':=by
  cases items.1 with
  |true=>exact#[fp,I.back g1]
  |false=>exact#[_,I.aeQ g1]
 have hf:aH items.2=items.2:=aeW e1;have h:=dO.rebase I'.g h;rw[<-hf]at h;exact Ra hok (λI3 h3=>Ah hΓ b I3 l2 h3) items.2 its I'.rebase hi h
|.n,F0,H0,F,H,O,U,fp,X,I,lt,h=>h U F H fp I
|.m,F0,H0,F,H,O,U,fp,X,I,lt,h=>h U F H fp I
|.h g,F0,H0,F,H,O,U,fp,X,I,lt,h=>by
 have h:dO K F0 H0 (match Γp[g]? with
  |some (.c C)=>.d<|.i C [] []
  |_=>.b) X:=h
 show(match Y[g]? with
  |some (.b C)=>Ex.E (.ref C) B H
  |_=>bu)
 cases q:Γp[g]? with
 |none=>rw[q]at h;exact h.elim
 |some p=>
  let#[g',e1,e2]:=hΓ.get g q;rw[q]at h;rw[e1];cases p<;>first|exact h.elim|skip
  cases g'<;>first|exact e2.elim|skip
  cases(show _=_ from e2);have h:mG K F0 H0 (.i _ [] []):=h;exact h F H B [] I.g rfl rfl
|.j i g xx c as yy e0 hd,F0,H0,F,H,O,U,fp,X,I,lt,h=>by
 let#[l1,l2]:=band' (show(nN as&&(eF e0&&lB hd))=W from lt);let#[l3,l2]:=band' l2;have h:dO K F0 H0 (match Γp[g]? with
  |some (.d Cs)=>match Jo Γp c as xx yy e0 O with
   |.c σ'=>.a σ'
   |.e (.i C ks xs)=>if(decide (C∈Cs)&&oH xs)=W then yX i (b_ (Γp.map PG.hand) n hd<|O.set i<|M<|.i C ks xs)else .b
   |_=>.b
  |_=>.b) X:=h
 show(match Y[g]? with
  |some (.i aaf _)=>LQ K i aaf (LV K Y c as xx yy e0) (λe=>wSs K (Y.map<|G.hand e) E0 hd) X U H
  |_=>bu)
 cases q:Γp[g]? with
 |none=>rw[q]at h;exact h.elim
 |some p=>
  let#[g',e1,e2]:=hΓ.get g q;rw[q]at h;rw[e1];cases p<;>first|exact h.elim|skip
  cases g'<;>first|exact e2.elim|skip
  rename_i Cs aaf _;let#[rfl,hmro]:=e2;dsimp only at h ⊢;unfold LQ;refine okTA' hΓ I l1 l3 (fun σ' e σv F1 H1 fp1 I1=>?_) (λx e=>?_) λe=>?_
  .rw[e]at h;exact h σv F1 H1 fp1 I1
  .rw[e]at h;cases x<;>first|exact h.elim|skip
   rename_i C ks xs;dsimp only at h;split at h
   .rename_i c;let#[c1,c2]:=band' c;refine#[C,ks,xs,rfl,c2,λF1 H1 od vs I1 hd' hr=>#[C,rfl,hmro C<|ay c1,λe he=>?_]];have g2:=BL (o:=vS J e C od) I1.g.s he;have I2:=I1.grow g2;have V2:kC K H0 (upd F1 e<|vS J e C od) (upd H1 e<|vS J e C od) fp (.i C ks xs) (.a e) []:=
     #[#[#[e,od,vs,rfl,c5,hd'.same g2.f,aR.mono g2.f xs vs hr],rfl],gz,λ_ z=>aC z aO,λ_ z=>aC z aO,λ_ _ z=>aC z aO]
    have n0:H0 e=B:=bh.none I1.g.h he;have g3:bX F0 H0 (upd F1 e<|vS J e C od) (upd H1 e<|vS J e C od):=I2.g;have un:∀{ajN:a_}{σ2:L2.St}{F2 H2:Hp}{fp2:Nat->L Addr},bJ K (upd F1 e<|vS J e C od) (upd H0 e<|vS J e C od) ajN σ2 F2 H2 fp2->bJ K F0 H0 ajN σ2 F2 H2 fp2:=λI3=>I3.Rb g3 n0 c5;refine@Ah K (Γp.map PG.hand) (Y.map<|G.hand e) hΓ.hand ⟨E0⟩ n hd _ _ _ _ _ _ _ _ ((I2.set V2 i).hd c5 c5) l2 ?_;cases q2:b_ (Γp.map PG.hand) n hd (O.set i<|M<|.i C ks xs)with
    |a σ2=>rw[q2]at h;exact λU F H fp I3=>h _ F H fp (un I3).drop
    |c d=>rw[q2]at h;exact λv F H f g fr r=>h v F H f (g.Rb g3 n0 c5) #[fr.nd,λa ha=>MD n0<|fr.nh a ha,fr.nf] r
    |f σ2=>rw[q2]at h;exact h.elim
    |e σ2=>rw[q2]at h;exact h.elim
    |d x=>rw[q2]at h;exact h.elim
    |b=>rw[q2]at h;exact h.elim
   .exact h.elim
  .rw[e]at h;exact h.elim
theorem Ah(hΓ:d7 K Γp Y)[Ex]{n:Nat}:∀(c:cI) {F0 H0 F H:Hp}{O:a_}{U:L2.St}{fp:Nat->L Addr}{X:Ends},bJ K F0 H0 O U F H fp->lB c=W->dO K F0 H0 (b_ Γp n c O) X->wSs K Y Ex.E c X U H
|.nil,F0,H0,F,H,O,U,fp,X,I,lt,h=>h U F H fp I
|.cons s r,F0,H0,F,H,O,U,fp,X,I,lt,h=>by
 let#[l1,l2]:=band' (show(ltS s&&lB r)=W from lt);have h:dO K F0 H0 (match pS Γp n s O with|.a σ'=>b_ Γp n r σ'|x=>x) X:=h;refine ruS (n:=n) hΓ s I l1 ?_;cases q:pS Γp n s O with
 |a σ'=>simp only[q]at h;exact λU F H fp I'=>Ah hΓ r I' l2 h
 |f σ'=>simp only[q]at h;exact h
 |e σ'=>simp only[q]at h;exact h
 |c d=>simp only[q]at h;exact h
 |d x=>simp only[q]at h;exact h
 |b=>simp only[q]at h;exact h.elim
end
def Pw[Ex]{K:ak}{Γp:L PG}{Y:L G}(hΓ:d7 K Γp Y){n:Nat}{N:L Str}{c:cI}(lt:lB c=W){m:L D->R D}{vs:L V}{H:Hp}{Q:VK}(hm:∀ds,m ds≠.d->zl ds<=zl N/\HK Γp n N c ds=m ds)(h:∃F ds,bh F H/\aH ds=ds/\aR K F ds vs/\PV K F H (m ds) Q):wSs K Y Ex.E c { nx:=λ_ H'=>Q .d H',rt:=Q } (vs.map M++bl (zl N-zl vs) B) H:=by
 let#[F,ds,s,hz,r,h]:=h;have hb:m ds≠.d:=λz=>by rw[z]at h;exact h
 let#[hl,hr]:=hm ds hb;rw[<-hr]at h;have I:bJ K F H (yY N ds) (vs.map M++bl (zl N-zl vs) B) F H (λ_=>[]):=by
  refine#[bX.refl s,?_,λi d' q=>?_,λ_ _ ha=>aC ha aO,λ_=>gz,λ_ _ ha=>aC ha aO,λ_ _ ha=>aC ha aO,λ_ _ _ ha=>aC ha aO]
  .unfold yY;simp[r.len]
  .unfold yY at q;by_cases hi:i<zl ds
   .rw[fc (by simpa using hi),bz]at q;cases z:ds[i]? with
    |none=>rw[z]at q;cases q
    |some d2=>
     rw[z]at q;cases q;let#[v,e1,e2]:=r.get i z;have hf:bW d'=d':=by
      have:∀(l:L D) (i:Nat) (x:D),aH l=l->l[i]?=M x->bW x=x:=by
       intro l;induction l with
       |nil=>intro i x _ h;simp at h
       |cons y l ih=>
        intro i x h1 h2;injection h1 with h3 h4;cases i with
        |zero=>simp at h2;subst h2;exact h3
        |succ i=>exact ih i x h4<|by simpa using h2
      exact this ds i d' hz z
     refine#[v,?_,?_]
     .rw[fc (by simp[r.len,hi]),bz,e1];rfl
     .have:=bf.AS (H:=H) d' v e2;rw[hf]at this;exact this
   .rw[eU<|by simpa using hi]at q;rw[xh]at q;split at q<;>cases q
 refine Ah (n:=n) hΓ c I lt ?_;unfold HK at h;cases q:b_ Γp n c (yY N ds)with
 |a U=>rw[q]at h;exact λU F' H' fp I'=>h F' H' .d [] I'.g .nil #[rfl,rfl]
 |c d'=>rw[q]at h;exact λv F' H' f g fr rx=>h F' H' v f g fr rx
 |d x=>rw[q]at h;exact h
 |f U=>rw[q]at h;exact h.elim
 |e U=>rw[q]at h;exact h.elim
 |b=>rw[q]at h;exact h.elim
def FT(K:ak)(mg:Str->aah Z)(x:Str)(st:Stmt)(ps:L Str):Prop:=
 ∃(f:Addr) (fd:eS),vO K x x st f fd/\mg x=M (.ref f)/\Binds K fd ps []
def FT.has{mg:Str->aah Z}(D:FT K mg x st ps)(hok:∀f fd,vO K x x st f fd->jG P w K mg base (nT P w) k f fd ps sp):Hw P w K mg base k x (.a sp []):=by
 let#[f,fd,F,hm,hb]:=D;exact#[f,fd,ps,[],hok f fd F,hm,F.kp,hb,.nil]
def f9(Γp:L PG)(n:Nat)(N:L Str)(k:Nat)(c:cI)(ds:L D):R D:=if zl ds=k then HK Γp n N c ds else .d
section
variable{P:br}{w:bE}{K:ak}{mg:Str->aah Z}{base:Heap}
def agD(c:cI)(F:vO K x qual st f fd)(S:o8 N ps<|cQ st)(hc:mX #[N,cQ st,gl,bn,(λ_=>W),W,J] c (jr st)=W)(hg:Ab P w K mg base k gl Y)(hΓ:d7 K Γp Y)(lt:lB c=W)(hb:∀x∈bn,mg x=B)(hN:zl ps<=zl N):jG P w K mg base (nT P w) (k+1) f fd ps (cZ K<|f9 Γp n N (zl ps) c):=by
 have hm:∀ds,f9 Γp n N (zl ps) c ds≠.d->zl ds=zl ps/\HK Γp n N c ds=f9 Γp n N (zl ps) c ds:=by
  intro ds h;unfold f9 at h ⊢;by_cases e:zl ds=zl ps
  .rw[aQ e];exact#[e,rfl]
  .rw[aE e]at h;exact aC rfl h
 refine aex c F S hc hg hb ?_ ?_
 .rintro vs H Q E ⟨Fh,ds,s,hz,r,h⟩;rw[r.len];exact(hm ds λz=>by rw[z]at h;exact h).1
 .intro vs H Q E h;exact@Pw ⟨E⟩ K Γp Y hΓ n N c lt _ vs H Q (λds e=>#[by rw[(hm ds e).1];exact hN,(hm ds e).2]) h
def aeX{x qual:Str}{st:Stmt}{f:Addr}{fd:eS}{N ps gl bn:L Str}{k n:Nat}{Γp:L PG}{Y:L G}(c:cI)(F:vO K x qual st f fd)(S:o8 N ps<|cQ st)(hc:mX #[N,cQ st,gl,bn,(λ_=>W),J,J] c (jr st)=W)(hg:Ab P w K mg base k gl Y)(hΓ:d7 K Γp Y)(lt:lB c=W)(hb:∀x∈bn,mg x=B)(hN:zl ps<=zl N):tQ P w K mg base (k+1) f fd ps (cZ K<|f9 (Γp.map PG.alone) n N (zl ps) c):=by
 have hm:∀ds,f9 (Γp.map PG.alone) n N (zl ps) c ds≠.d->zl ds=zl ps/\HK (Γp.map PG.alone) n N c ds=f9 (Γp.map PG.alone) n N (zl ps) c ds:=by
  intro ds h;unfold f9 at h ⊢;by_cases e:zl ds=zl ps
  .rw[aQ e];exact#[e,rfl]
  .rw[aE e]at h;exact aC rfl h
 refine abC c F S hc hg hb ?_ ?_
 .rintro vs H Q ⟨Fh,ds,s,hz,r,h⟩;rw[r.len];exact(hm ds λz=>by rw[z]at h;exact h).1
 .intro vs H Q h;exact@Pw ⟨E0⟩ K (Γp.map PG.alone) (Y.map G.alone) hΓ.alone n N c lt _ vs H Q (λds e=>#[by rw[(hm ds e).1];exact hN,(hm ds e).2]) h
end
noncomputable def Xp:Z->Bool
|.type n=>n=="list"
|_=>J
def agE(nk:(K.all λp=>!Xp p.2.cls)=W)(h:jg K H a xs):Rd H a (.a xs):=by
 rcases h with h|⟨o,its,n,hk,hc,_⟩
 .exact h
 .exfalso;have hm:∀(K:ak),K.lookup a=M o->(a,o)∈K:=by
   intro K;induction K with
   |nil=>intro z;cases z
   |cons p r ih=>
    intro z;let#[b,u]:=p;rw[eW]at z;split at z
    .rename_i e;have e:=eq_of_beq e;cases z;subst e;exact aD
    .exact az _ (ih z)
  have q:=bN.mp nk _<|hm K hk;rw[hc]at q;exact aC q<|by decide
noncomputable def bA(ns:L Int):D:=.b J<|ns.map D.a
theorem Jw:∀ns:L Int,aR K H (ns.map D.a)<|ns.map V.b
|[]=>rfl
|n::r=>#[_,_,rfl,rfl,Jw r]
theorem Jx:∀ns:L Int,aH (ns.map D.a)=ns.map D.a
|[]=>rfl
|n::r=>by show D.a n::aH (r.map D.a)=_;rw[Jx r];rfl
def aeY{mg:Str->aah Z}{m:L D->R D}(F:jG P w K mg base (nT P w) k f fd ps<|cZ K m)(h:∀ns:L Int,zl ns<=63->m [bA ns]=.c (.e W)):jG P w K mg base IM k f fd ps (λvs H Q E=>∃(a:Addr) (ns:L Int),vs=[.a a]/\Rd H a (.a<|ns.map V.b)/\zl ns<=63/\∀H',Q (.c W) H'):=by
 refine(L3.jG.calm F).imp ?_;rintro vs H Q E ⟨a,ns,rfl,hS,hl,q⟩;have hs:=szl;refine#[H,[bA ns],bh.refl H,?_,#[_,_,rfl,#[a,ns.map V.b,rfl,hS,by rw[ai];lia,Jw ns],rfl],?_]
 .show[D.b J<|aH<|ns.map D.a]=_;rw[Jx];rfl
 .rw[h ns hl];intro F' H' v fp g fr r;let#[rfl,_]:=r;exact q H'
theorem Ul{α β:Type}{a:α}{f:α->R β}:(R.c a).bind f=f a:=rfl
theorem pq_thn_ok'{α:Type}{a:α}{f:α->Fl}:(R.c a).bG f=f a:=rfl
theorem Um{α β:Type}{x:D}{f:α->R β}:(R.e x:R α).bind f=R.e x:=rfl
theorem Uo{α:Type}{x:D}{f:α->Fl}:(R.e x:R α).bG f=Fl.d x:=rfl
theorem pq_thnL_ok'{α:Type}{b:Bool}{a:α}{f:α->Fl}:(R.c a).pU b f=f a:=rfl
theorem Uq{α:Type}{a:α}:(R.c a).ly=R.c a:=rfl
theorem abL:rO (M<|M<|.b W xs)=W:=rfl
theorem N5{α:Type}{a:α}:R.opt (M a)=R.c a:=rfl
theorem Xq{α:Type}{r:R α}:R.bP W r=r:=rfl
def Ur{α:Type}{r:R α}(h:n<=ao):R.bP (decide<|n<=ao) r=r:=by
 rw[aA h];rfl
theorem Xr:mY .Add (.a i) (.a j)=.c (.a<|i+j):=rfl
theorem Xs:mY .Sub (.a i) (.a j)=.c (.a<|i-j):=rfl
def Xu(h:sV i j):mY .Mult (.a i) (.a j)=.c (.a<|i*j):=by
 show R.bP (decide<|sV i j) _=_;rw[aA h];rfl
def Xv(h:uG i j):mY .FloorDiv (.a i) (.a j)=.c (.a<|i / j):=by
 show R.bP (decide<|uG i j) _=_;rw[aA h];rfl
def Xw(h:0<j):mY .Mod (.a i) (.a j)=.c (.a<|i%j):=by
 show R.bP (decide<|0<j) _=_;rw[aA h];rfl
def EH(h:sU i j):mY .Pow (.a i) (.a j)=.c (.a<|i ^ j.toNat):=by
 show R.bP (decide<|sU i j) _=_;rw[aA h];rfl
def Xx(h:x.length+y.length<=ao):mY .Add (.c x) (.c y)=.c (.c<|x++y):=by
 show R.bP (decide<|x.length+y.length<=ao) _=_;rw[aA h];rfl
def Xy(h:0<=j/\j<2 ^ 40/\x.length*j.toNat<=ao):mY .Mult (.c x) (.a j)=.c (.c<|yW x j.toNat):=by
 show R.bP (decide<|0<=j/\j<2 ^ 40/\x.length*j.toNat<=ao) _=_;rw[aA h];rfl
def BZ(h:zl xs+zl ys<=ao):mY .Add (.b o xs) (.b o' ys)=.c (.b W<|aH xs++aH ys):=by
 show R.bP (decide<|zl xs+zl ys<=ao) _=_;rw[aA h];rfl
theorem abM:gY .Lt (.a i) (.a j)=.c (.e<|decide<|i<j):=rfl
theorem Xz{i j:Int}:gY .LtE (.a i) (.a j)=.c (.e<|decide<|i<=j):=rfl
theorem abN:gY .Gt (.a i) (.a j)=.c (.e<|decide<|j<i):=rfl
theorem Us:gY .Eq (.a i) (.a j)=.c (.e<|i==j):=rfl
theorem Ut:gY .NotEq (.a i) (.a j)=.c (.e<|!(i==j)):=rfl
theorem Uu:gY .Eq (.c x) (.c y)=.c (.e<|x==y):=rfl
theorem Uv:gY .NotEq (.c x) (.c y)=.c (.e<|!(x==y)):=rfl
theorem abO:gY .Is x .g=.c (.e<|d_ x):=rfl
theorem Rc:gY .IsNot x .g=.c (.e<|!d_ x):=rfl
def EI(h:gP x=W)(h':mF ys=W):gY .In x (.b o ys)=.c (.e<|memD x ys):=by
 show R.bind (R.bP (gP x&&mF ys) _) _=_;rw[h,h'];rfl
theorem abP:kB (.e b)=.c b:=rfl
theorem XA:t_ (.c z) (.a i)=(R.opt<|fq z.cps.toList i).bind λc=>.c (.c ⟨#[c]⟩):=rfl
theorem XC:t_ (.b o xs) (.a i)=(R.opt<|fq xs i).bind λd=>.c (bW d):=rfl
theorem XD:t_ (.d xs) (.a i)=(R.opt<|fq xs i).bind λd=>.c (bW d):=rfl
theorem XE:Mm (.c z) lo hi=.c (.c ⟨(cut z.cps.toList lo hi).toArray⟩):=rfl
theorem XF:Mm (.b o xs) lo hi=.c (.b W<|aH<|cut xs lo hi):=rfl
theorem Uw:jR .a [.c z]=.c (.a z.length):=rfl
theorem Ux:jR .a [.b o xs]=.c (.a<|zl xs):=rfl
theorem Uy:jR .a [.d xs]=.c (.a<|zl xs):=rfl
theorem XG:jR .g [.b o xs]=R.bP (xs.all qB) (.c<|.e<|xs.all tU):=rfl
theorem XH:jR .j [.b o xs]=R.bP (xs.all qB) (.c<|.e<|xs.any tU):=rfl
theorem Uz:jR .i [.e b]=.c (.a (if b then 1 else 0)):=rfl
theorem UA:jR .c [.b o xs]=.c (.b W<|aH xs):=rfl
theorem Rf:jR .h [.b o xs]=.c (.d<|aH xs):=rfl
theorem XI:yh (.b o xs)=.c (aH xs):=rfl
theorem XJ:yh (.d xs)=.c (aH xs):=rfl
def aeZ(h:-(2 ^ 62)<=j/\j.toNat<=ao):BK [.a j]=.c (gj 0 j.toNat):=by
 show R.bP (decide<|-(2 ^ 62)<=j/\j.toNat<=ao) _=_;rw[aA h];rfl
theorem XM:BJ .d=.c .g:=rfl
theorem abQ:BJ (.c b)=.c (.e b):=rfl
theorem XN:BJ (.b i)=.c (.a i):=rfl
theorem XO:BJ (.e x)=.c (.c x):=rfl
theorem XQ:bW .g=.g:=rfl
theorem abR:bW (.e b)=.e b:=rfl
theorem XR:bW (.a i)=.a i:=rfl
theorem XS:bW (.c x)=.c x:=rfl
theorem XT:bW (.b o xs)=.b J (aH xs):=rfl
theorem XU:bW (.d xs)=.d (aH xs):=rfl
theorem UB:aH []=[]:=rfl
theorem Rg:aH (d::r)=bW d::aH r:=rfl
theorem XW:aV .g=W:=rfl
theorem abS:aV (.e b)=W:=rfl
theorem XX:aV (.a i)=W:=rfl
theorem XY:aV (.c x)=W:=rfl
theorem XZ:aV (.b o xs)=(o&&b9 xs):=rfl
theorem X3:aV (.d xs)=b9 xs:=rfl
theorem UC:b9 []=W:=rfl
theorem Rh:b9 (d::r)=(aV d&&b9 r):=rfl
theorem ae0:jw is W U=U:=rfl
theorem ae1:jw is J U=qC is U:=rfl
theorem UD:qC [] U=U:=rfl
theorem Ri:qC (i::is) U=qC is (qO i U):=rfl
theorem abT:qO 0 (o::r)=o.map bW::r:=rfl
theorem abU:qO (n+1) (o::r)=o::qO n r:=rfl
theorem abV{x:D}:uO (.d x)=.e x:=rfl
theorem abW:uO (.a U)=.c .g:=rfl
theorem abX:uO (.c d)=.c d:=rfl
theorem UE:BI t (.d xs)=(decide (t=.a)||decide (t=.none)):=rfl
def K1(U:a_)(i:Nat):R D:=match U[i]? with
|some (M d)=>.c<|bW d
|_=>.d
def K4(U:a_)(i:Nat):R Bool:=match U[i]? with
|some (M d)=>kB d
|_=>.d
noncomputable def Dk(U:a_)(i:Nat):R D:=match U[i]? with
|some (M d)=>.c d
|_=>.d
noncomputable def yk(x:Fl)(f:a_->Fl):Fl:=match x with
|.a U=>f U
|x=>x
def B0(Y:L PG)(g:Nat)(r:R<|L D):R D:=match Y[g]? with
|some (.a m dds)=>r.bind λds=>m<|aH ds++dds
|_=>.d
noncomputable def Rj{α:Type}(c:R Bool)(a b:R α):R α:=c.bind λk=>if k=W then a else b
noncomputable def ifF(c:R Bool)(a b:Fl):Fl:=c.bG λk=>if k=W then a else b
noncomputable def ae2(x:D)(b:R D):R D:=match x with
|.e c=>if c=W then b else .c (.e J)
|_=>.d
noncomputable def ae3:D->R D
|.a i=>.c<|.a<|-i
|_=>.d
noncomputable def ae4:D->R (aah Int)
|.a i=>.c<|M i
|_=>.d
noncomputable def chD(z:D)(r:R D):R D:=match z with
|.e k=>if k=W then r else .c (.e J)
|_=>.d
noncomputable def chT(z:D)(r:R Bool):R Bool:=match z with
|.e k=>if k=W then r else .c J
|_=>.d
noncomputable def blD:D->R Bool
|.e k=>.c k
|_=>.d
def enD:D->R (Bool×L D)
|.b o xs=>.c (aV<|.b o xs,lH 0<|aH xs)
|_=>.d
def reD:D->R (Bool×L D)
|.b o xs=>.c (aV<|.b o xs,(aH xs).reverse)
|_=>.d
def X4(k:Nat)(vs:L Nat)(U:a_)(d:D):Fl:=oG (k9 v_ U[k]?) λxs=>if(decide (zl xs<ao)&&(aV d||!vs.contains k))=W then .a ((jw vs (aV d) U).set k<|M<|.b W<|xs++[d])else .b
def ae6(k:Nat)(U:a_)(j d:D):Fl:=oG (u7 j) λj=>oG (k9 v_ U[k]?) λxs=>if(decide (0<=j/\j<2 ^ 40/\zl xs<ao)&&aV d)=W then .a (U.set k<|M<|.b W (xs.take j.toNat++d::xs.drop j.toNat))else .b
def Lu(k:Nat)(vs:L Nat)(U:a_)(d j:D):Fl:=match U[k]? with
|some (M x)=>if(aV d||!vs.contains k)=W then(R.opt<|putIn x d j).bG λx'=>.a ((jw vs (aV d) U).set k<|M x')else .b
|_=>.b
def ME(Y:L PG)(n:Nat)(a b:cI)(x:aah<|a_×Bool):Fl:=match x with
|some p=>if p.2=W then b_ Y n a p.1 else b_ Y n b p.1
|none=>.b
noncomputable def Rk(Y:L PG)(g:Nat):Fl:=match Y[g]? with
|some (.c C)=>.d<|.i C [] []
|_=>.b
def taK(Y:L PG)(x y:Nat)(e:CE)(is:L Nat)(U:a_)(d:D):R a_:=(pE Y e<|(jw is (aV d) U).set x<|M d).ly.bind λu=>.bP (aV u)<|.c<|((jw is (aV d) U).set x<|M d).set y<|M u
def HQ(Y:L PG)(n i g:Nat)(h:cI)(U:a_)(r:R a_):Fl:=match Y[g]? with
|some (.d Cs)=>match r with
 |.c σ'=>.a σ'
 |.e (.i C ks xs)=>if(decide (C∈Cs)&&oH xs)=W then yX i (b_ (Y.map PG.hand) n h<|U.set i<|M<|.i C ks xs)else .b
 |_=>.b
|_=>.b
theorem X5:K1 (M d::r) 0=.c (bW d):=rfl
theorem X6:K1 (o::r) (n+1)=K1 r n:=rfl
theorem UG:K4 (M d::r) 0=kB d:=rfl
theorem UH:K4 (o::r) (n+1)=K4 r n:=rfl
theorem UI:Dk (M d::r) 0=.c d:=rfl
theorem UJ:Dk (o::r) (n+1)=Dk r n:=rfl
theorem UK{f:a_->Fl}:yk (.a U) f=f U:=rfl
theorem UL{f:a_->Fl}:yk (.c d) f=.c d:=rfl
theorem UM{x:D}{f:a_->Fl}:yk (.d x) f=.d x:=rfl
theorem UN{f:a_->Fl}:yk (.e U) f=.e U:=rfl
theorem abY{m:L D->R D}:B0 (.a m dds::r) 0 x=x.bind λds=>m (aH ds++dds):=rfl
theorem abZ:B0 (o::r) (n+1) x=B0 r n x:=rfl
theorem UO{α:Type}{a b:R α}:Rj (.c k) a b=if k=W then a else b:=rfl
theorem X7:ifF (.c k) a b=if k=W then a else b:=rfl
theorem UP:ae2 (.e c) b=if c=W then b else .c (.e J):=rfl
theorem X8:ae3 (.a i)=.c (.a<|-i):=rfl
theorem X_:ae4 (.a i)=.c (M i):=rfl
theorem Yb:chD (.e k) r=if k=W then r else .c (.e J):=rfl
theorem UQ:chT (.e k) r=if k=W then r else .c J:=rfl
theorem Yc:blD (.e k)=.c k:=rfl
theorem ab0:enD (.b o xs)=.c (aV<|.b o xs,lH 0<|aH xs):=rfl
theorem ab1:reD (.b o xs)=.c (aV<|.b o xs,(aH xs).reverse):=rfl
theorem Yd:pE Y (.a i) U=K1 U i:=rfl
theorem Ye:pE Y (.e v) U=BJ v:=rfl
theorem Yg:pE Y (.g op a b) U=(pE Y a U).bind λx=>(pE Y b U).bind λy=>mY op x y:=rfl
def Dl{ss:L Int}(h:kY ds=M ss)(h2:zl ss<4000):Ad (.b o ds)=.c (.a<|zl<|kX ss):=by
 show(match kY ds with|some ss=>R.bP (decide<|zl ss<4000) (R.c<|D.a<|zl<|kX ss)|none=>.d)=_;rw[h];show R.bP (decide _) _=_;rw[aA h2];rfl
theorem UR{Y:L PG}{U:a_}{a:CE}:pE Y (.y a) U=(pE Y a U).bind Ad:=rfl
theorem Yh:pE Y (.m a) U=(pE Y a U).bind ae3:=by rfl
theorem Yi:pE Y (.l a b) U=(pE Y a U).bind λx=>ae2 x (pE Y b U):=rfl
theorem Yj:pE Y (.q c a b) U=Rj (pT Y c U) (pE Y a U) (pE Y b U):=rfl
theorem Yk:pE Y (.d op a b) U=(pE Y a U).bind λx=>(pE Y b U).bind λy=>gY op x y:=rfl
theorem Rl{Y:L PG}{U:a_}{o1 o2:AE}{a b c:CE}:pE Y (.t o1 o2 a b c) U=(pE Y a U).bind λx=>(pE Y b U).bind λy=>(gY o1 x y).bind λz=>chD z ((pE Y c U).bind λu=>gY o2 y u):=rfl
theorem US:pE Y (.c g as) U=B0 Y g (ic Y as U):=rfl
theorem Yl:pE Y (.h f as) U=(ic Y as U).bind (jR f):=rfl
theorem Ym:pE Y (.v a t) U=(pE Y a U).bind λx=>R.bP (v8 x) (.c<|.e<|BI t x):=rfl
theorem Yn:pE Y (.i m o as) U=(pE Y o U).bind λx=>(ic Y as U).ly.bind λds=>uM m x ds:=rfl
theorem ab2:pE Y (.b a b) U=(pE Y a U).bind λx=>(pE Y b U).bind λy=>t_ x y:=rfl
theorem ab3:pE Y (.r a lo hi) U=(pE Y a U).bind λx=>(pO Y lo U).bind λl=>(pO Y hi U).bind λh=>Mm x l h:=rfl
theorem Yo:pE Y (.k as) U=(ic Y as U).bind λds=>R.bP (decide<|zl ds<=ao) (.c<|.b W ds):=by
 rfl
theorem Yp:pE Y (.f as) U=(ic Y as U).bind λds=>R.bP (decide<|zl ds<=ao) (.c<|.d ds):=by
 rfl
theorem Yq:pE Y .ab U=.c (.f W [] []):=rfl
theorem UT{cond:CO}:pE Y (.j nl fr elt tg src cond) U=(pI Y src U).bind λitems=>(eB (pG tg) (pC Y cond) (pE Y elt) items.2<|nl.map (λ_=>B)++fr.map λi=>U.getD i B).ly.bind λds=>.c (.b W ds):=rfl
theorem Yr:pT Y (.p a) U=(pT Y a U).bind λb=>.c (!b):=rfl
theorem Ys:pT Y (.l a b) U=Rj (pT Y a U) (pT Y b U) (.c J):=rfl
theorem ab4:pT Y (.o a b) U=Rj (pT Y a U) (.c W) (pT Y b U):=rfl
theorem Yt:pT Y (.d op a b) U=(pE Y a U).bind λx=>(pE Y b U).bind λy=>(gY op x y).bind blD:=rfl
theorem Rm{Y:L PG}{U:a_}{o1 o2:AE}{a b c:CE}:pT Y (.t o1 o2 a b c) U=(pE Y a U).bind λx=>(pE Y b U).bind λy=>(gY o1 x y).bind λz=>chT z ((pE Y c U).bind λu=>(gY o2 y u).bind blD):=rfl
theorem Yu:pT Y (.a i) U=K4 U i:=rfl
def UU:pT Y (.c g as) U=(B0 Y g<|ic Y as U).bind kB:=by
 show(match Y[g]? with|some (.a m dds)=>((ic Y as U).bind λds=>m<|aH ds++dds).bind kB|_=>.d)=_;unfold B0;cases Y[g]? with
 |none=>rfl
 |some p=>cases p<;>rfl
theorem Yv:pT Y (.h f as) U=((ic Y as U).bind<|jR f).bind kB:=rfl
theorem UW:ic Y .nil U=.c []:=rfl
theorem Rn:ic Y (.cons a r) U=(pE Y a U).bind λx=>(ic Y r U).bind λxs=>.c (x::xs):=rfl
theorem UX:pO Y .none U=.c B:=rfl
theorem UY:pO Y (.some a) U=(pE Y a U).bind ae4:=rfl
theorem UZ:pC Y .none=λ_=>.c W:=rfl
theorem U0:pC Y (.some a)=pT Y a:=rfl
theorem U1:pG (.a i) d U=.c (U.set i<|M d):=rfl
theorem Yw:pG (.b gs) (.d ds) U=R.bP (decide<|zl ds=gs.len) (AU gs ds U):=rfl
theorem U3:AU .nil [] U=.c U:=rfl
theorem Ro:AU (.cons g r) (d::dr) U=(pG g d U).bind fun σ'=>AU r dr σ':=rfl
theorem Yx:pI Y (.a a) U=(pE Y a U).bind λx=>(yh x).bind λds=>.c (aV x,ds):=rfl
theorem Rp:pI Y (.b as) U=(ic Y as U).bind λxs=>(BK xs).bind λds=>.c (W,ds):=rfl
def U4:pI Y (.c a) U=(pE Y a U).bind enD:=by
 show(pE Y a U).bind _=_;congr 1;funext x;cases x<;>rfl
def Yy:pI Y (.d a) U=(pE Y a U).bind reD:=by
 show(pE Y a U).bind _=_;congr 1;funext x;cases x<;>rfl
theorem U5:b_ Y n .nil U=.a U:=rfl
theorem iA:b_ Y n (.cons s r) U=yk (pS Y n s U) (b_ Y n r):=by rfl
theorem Yz:pS Y n (.e<|.i .a (.a k) #v[a]) U=(pE Y a U).pU (rO U[k]?) (X4 k (cz a) U):=rfl
theorem YA:pS Y n (.e<|.i .f (.a k) #v[i,a]) U=(pE Y i U).pU J λj=>(pE Y a U).pU J λd=>ae6 k U j d:=rfl
theorem YB:pS Y n (.c (.a i) e) U=(pE Y e U).bG λd=>.a ((jw (cz e) (aV d) U).set i<|M d):=rfl
theorem YC:pS Y n (.c (.c (.a k) i) e) U=(pE Y e U).bG λd=>(pE Y i<|jw (cz e) (aV d) U).pU J λj=>Lu k (cz e) U d j:=rfl
theorem YD:pS Y n (.g i e) U=(match U[i]? with|some (M<|.a a)=>(pE Y e U).bG λd=>Ls i a U d|_=>.b):=rfl
theorem U6:pS Y n (.f i e) U=(pE Y e U).bG λd=>.a ((jw (cz e) (aV d) U).set i<|M d):=rfl
theorem U7:pS Y n (.k (.b gs) e) U=(pE Y e U).bG λd=>(pG (.b gs) d<|jw (cz e) (aV d) U).bG .a:=rfl
theorem YE:pS Y n (.a e) U=(pM Y e U).bG .c:=rfl
theorem YF:pS Y n (.b c a b) U=ifF (pT Y c U) (b_ Y n a U) (b_ Y n b U):=rfl
theorem U8:pS Y n (.i c b) U=v9 (pT Y c) (b_ Y n b) n U:=rfl
theorem U9:pS Y n (.d g src b) U=(pI Y src U).bG λitems=>forR (pG g) (b_ Y n b) items.2 (jw (ua src) items.1 U):=rfl
theorem YG:aV (.f o ks xs)=(o&&b9 xs):=rfl
theorem YH:bW (.f o ks xs)=.f J ks (aH xs):=rfl
def MF:t_ (.f o ks xs) (tT k)=(R.opt<|ia ks xs k).bind λd=>.c (bW d):=by cases k<;>rfl
theorem YI{Y:L PG}{n:Nat}{U:a_}{g:Nat}{as:jQ}:pS Y n (.e<|.c g as) U=(pE Y (.c g as) U).bG λ_=>.a U:=rfl
theorem U_{Y:L PG}{n:Nat}{U:a_}{g:Nat}:pS Y n (.h g) U=Rk Y g:=rfl
theorem ab5{C:Addr}{r:L PG}:Rk (.c C::r) 0=.d (.i C [] []):=rfl
theorem ab6{o:PG}{r:L PG}{n:Nat}:Rk (o::r) (n+1)=Rk r n:=rfl
def YJ{Y:L PG}{n:Nat}{U:a_}{i g x c y:Nat}{as:jQ}{e:CE}{h:cI}:pS Y n (.j i g x c as y e h) U=HQ Y n i g h U ((B0 Y c (ic Y as U).ly).bind<|taK Y x y e (jA as) U):=by
 show HQ Y n i g h U (Jo Y c as x y e U)=_;refine qQ _ ?_;unfold Jo B0;cases Y[c]? with
 |none=>rfl
 |some p=>cases p<;>first|rfl|(cases(ic Y as U).ly<;>rfl)
def B6{Y:L PG}{n i g:Nat}{h:cI}{U σ2:a_}{Cs:L Addr}(e:Y[g]?=M (.d Cs)):HQ Y n i g h U (.c σ2)=.a σ2:=by
 unfold HQ;rw[e]
def Jy{Y:L PG}{n i g:Nat}{h:cI}{U:a_}{C:Addr}{ks:L Str}{xs:L D}{Cs:L Addr}(e:Y[g]?=M (.d Cs))(hC:C∈Cs)(hf:oH xs=W):HQ Y n i g h U (.e<|.i C ks xs)=yX i (b_ (Y.map PG.hand) n h<|U.set i<|M<|.i C ks xs):=by
 unfold HQ;rw[e];simp only[hC,hf,decide_true,KJ,ki]
theorem YK:yX i (.a U)=.a (U.set i B):=rfl
theorem YL{Y:L PG}{U:a_}{o:Bool}{gs:L Nat}{a:CE}:pT Y (.n o gs a) U=(pE Y a U).bind λx=>yi Y gs x:=rfl
theorem YM{Y:L PG}{U:a_}{g:Nat}{a:CE}:pT Y (.s g a) U=(pE Y a U).bind λx=>yj Y g x:=rfl
theorem YN:aV .j=J:=rfl
theorem YO{C:Addr}{ks:L Str}{xs:L D}:bW (.i C ks xs)=.i C ks (aH xs):=rfl
theorem Va:v8 (.d xs)=W:=rfl
theorem Vb:pS Y n .m U=.e U:=rfl
theorem YQ:pM Y (.a i) U=Dk U i:=rfl
theorem YR:pM Y (.e v) U=pE Y (.e v) U:=rfl
theorem YS:pM Y (.g op a b) U=pE Y (.g op a b) U:=rfl
theorem YT:pM Y (.l a b) U=pE Y (.l a b) U:=rfl
theorem YU:pM Y (.q c a b) U=pE Y (.q c a b) U:=rfl
theorem YV:pM Y (.d op a b) U=pE Y (.d op a b) U:=rfl
theorem ab7:pM Y (.b a b) U=pE Y (.b a b) U:=rfl
theorem Vc{cond:CO}:pM Y (.j nl fr elt tg src cond) U=pE Y (.j nl fr elt tg src cond) U:=rfl
theorem YW:pM Y (.f as) U=(nW Y as U).alt (λds=>R.bP (decide<|zl ds<=ao)<|.c<|.d ds) (pE Y (.f as) U):=by
 rfl
theorem Vd:nW Y .nil U=.c []:=rfl
def Ve:nW Y (.cons (.a i) r) U=(Dk U i).bind λd=>(nW Y r<|U.set i B).bind λds=>.c (d::ds):=by
 show(match U[i]? with|some (M d)=>(nW Y r<|U.set i B).bind λds=>.c (d::ds)|_=>.d)=_;unfold Dk;cases U[i]? with
 |none=>rfl
 |some o=>cases o<;>rfl
theorem Vf{α β:Type}{a:α}{f:α->R β}{y:R β}:(R.c a:R α).alt f y=f a:=rfl
theorem YX:pE Y .w U=.c (.h W [] []):=rfl
theorem YY:pE Y (.u a) U=(pE Y a U).bind λx=>Hz x:=rfl
theorem YZ{Y:L PG}{U:a_}{a:CE}:pE Y (.x a) U=(pE Y a U).bind λx=>HA x:=rfl
theorem Y0{Y:L PG}{U:a_}{a:CE}:pM Y (.x a) U=pE Y (.x a) U:=rfl
theorem Y3{Y:L PG}{U:a_}{a:CE}:pE Y (.aa a) U=(pE Y a U).bind λx=>HC x:=rfl
def MG(h:kY xs=M ns)(h2:k∈ns):uM .b (.b o xs) [.a k]=.c (.a<|ns.idxOf k):=by
 show(R.opt<|kY xs).bind _=_;rw[h];show R.bP (decide<|k∈ns) _=_;rw[aA h2];rfl
def Vg{o:Bool}{xs:L D}{kss:L<|L Key}(h:tV xs=M kss)(h2:(sortable kss&&decide (zl kss<=18))=W):HA (.b o xs)=.c .j:=by
 show(R.opt<|tV xs).bind _=_;rw[h];show R.bP (sortable kss&&decide (zl kss<=18)) _=_;rw[h2];rfl
def Vh{n:Int}(h:0<=n/\n.toNat<=2 ^ 24):HC (.a n)=.c (.b W<|(bg n.toNat).map λ(k:Nat)=>D.a (k:Int)):=by
 show R.bP (decide<|0<=n/\n.toNat<=2 ^ 24) _=_;rw[aA h];rfl
theorem Y4{Y:L PG}{n:Nat}{U:a_}{k j:Nat}:pS Y n (.e<|.i .e (.a k) #v[.a j]) U=Q8 k U U[k]? U[j]?:=rfl
theorem MH{Y:L PG}{n:Nat}{U:a_}{k i j:Nat}{a b:cI}:pS Y n (.l k i j a b) U=ME Y n a b (BV k U U[k]? U[i]? U[j]?):=rfl
def Vi(h:Ac ks xs=M ps)(h2:zl ps<64):Hz (.f o ks xs)=.c (.b W<|o_<|l0 ps):=by
 show(R.opt<|Ac ks xs).bind _=_;rw[h];show R.bP (decide<|zl ps<64) _=_;rw[aA h2];rfl
theorem Y5:pE Y (.z as) U=(ic Y as U).bind λds=>Mn ds:=rfl
def ae7(h:-(2 ^ 62)<=i/\i<2 ^ 62/\-(2 ^ 62)<=j/\j<2 ^ 62/\(j-i).toNat<=2 ^ 24):Mn [.a i,.a j]=.c (.d<|gj i (j-i).toNat):=by
 show R.bP (decide<|-(2 ^ 62)<=i/\i<2 ^ 62/\-(2 ^ 62)<=j/\j<2 ^ 62/\(j-i).toNat<=2 ^ 24) _=_;rw[aA h];rfl
def MI(h:sortable ks=W):jR .e [.h o ks xs]=.c (.b W<|o_ ks):=by
 show R.bP (sortable ks) _=_;rw[h];rfl
def MJ(h:lX y=M k)(h2:ia ks xs k=M d):t_ (.h o ks xs) y=.c (bW d):=by
 show(R.opt<|lX y).bind _=_;rw[h];show(R.opt<|ia ks xs k).bind _=_;rw[h2];rfl
theorem Y6:bW (.h o ks xs)=.h J ks (aH xs):=rfl
theorem Y7:aV (.h o ks xs)=(o&&b9 xs):=rfl
def Vj(h:1<=n/\n<=xs.length):Mm (.d xs) (M n) B=.c (.d<|aH<|xs.drop n.toNat):=by
 show R.bP (decide<|1<=n/\n<=xs.length) _=_;rw[aA h];rfl
theorem Y8:pS Y n (.e<|.i .d (.a k) #v[a]) U=(pE Y a U).pU (rO U[k]?) λd=>Q7 k (cz a) d U:=rfl
def uc(h:U[k]?=M (M<|.b W xs))(h1:zl xs+zl ys<=ao)(h2:(aV (.b W ys)||!vs.contains k)=W):Q7 k vs (.b W ys) U=.a ((jw vs (aV<|.b W ys) U).set k<|M<|.b W<|xs++ys):=by
 show oG (k9 v_ U[k]?) _=_;rw[h];show(if(_&&_)=W then _ else _)=_;rw[aA h1,h2];rfl
theorem Rq:nW Y (.cons (.c g as) r) U=(pE Y (.c g as) U).bind λd=>R.bP (aV d) ((nW Y r U).bind λds=>.c (d::ds)):=rfl
theorem Y9:nW Y (.cons (.b a b) r) U=(pE Y (.b a b) U).bind λd=>R.bP (aV d) ((nW Y r U).bind λds=>.c (d::ds)):=rfl
theorem Vk:nW Y (.cons (.h f as) r) U=(pE Y (.h f as) U).bind λd=>R.bP (aV d) ((nW Y r U).bind λds=>.c (d::ds)):=rfl
theorem Rr{U:a_}{nl:L Str}{fr:L Nat}{elt:CE}{tg:CG}{src:CI}{cond:CO}{r:jQ}:nW Y (.cons (.j nl fr elt tg src cond) r) U=(pE Y (.j nl fr elt tg src cond) U).bind λd=>R.bP (aV d) ((nW Y r U).bind λds=>.c (d::ds)):=rfl
theorem Y_:jR .d [.a i,.a j]=.c (.a (if j>i then j else i)):=rfl
def Za(h:(-(2 ^ 63)<=k/\k<2 ^ 63)/\zl xs*k.toNat<=ao):mY .Mult (.b o xs) (.a k)=.c (.b W (bl k.toNat<|aH xs).flatten):=by
 show R.bP (decide<|(-(2 ^ 63)<=k/\k<2 ^ 63)/\zl xs*k.toNat<=ao) _=_;rw[aA h];rfl
def Jz(h:(!xs.isEmpty&&!ys.isEmpty&&decide (zl xs+zl ys<=ao))=W):mY .Add (.d xs) (.d ys)=.c (.d<|aH xs++aH ys):=by
 show R.bP (!xs.isEmpty&&!ys.isEmpty&&decide (zl xs+zl ys<=ao)) _=_;rw[h];rfl
def i9(h:U[k]?=M (M<|.b W xs))(h1:zl xs<ao)(h2:(aV d||!vs.contains k)=W):X4 k vs U d=.a ((jw vs (aV d) U).set k<|M<|.b W<|xs++[d]):=by
 unfold X4;rw[h];show(if(_&&_)=W then _ else _)=_;rw[aA h1,h2];rfl
def B7(h:U[k]?=M (M<|.b W xs))(h1:0<=j/\j<2 ^ 40/\zl xs<ao)(h2:aV d=W):ae6 k U (.a j) d=.a (U.set k<|M<|.b W (xs.take j.toNat++d::xs.drop j.toNat)):=by
 show oG (k9 v_ U[k]?) _=_;rw[h];show(if(_&&_)=W then _ else _)=_;rw[aA h1,h2];rfl
def ie(h:U[k]?=M (M x))(h1:(aV d||!vs.contains k)=W)(h2:putIn x d j=M x'):Lu k vs U d j=.a ((jw vs (aV d) U).set k<|M x'):=by
 unfold Lu;simp only[h];rw[h1,h2];rfl
theorem lK{β:Type}{g:D->a_->R a_}{e:a_->R D}(enc:β->D)(I:a_->Prop)(f:β->D):∀(xs:L β) (U:a_),I U->(∀x∈xs,∀U,I U->∃σ2,g (enc x) U=.c σ2/\I σ2/\e σ2=.c (f x))->eB g (λ_=>.c W) e (xs.map enc) U=.c (xs.map f)
|[],U,_,_=>rfl
|x::r,U,hi,h=>by
 let#[σ2,h1,h2,h3]:=h x aD U hi;have ih:=lK enc I f r σ2 h2 λy hy=>h y<|az _ hy;show(g (enc x) U).bind _=_;rw[h1];simp only[R.bind,ki,h3,ih];rfl
theorem B8{β:Type}{g:D->a_->R a_}{c:a_->R Bool}{e:a_->R D}(enc:β->D)(I:a_->Prop)(p:β->Bool)(f:β->D):∀(xs:L β) (U:a_),I U->(∀x∈xs,∀U,I U->∃σ2,g (enc x) U=.c σ2/\I σ2/\c σ2=.c (p x)/\e σ2=.c (f x))->eB g c e (xs.map enc) U=.c ((xs.filter p).map f)
|[],U,_,_=>rfl
|x::r,U,hi,h=>by
 let#[σ2,h1,h2,h3,h4]:=h x aD U hi;have ih:=B8 enc I p f r σ2 h2 λy hy=>h y<|az _ hy;show(g (enc x) U).bind _=_;rw[h1];simp only[R.bind,h3];cases q:p x with
 |true=>rw[aQ rfl,List.filter_cons_of_pos q,h4];simp only[R.bind,ih];rfl
 |false=>rw[aE<|by decide,List.filter_cons_of_neg<|by simp[q]];exact ih
theorem ae8:cz (.a i)=[i]:=rfl
theorem ae9:cz (.e x1)=[]:=rfl
theorem ae_:cz (.g x1 a b)=cz a++cz b:=rfl
theorem afa:cz (.m a)=cz a:=rfl
theorem afb:cz (.q c a b)=cz c++(cz a++cz b):=rfl
theorem ab8:cz (.d x1 a b)=cz a++cz b:=rfl
theorem ab9:cz (.c x1 as)=jA as:=rfl
theorem ab_:cz (.h f as)=if xZ f as=W then[]else jA as:=rfl
theorem acd:cz (.b a b)=cz a++cz b:=rfl
theorem ace:cz (.k as)=jA as:=rfl
theorem acf:cz (.f as)=jA as:=rfl
theorem acg:cz (.ab)=[]:=rfl
theorem ach:cz (.j x1 fr x2 x3 src x4)=ua src++fr:=rfl
theorem aci:cz (.w)=[]:=rfl
theorem acj:cz (.z as)=jA as:=rfl
theorem ack:cz (.aa a)=cz a:=rfl
theorem acm:jA (.nil)=[]:=rfl
theorem acn:jA (.cons a r)=cz a++jA r:=rfl
theorem aco:ua (.a a)=cz a:=rfl
theorem acp:ua (.b as)=jA as:=rfl
theorem acq:ua (.c a)=cz a:=rfl
theorem acr:ua (.d a)=cz a:=rfl
def K5(K:ak)(C:Addr)(as:L Str):Bool:=
 (dg K (.ref C) "__getattribute__"==M (M<|.builtin "BaseException.__getattribute__"))&&(dg K (.ref C) "__getattr__"==M B)&&(dg K (.ref C) "__setattr__"==M (M<|.builtin "object.__setattr__"))
 && vd K C&&(iy K C (.type "BaseException")==M W)&&(iy K C (.type "object")==M W)&&(uZ K C).any (λcd=>LO cd.mro)
 && (dg K (.ref C) "__class__"==M (M<|.builtin "object.__class__"))&&as.all λf=>dg K (.ref C) f==M B
def acs{K:ak}{C:Addr}{as:L Str}(h:K5 K C as=W)(hn:mD K (.builtin "object.__class__") "__get__"=M (M<|.builtin "getset_descriptor.__get__"))(htk:n9 K (.builtin "object.__class__")=M W):Td K C/\BA K C/\∀f∈as,yP K C f:=by
 unfold K5 at h;simp only[cK,jP,bN]at h;let#[#[#[#[#[#[#[#[h1,h2],h3],h4],h5],h6],h7],h8],h9]:=h;have c:LN K C:=#[h1,h2,h3,h4,h5,h6];exact#[{ c with tl:=h7 },{ c with ha:=h8,hn:=hn,htk:=htk },h9]
def Zb{K:ak}{Cs:L Addr}{as:L Str}(h:(Cs.all λC=>K5 K C as)=W)(hn:mD K (.builtin "object.__class__") "__get__"=M (M<|.builtin "getset_descriptor.__get__"))(htk:n9 K (.builtin "object.__class__")=M W):∀C∈Cs,Td K C/\BA K C/\∀f∈as,yP K C f:=λC hC=>acs (bN.mp h C hC) hn htk
def lM{K:ak}{D:Addr}{Cs:L Addr}{as:L Str}(hx:∀C∈Cs,Td K C/\BA K C/\∀f∈as,yP K C f)(h0:dY K (.type "NoneType") (.ref D)=M J)(h:(Cs.all λC=>dY K (.ref C) (.ref D)==M (decide<|C=D))=W):jM K D Cs:=
 #[h0,λC hC=>#[(hx C hC).2.1,by simpa using bN.mp h C hC]]
def afc{K:ak}{Cs:L Addr}{as:L Str}(hx:∀C∈Cs,Td K C/\BA K C/\∀f∈as,yP K C f)(h0:dY K (.type "NoneType") (.type "ValueError")=M J)(h:(Cs.all λC=>dY K (.ref C) (.type "ValueError")==M W)=W):z7 K Cs as:=
 #[h0,λC hC=>#[(hx C hC).2.1,by simpa using bN.mp h C hC,(hx C hC).2.2]]
def afd{K:ak}{aaf:Addr}{Cs:L Addr}(h:(Cs.all λC=>iy K C (.ref aaf)==M W)=W):∀C∈Cs,iy K C (.ref aaf)=M W:=λC hC=>by simpa using bN.mp h C hC
def Vl(K:ak)(aaf:Addr):Prop:=∃c0 dB cd sl c1 d1 es ep s1,K.lookup aaf=M #[c0,dB,.cls cd,sl]/\K.lookup cd.ns=M #[c1,d1,.dict es ep,s1]/\(es.all λe=>match e.key with|.str _ _=>W|_=>J)=W/\GQ es "__init__"=B
end L3
end
local macro_rules | `(tactic| simp_arith $c:optConfig [$ls,*]) => do let q <- ("Ul pq_thn_ok' Um Uo pq_thnL_ok' Uq abL N5 Xq Ur Xr Xs Xu Xv Xw EH Xx Xy BZ abM Xz abN Us Ut Uu Uv abO Rc EI abP XA XC XD XE XF Uw Ux Uy XG XH Uz UA Rf XI XJ aeZ XM abQ XN XO XQ abR XR XS XT XU UB Rg XW abS XX XY XZ X3 UC Rh ae0 ae1 UD Ri abT abU abV abW abX UE X5 X6 UG UH UI UJ UK UL UM UN abY abZ UO X7 UP X8 X_ Yb UQ Yc ab0 ab1 Yd Ye Yg Dl UR Yh Yi Yj Yk Rl US Yl Ym Yn ab2 ab3 Yo Yp Yq UT Yr Ys ab4 Yt Rm Yu UU Yv UW Rn UX UY UZ U0 U1 Yw U3 Ro Yx Rp U4 Yy U5 iA Yz YA YB YC YD U6 U7 YE YF U8 U9 YG YH MF YI U_ ab5 ab6 YJ B6 Jy YK YL YM YN YO Va Vb YQ YR YS YT YU YV ab7 Vc YW Vd Ve Vf YX YY YZ Y0 Y3 MG Vg Vh Y4 MH Vi Y5 ae7 MI MJ Y6 Y7 Vj Y8 uc Rq Y9 Vk Rr Y_ Za Jz i9 B7 ie ae8 ae9 ae_ afa afb ab8 ab9 ab_ acd ace acf acg ach aci acj ack acm acn aco acp acq acr f9 HK xZ yY vU.len bB gw eY lU ai List.cons_append lT dS eN List.replicate_zero pR jE List.set_cons_zero List.set_cons_succ List.getD_cons_zero List.getD_cons_succ Nat.reduceAdd Nat.reduceSub Nat.zero_add CU or_false and_true true_and and_false false_and decide_true decide_false lG pP A9 qJ KP pK Bool.false_and ki kQ cJ reduceCtorEq Option.map_some jL ne_eq Int.reduceMod Int.reduceSub Int.reduceAdd".splitOn " ").toArray.mapM λx => `(Lean.Parser.Tactic.simpLemma| $(Lean.mkIdent x.toName):ident); `(tactic| simp $c:optConfig (disch := first | assumption | (with_reducible rfl) | (show L3.gP _ = W; rfl) | omega | (simp only [eY, lU, ai, aW]; omega)) only [$q,*, $ls,*])
local macro_rules|`(tactic|erw[$l,*])=>do let q<-l.getElems.mapM λr=>`(Lean.Parser.Tactic.simpLemma|$(⟨r.raw[1]⟩):term);`(tactic|simp_arith [$q,*])
section
namespace L3
open PySem L2
structure FD where
 n:Str
 s:Stmt
 N:L Str
 k:Nat
 gl:L Str
def FD.ps(d:FD):L Str:=d.N.take d.k
noncomputable def scB(N P:L Str)(sc:iM):Bool:=(match sc.kind with|.function=>W|_=>J)&&(!sc.isCoroutine&&(!sc.isGenerator&&(decide N.Nodup&&(decide (N.take (zl P)=P)&&(decide (∀x∈P,sc.names.lookup x=M .local\/sc.names.lookup x=M .cell)&&decide (∀y∈sc.names,y.2≠.free))))))
def FH(h:scB N P sc=W):o8 N P sc:=by
 unfold scB at h;simp only[cK,iJ,DL]at h;let#[h1,h2,h3,h4,h5,h6,h7]:=h;refine#[?_,h2,h3,h4,h5,h6,h7];revert h1;cases sc.kind<;>intro h1<;>first|rfl|cases h1
def FD.kD(bn:L Str)(d:FD)(c:cI):Bool:=mX #[d.N,cQ d.s,d.gl,bn,(λ_=>W),W,J] c (jr d.s)&&(scB d.N d.ps (cQ d.s)&&(lB c&&(zl d.ps==d.k)))
def DI(K:ak)(mg:Str->aah Z)(d:FD):Prop:=FT K mg d.n d.s d.ps
section
variable{P:br}{w:bE}{K:ak}{mg:Str->aah Z}{base:Heap}
abbrev lq(P:br)(w:bE)(K:ak)(mg:Str->aah Z)(base:Heap)(k:Nat)(x:Str)(m:L D->R D):Prop:=Hw P w K mg base k x<|.a (cZ K m) []
def GR(P:br)(w:bE)(K:ak)(mg:Str->aah Z)(base:Heap)(k:Nat)(gl:L Str)(Γp:L PG):Prop:=∃Y,Ab P w K mg base k gl Y/\d7 K Γp Y
def gN:GR P w K mg base k [] []:=#[[],trivial,trivial]
section
variable{k:Nat}{x:Str}{gl:L Str}{Γp:L PG}
def gG(g:G)(h:Hw P w K mg base k x g)(e:Xb K p g)(r:GR P w K mg base k gl Γp):GR P w K mg base k (x::gl) (p::Γp):=by
 let#[Y,a,b]:=r;exact#[g::Y,#[h,a],#[_,_,rfl,e,b]]
def gF{m:L D->R D}(h:lq P w K mg base j x m)(r:GR P w K mg base k gl Γp)(l:j<=k:=by decide):GR P w K mg base k (x::gl) (.a m []::Γp):=by
 let#[f,fd,ps,ds,F,q]:=h;exact gG (.a (cZ K m) []) #[f,fd,ps,ds,F.mono l,q] #[λ_ _ _ _ h=>h,rfl,rfl] r
def gNo{C:Addr}(h:mg x=M (.ref C)/\IP K C)(r:GR P w K mg base k gl Γp):GR P w K mg base k (x::gl) (.c C::Γp):=gG (.b C) h rfl r
def gI{D:Addr}{Cs:L Addr}(h:mg x=M (.ref D)/\jM K D Cs)(r:GR P w K mg base k gl Γp):GR P w K mg base k (x::gl) (.b D Cs::Γp):=gG (.c D Cs) h #[rfl,rfl] r
def gX{Cs:L Addr}{as:L Str}(h:z7 K Cs as)(r:GR P w K mg base k gl Γp):GR P w K mg base k (x::gl) (.f Cs as::Γp):=gG (.h Cs as) h #[rfl,rfl] r
def ExI(K:ak)(mg:Str->aah Z)(x:Str)(aaf:Addr)(Cs:L Addr):Prop:=(mg x=M (.ref aaf)/\Fg K aaf)/\∀C∈Cs,iy K C (.ref aaf)=M W
def gB{aaf:Addr}{Cs:L Addr}(h:ExI K mg x aaf Cs)(r:GR P w K mg base k gl Γp):GR P w K mg base k (x::gl) (.d Cs::Γp):=gG (.i aaf Cs) h.1 #[rfl,h.2] r
def gV(h:∃u,mg x=M u/\RelV v u)(e:bf K (λ_=>B) d v)(r:GR P w K mg base k gl Γp):GR P w K mg base k (x::gl) (.h d::Γp):=gG (.j v) h e r
end
def fF{d:FD}{f:Addr}{fd:eS}{k n:Nat}{Γp:L PG}(F:vO K d.n d.n d.s f fd){c:cI}(h:d.kD bn c=W)(hb:∀x∈bn,mg x=B)(r:GR P w K mg base k d.gl Γp):jG P w K mg base (nT P w) (k+1) f fd d.ps (cZ K<|f9 Γp n d.N d.k c):=by
 let#[Y,a,b]:=r;unfold FD.kD at h;simp only[cK,jP]at h;let#[h1,h2,h3,h4]:=h;rw[<-h4];refine agD (Y:=Y) c F (FH h2) h1 a b h3 hb ?_;unfold FD.ps;rw[fC];omega
def fD(D:DI K mg d){c:cI}(h:d.kD bn c=W)(hb:∀x∈bn,mg x=B)(r:GR P w K mg base k d.gl Γp):lq P w K mg base (k+1) d.n (f9 Γp n d.N d.k c):=
 FT.has D λ_ _ F=>fF F h hb r
def f0(D:DI K mg d):lq P w K mg base k d.n (λ_=>.d):=
 FT.has D λ_ _ F=>#[λ_ _ _ _ ⟨_,_,_,_,_,h⟩=>h.elim,λ_ _ _ _ _ _ _ _ _ _ _ _ _ ⟨_,_,_,_,_,h⟩=>h.elim]
def FD.Zc(bn:L Str)(d:FD)(c:cI):Bool:=mX #[d.N,cQ d.s,d.gl,bn,(λ_=>W),J,J] c (jr d.s)&&(scB d.N d.ps (cQ d.s)&&(lB c&&(zl d.ps==d.k&&d.k != 0)))
abbrev OkN(P:br)(w:bE)(K:ak)(mg:Str->aah Z)(base:Heap)(k:Nat)(x:Str)(m:L D->R D):Prop:=Hw P w K mg base k x<|.d<|cZ K m
def gFo{k j:Nat}{x:Str}{gl:L Str}{Γp:L PG}{m:L D->R D}(h:OkN P w K mg base j x m)(r:GR P w K mg base k gl Γp)(l:j<=k:=by decide):GR P w K mg base k (x::gl) (.g m::Γp):=by
 let#[f,fd,ps,F,q]:=h;exact gG (.d<|cZ K m) #[f,fd,ps,F.mono l,q] (λ_ _ _ _ h=>h) r
def fDN{bn:L Str}{d:FD}{k n:Nat}{Γp:L PG}(D:DI K mg d){c:cI}(h:d.Zc bn c=W)(hb:∀x∈bn,mg x=B)(r:GR P w K mg base k d.gl Γp):OkN P w K mg base (k+1) d.n (f9 (Γp.map PG.alone) n d.N d.k c):=by
 let#[f,fd,F,hm,hB]:=D;let#[Y,a,b]:=r;unfold FD.Zc at h;simp only[cK,jP,bne_iff_ne]at h;let#[h1,h2,h3,h4,h5]:=h;refine#[f,fd,d.ps,?_,hm,F.kp,hB,λz=>h5 (by rw[<-h4,z];rfl)];rw[<-h4];refine aeX (Y:=Y) c F (FH h2) h1 a b h3 hb ?_;unfold FD.ps;rw[fC];omega
def OI(K:ak)(mg:Str->aah Z)(d:FD)(C:Addr):Prop:=mg d.n=M (.ref C)/\∃(f:Addr) (fd:eS),Mk K C f/\vO K "__init__" (d.n++".__init__") d.s f fd/\Binds K fd d.ps []
variable{h:Heap}
def lsZ{α:Type}{p:L α->Prop}(k:p []):∀us,zl us=0->p us
|[],_=>k
def lsS{α:Type}{n:Nat}{p:L α->Prop}(k:∀a r,zl r=n->p (a::r)):∀us,zl us=n+1->p us
|a::r,h=>k a r<|Nat.succ.inj h
def oI{kV doc pm cdv ct:Z}(X:K.In h)(G:h.Ns d8 mg)(a:mS K d8 d.n=M (M<|.ref C):=by k_is)(m1:GS K C=W:=by k_is)(m2:dg K (.ref C) "__init__"=M (M<|.ref f):=by k_is)(m3:Nm K (.ref f)=W:=by k_is)(m4:dW K (.ref C)=W:=by k_is)(l:K.lookup f=M #[oc,od,.func<|gv "__init__" (d.n++".__init__") (o9 d.s) (jr d.s) (cQ d.s) .none kV doc pm an cdv ct,osl]:=by k_is)(c:mP K cdv (d.n++".__init__")=W:=by k_is)(k:dW K (.ref f)=W:=by k_is)(b:∀(kV doc pm:Z) (an:aah Addr) (cdv ct:Z) (us:L Z),zl us=zl d.ps->Ay (gv "__init__" (d.n++".__init__") (o9 d.s) (jr d.s) (cQ d.s) .none kV doc pm an cdv ct) #[us,[]]=pure (d.ps.zip us):=by(intro _ _ _ _ _ _;(repeat refine lsS λ_=>?_);exact lsZ rfl)):OI K mg d C:=
 #[qK X G a,_,_,#[m1,m2,m3,m4],fun_mk l c k,(fun_mk l c k).binds b]
def dI{kV doc pm cdv ct:Z}(X:K.In h)(G:h.Ns d8 mg)(a:mS K d8 d.n=M (M<|.ref f):=by k_is)(l:K.lookup f=M #[oc,od,.func<|gv d.n d.n (o9 d.s) (jr d.s) (cQ d.s) .none kV doc pm an cdv ct,osl]:=by k_is)(c:mP K cdv d.n=W:=by k_is)(k:dW K (.ref f)=W:=by k_is)(b:∀(kV doc pm:Z) (an:aah Addr) (cdv ct:Z) (us:L Z),zl us=zl d.ps->Ay (gv d.n d.n (o9 d.s) (jr d.s) (cQ d.s) .none kV doc pm an cdv ct) #[us,[]]=pure (d.ps.zip us):=by(intro _ _ _ _ _ _;(repeat refine lsS λ_=>?_);exact lsZ rfl)):DI K mg d:=
 #[_,_,fun_mk l c k,qK X G a,(fun_mk l c k).binds b]
def iI(X:K.In h)(G:h.Ns d8 mg)(a:mS K d8 x=M (M v):=by k_is):mg x=M v:=qK X G a
noncomputable def isNo:aah (aah Z)->Bool
|some B=>W
|_=>J
def zI{bn:L Str}(X:K.In h)(G:h.Ns d8 mg)(a:(bn.all λx=>isNo<|mS K d8 x)=W:=by kernel_rfl):∀x∈bn,mg x=B:=λx hx=>V7 X G (by
 have q:=bN.mp a x hx;revert q;rcases mS K d8 x with _|_|_<;>intro q<;>first|rfl|cases q)
def hXI{Cs:L Addr}(X:K.In h)(a:(Cs.all λC=>K5 K C as)=W:=by kernel_rfl)(hn:mD K (.builtin "object.__class__") "__get__"=M (M<|.builtin "getset_descriptor.__get__"):=by k_is)(htk:n9 K (.builtin "object.__class__")=M W:=by k_is):∀C∈Cs,Td K C/\BA K C/\∀f∈as,yP K C f:=Zb a hn htk
def nIo{x:Str}{C aaf N:Addr}{nm q:Str}{bs:L Z}{hdct:Bool}{sn:L Str}{sub:L Z}{ab:Bool}{col:aah Bool}{dd:aah Addr}{k0 k1 k2 k3 k5:aah Z}(X:K.In h)(G:h.Ns d8 mg)(xb:Vl K aaf)(a:mS K d8 x=M (M<|.ref C):=by k_is)(xi:dg K (.ref C) "__init__"=M (M<|.builtin "ValueError.__init__"):=by k_is)(xk:dW K (.ref C)=W:=by k_is)(xl:K.lookup C=M (l9 nm q C N bs (.ref aaf::[.type "ValueError",.type "Exception",.type "BaseException",.type "object"]) hdct sn sub ab col dd k0 k1 k2 k3 k5 "ValueError.__new__"):=by k_is):mg x=M (.ref C)/\IP K C:=
 #[qK X G a,xi,xk,_,_,_,_,_,_,_,_,_,_,_,_,_,_,_,_,xl,xb]
def eI(X:K.In h)(G:h.Ns d8 mg)(a:mS K d8 x=M (M<|.ref aaf):=by k_is)(l:K.lookup aaf=M (l9 nm q aaf N bs bm hd sn sb ab cl dd k0 k1 k2 k3 k5 ni):=by k_is)(c:bm.contains (.type "BaseException")=W:=by kernel_rfl)(m:(Cs.all λC=>iy K C (.ref aaf)==M W)=W:=by kernel_rfl):ExI K mg x aaf Cs:=
 #[#[qK X G a,_,_,_,_,_,_,_,_,_,_,_,_,_,_,_,_,_,l,c],afd m]
def bI(X:K.In h)(l:K.lookup aaf=M #[c0,d0,.cls cd,s0]:=by k_is)(q:cd.ns=N:=by rfl)(n:K.lookup N=M #[c1,d1,.dict es ep,s1]:=by k_is)(a:(es.all λe=>match e.key with|.str _ _=>W|_=>J)=W:=by kernel_rfl)(f:GQ es "__init__"=B:=by kernel_rfl):Vl K aaf:=#[_,_,_,_,_,_,_,_,_,l,by rw[q];exact n,a,f]
end
end L3
end
section
namespace Tr
open PySem L2 L3
abbrev c8:CE:=.a 0
abbrev dQ:CE:=.a 1
abbrev fS:CE:=.a 2
abbrev gk:CE:=.a 3
abbrev iz:CE:=.a 4
abbrev fU:CE:=.a 5
abbrev kE:CE:=.a 6
abbrev ud:CE:=.a 7
abbrev we:CE:=.a 8
abbrev wg:CE:=.a 9
abbrev oK:CE:=.a 10
abbrev uP:CE:=.a 11
abbrev rP:CE:=.a 12
abbrev B9:CE:=.a 13
abbrev MK:CE:=.a 14
abbrev xv15:CE:=.a 15
abbrev xv16:CE:=.a 16
abbrev Zd:CE:=.a 17
abbrev B_:CE:=.a 18
noncomputable abbrev e1(a:CE):jQ:=#v[a]
abbrev e2(a b:CE):jQ:=.cons a<|e1 b
abbrev e3(a b c:CE):jQ:=.cons a<|e2 b c
abbrev e4(a b c d:CE):jQ:=.cons a<|e3 b c d
abbrev gE(a:CE):CE:=.h .a<|e1 a
abbrev ue:CE:=.e .d
noncomputable abbrev u9(a b:Nat):CG:=.b #v[.a a,.a b]
noncomputable abbrev xT3(a b c:Nat):CG:=.b #v[.a a,.a b,.a c]
abbrev i_(n:Int):CE:=.e<|.b n
abbrev g8(a b:CE):CE:=.g .Add a b
abbrev fh(a b:CE):CE:=.g .Mod a b
abbrev iD(a b:CE):CE:=.g .FloorDiv a b
abbrev y9(a b:CE):CE:=.d .Eq a b
abbrev dD(n:Nat)(a:CE):CS:=.c (.a n) a
noncomputable abbrev gH(a:CS):cI:=#v[a]
abbrev sH(a b:CS):cI:=.cons a<|gH b
abbrev JA(a b c:CS):cI:=.cons a<|sH b c
abbrev JB(a b c d:CS):cI:=.cons a<|JA b c d
abbrev sq5(a b c d e:CS):cI:=.cons a<|JB b c d e
abbrev sq6(a b c d e f:CS):cI:=.cons a<|sq5 b c d e f
abbrev sq7(a b c d e f g:CS):cI:=.cons a<|sq6 b c d e f g
def top(i:Nat):Stmt:=PySem.Challenge.pw_claimwise_k30_spots_that_do_not_fit.main.body.getD i<|.Pass #[0,0,0,0]
abbrev FU:L Str:=["kinds","one","other"]
def Ai:cI:=
 gH (.a<|.d .In fS<|.c 0<|e2 c8 dQ)
abbrev DW:L Str:=["kinds","kind","uppers","above"]
def jH:cI:=
 gH (.e<|.i .a gk<|e1<|.b fS<|.b gk<|.m<|i_ 1)
abbrev upT:CE:=
 .d .NotEq (.i .c fS<|e2 (.b gk<|.m<|i_ 1)<|.e<|.e "") (.e<|.e "")
def ym:cI:=
 JB (dD 2<|.h .b<|e1 c8) (dD 3<|.k<|e1 dQ) (.i upT jH) (.a gk)
abbrev FW:L Str:=["kinds","one","other"]
def Aj:cI:=
 JA (.b (.c 0<|e3 c8 dQ fS) (gH<|.a dQ) .nil) (.b (.c 0<|e3 c8 fS dQ) (gH<|.a fS) .nil) (.a ue)
abbrev AX:L Str:=["count","other_count","spots","partners","places","j"]
def kF:cI:=
 sH (.e<|.i .a iz<|e1<|.q (.d .In fU gk) (.b gk fU) c8) (.b (.d .NotIn fU gk) (gH<|.g 0<|i_ 1) .nil)
def uQ:cI:=
 JB (dD 3<|.h .b<|e1<|.j ["i","j"] [] (.f<|e2 dQ c8) (u9 0 1) (.a fS) .none) (dD 4<|.k .nil) (.d (.a 5) (.b<|e1 dQ) kF) (.a iz)
abbrev Ca:L Str:=["joins","others","places"]
def wj:cI:=
 gH (.a<|.x<|g8 c8<|.j ["word","i","j"] [2] (.f<|e3 c8 (.b gk dQ)<|.b gk fS) (xT3 0 1 2) (.a dQ) .none)
abbrev Cb:L Str:=["steps","others","places"]
def wm:cI:=
 gH (.a<|g8 c8<|.j ["word","i"] [2] (.f<|e2 c8<|.b fS dQ) (u9 0 1) (.a dQ) .none)
abbrev FY:L Str:=["kinds","one","other","spots","parts","i","j","places","taken"]
def nu:cI:=
 gH (.c (.c iz fU)<|.c 5<|e3 c8 (.b (.b dQ<|i_ 0) fU)<|.b (.b fS<|i_ 0) kE)
def Ak:cI:=
 .cons (.e<|.c 6<|e3 dQ fS gk) (sq7 (dD 4<|.c 2<|e1<|.b dQ<|i_ 0) (.d (u9 5 6) (.a gk) nu) (.b (.d .In ue iz) #v[.h 4] .nil) (dD 7<|.c 3<|e3 (gE<|.b dQ<|i_ 0) (gE<|.b fS<|i_ 0) gk) (dD 8<|.j ["i","j"] [] dQ (u9 0 1) (.a gk) .none) (.e<|.i .d iz<|e1<|.j ["j","part"] [8] dQ (u9 0 1) (.c<|.c 2<|e1<|.b fS<|i_ 0)<|.some<|.d .NotIn c8 fS)<|.a<|.f<|e3 iz (.c 1<|e3 (.b dQ<|i_ 1) (.b fS<|i_ 1) ud)<|.c 0<|e3 (.b dQ<|i_ 2) (.b fS<|i_ 2) ud)
abbrev y_:L Str:=["parts"]
def tF:cI:=
 gH (.a<|.j ["kind","sizes"] [] (.f<|e2 c8<|.h .c<|e1 dQ) (u9 0 1) (.a c8) .none)
abbrev uf:L Str:=["one","other","spots","firsts","seconds"]
def oN:cI:=
 JA (.f 3<|.j ["i","j"] [] c8 (u9 0 1) (.a fS) .none) (.f 4<|.j ["i","j"] [] dQ (u9 0 1) (.a fS) .none) (.b (.o (.p<|.c 0<|e2 gk c8)<|.p<|.c 0<|e2 iz dQ) #v[.h 1] .nil)
abbrev DX:L Str:=["numbers","thing"]
abbrev eRg:CE:=
 .t .LtE .Lt (i_ 0) c8 (gE<|.b dQ<|i_ 0)
def yo:cI:=
 gH (.a<|.l (y9 (.y c8)<|gE c8)<|.h .g<|e1<|.j ["number"] [1] eRg (.a 0) (.a c8) .none)
abbrev AY:L Str:=["kinds","one","other","kind","numbers","word","number"]
def iY:cI:=
 #v[.l 4 5 6 (gH<|.a ue) .nil]
def uR:cI:=
 JB (dD 3<|.c 0<|e3 c8 (.b dQ<|i_ 0)<|.b fS<|i_ 0) (dD 4<|.h .b<|e1<|.b dQ<|i_ 1) (.d (u9 5 6) (.a<|.b fS<|i_ 1) iY) (.a<|.q (.d .Is gk ue) ue<|.f<|e2 gk<|.u iz)
abbrev Px:L Str:=["_law_script","_law_k","_law_cell","_law_number"]
def Dm:cI:=
 JB (dD 2<|i_ 0) (.b (.d .Gt (gE c8)<|i_ 0) (gH<|dD 2<|.b c8<|fh dQ<|gE c8) .nil) (dD 3<|fh (.g .Mult (g8 (g8 (fh fS<|i_ 1000000007)<|.g .Mult (i_ 7) dQ)<|i_ 1)<|g8 (i_ 48271)<|.g .Mult (.g .Mult (i_ 97) dQ) dQ)<|i_ 2147483629) (.a<|fh (.g .Mult gk gk)<|i_ 2147483587)
abbrev JC:L Str:=["_law_script","_law_k","_law_many","_law_letters","_law_m","_law_stem","_law_at"]
def Cc:cI:=
 sq5 (dD 3<|.e<|.e "bdfgjkmpqrvwxyz") (dD 4<|.c 0<|e2 c8 dQ) (dD 5<|.g .Mult (.b gk<|fh iz<|i_ 15)<|fh (iD iz<|i_ 15)<|i_ 5) (dD 6<|fh (iD iz<|i_ 75)<|g8 (gE fU)<|i_ 1) (.a<|.j ["_law_j"] [3,4,5,6] (g8 (g8 (.r gk .none<|.some iz)<|.b dQ<|fh (g8 (iD fS<|i_ 375) c8)<|i_ 15)<|.r gk (.some iz) .none) (.a 0) (.b<|e1 fS) .none)
abbrev JD:L Str:=["_law_script","_law_many","_law_names_here","_law_kinds_here","_law_k","_law_m","_law_upper"]
def wo:cI:=
 JB (dD 5<|.c 0<|e2 c8<|g8 (i_ 3) iz) (dD 6<|.e<|.e "") (.b (.l (.d .Gt iz<|i_ 0)<|.d .Gt (fh fU<|i_ 4)<|i_ 0) (gH<|dD 6<|.b fS<|fh (iD fU<|i_ 4) iz) .nil) (.e<|.i .a gk<|e1<|.f<|e2 (.b fS iz) kE)
def Cd:cI:=
 sq5 (dD 1<|g8 (i_ 3)<|fh (.c 0<|e2 c8<|i_ 1)<|i_ 6) (dD 2<|.c 1<|e3 c8 (i_ 2) dQ) (dD 3<|.k .nil) (.d (.a 4) (.b<|e1 dQ) wo) (.a gk)
abbrev JE:L Str:=["_law_script"]
def Ce:cI:=
 gH (.a<|.f<|e3 (.c 0<|e3 c8 (i_ 12)<|i_ 3) (.c 0<|e3 c8 (i_ 13)<|i_ 2)<|.c 0<|e3 c8 (i_ 14)<|i_ 2)
abbrev FZ:L Str:=["_law_kinds_here","_law_kind","_law_row","_law_name","_law_upper"]
def qE:cI:=
 gH (.b (.l (y9 gk<|.b fS<|.m<|i_ 1)<|.d .NotEq iz<|.e<|.e "") (gH<|.e<|.i .a fS<|e1 iz) .nil)
def Al:cI:=
 JA (dD 2<|.k<|e1 dQ) (.d (u9 3 4) (.d c8) qE) (.a fS)
abbrev F7:L Str:=["_law_kinds_here","_law_kind"]
def Am:cI:=
 gH (.a<|.j ["_law_name","_law_upper"] [0,1] c8 (u9 0 1) (.a c8)<|.some<|.d .In gk<|.c 0<|e2 fS c8)
abbrev F8:L Str:=["_law_script","_law_at","_law_kinds_here","_law_shut","_law_names_here","_law_parts","_law_closed","_law_named","_law_g","_law_m","_law_told_here","_law_many","_law_numbers"]
abbrev eIn:CE:=
 .d .In dQ (.c 1<|e2 fS c8)
abbrev afi:CE:=
 .h .g (e1<|.j ["_law_one"] [0,1] eIn (.a 0) (.a fS) .none)
abbrev r7:cI:=
 sH (.b (.h .j<|e1<|.j ["_law_upper"] [2,10] afi (.a 0) (.a iz) .none) (gH<|.e<|.i .a ud<|e1 rP) .nil) (.e<|.i .d fU<|e1<|.g .Mult (.k<|e1 oK) uP)
def g6(rr:cI):cI:=
 .cons (dD 9<|.c 0<|e2 c8<|g8 (g8 dQ<|i_ 1) we) (.cons (dD 10<|.h .h<|e1<|.j ["_law_j"] [4,9] (.b dQ<|fh (g8 fS c8)<|gE dQ) (.a 0) (.b<|e1<|.b (.k<|e4 (i_ 1) (i_ 1) (i_ 2)<|i_ 3)<|fh (iD wg<|i_ 16)<|i_ 4) .none)<|.cons (dD 11<|.b (.k<|e4 (i_ 1) (i_ 1) (i_ 1)<|i_ 2)<|fh (iD wg<|i_ 64)<|i_ 4)<|.cons (.b (.d .Gt (g8 (gE fU) uP)<|i_ 4) (gH .m) .nil)<|.cons (dD 12<|.z<|e2 (gE fU)<|g8 (gE fU) uP)<|.cons (.b (.o (y9 (fh (iD wg<|i_ 256)<|i_ 3)<|i_ 0)<|.l gk<|y9 we<|i_ 0) (gH<|.e<|.i .a kE<|e1<|.f<|e2 oK rP) .nil) rr)
def ny:cI:=
 g6 r7
def An:cI:=
 sq6 (dD 4<|.j ["_law_name","_law_upper"] [] c8 (u9 0 1) (.a fS) .none) (dD 5<|.k .nil) (dD 6<|.k .nil) (dD 7<|.k .nil) (.d (.a 8) (.b<|e1<|.h .d<|e2 (.h .i<|e1 gk)<|.b (.k<|.cons (i_ 1)<|.cons (i_ 2)<|.cons (i_ 3)<|.cons (i_ 2)<|e4 (i_ 1) (i_ 3) (i_ 2)<|i_ 0)<|fh (.c 0<|e2 c8 dQ)<|i_ 8) ny) (.a<|.f<|e3 fU kE ud)
abbrev F9:L Str:=["_law_n","_law_low"]
def vq:cI:=
 JA (dD 1<|.g .Sub (fh (iD c8<|i_ 64)<|i_ 6)<|i_ 2) (.b (y9 (fh (iD c8<|i_ 4096)<|i_ 7)<|i_ 0) (gH<|dD 1<|.g .Mult (.g .Sub c8<|.g .Pow (i_ 10)<|i_ 9)<|.g .Pow (i_ 10)<|i_ 19) .nil) (.a<|.b (.k<|e3 (.f<|e2 ue dQ) (.f<|e2 dQ ue)<|.f<|e2 dQ<|g8 dQ<|fh (iD c8<|i_ 512)<|i_ 4)<|fh (iD c8<|i_ 8)<|i_ 3)
abbrev DY:L Str:=["_law_script","_law_at","_law_kinds_here","_law_words_here","_law_shut","_law_parts","_law_closed","_law_named","_law_joins","_law_sizes","_law_steps","_law_k","_law_n","_law_i","_law_some"]
def ph:cI:=
 sH (dD 12<|.c 1<|e2 c8<|g8 (g8 dQ<|i_ 10) B9) (.b (.l (y9 (fh rP<|i_ 5)<|i_ 0)<|.p iz) (sH (dD 14<|.c 0<|e2 fS<|.b (.b fU B9)<|fh (iD rP<|i_ 5)<|gE<|.b fU B9)<|.c (.c fU B9)<|.f<|e1<|.b MK<|fh (iD rP<|i_ 15)<|gE MK) .nil)
abbrev sN:CS:=
 dD 12 (.c 1<|e2 c8<|g8 (g8 dQ<|i_ 6) uP)
abbrev sJ:CS:=
 .b (.l (.d .Gt (gE fU)<|i_ 1)<|.d .Lt uP<|fh (.c 1<|e2 c8<|g8 dQ<|i_ 5)<|i_ 4) (sH (dD 13<|fh rP<|gE fU)<|.c (.c we<|.f<|e3 (.b (.b gk<|i_ 1)<|fh (iD rP<|i_ 8)<|i_ 2) B9<|fh (g8 (g8 B9<|i_ 1)<|fh (iD rP<|i_ 16)<|.g .Sub (gE fU)<|i_ 1)<|gE fU)<|.e<|.c W) .nil
abbrev sZ:CS:=
 .b (.l (.d .Gt (gE fU)<|i_ 0)<|.d .Lt uP<|fh (iD (.c 1<|e2 c8<|g8 dQ<|i_ 5)<|i_ 4)<|i_ 4) (gH<|.c (.c wg<|.f<|e2 (fh (iD rP<|i_ 3)<|gE fU)<|.b (.b gk<|i_ 0)<|fh (iD rP<|i_ 24)<|i_ 3)<|.c 2<|e1 rP) .nil
abbrev sT:CS:=
 .b (.l (.d .Gt (gE ud)<|i_ 0)<|.d .Lt uP<|fh (iD (.c 1<|e2 c8<|g8 dQ<|i_ 5)<|i_ 16)<|i_ 3) (gH<|.e<|.i .d oK<|e1<|.j ["_law_i"] [3,12] (.f<|e2 (.b (.b dQ<|i_ 2)<|fh (iD fS<|i_ 5)<|i_ 2) c8) (.a 0) (.a<|.b ud<|fh (iD rP<|i_ 10)<|gE ud) .none) .nil
def pq:cI:=
 JB sN sJ sZ sT
def yq:cI:=
 sq7 (.k (xT3 5 6 7)<|.c 3<|e4 c8 dQ fS iz) (dD 8 .w) (dD 9 .w) (dD 10<|.k .nil) (.d (.a 11) (.b<|e1<|i_ 4) pq) (.d (.a 13) (.b<|e1<|gE fU) ph) (.a<|.f<|.cons fU<|e4 kE (.h .e<|e1 we) (.j ["_law_key"] [9] (g8 c8<|.b dQ c8) (.a 0) (.a<|.h .e<|e1 wg) .none) oK)
abbrev Cf:L Str:=["_law_script","_law_at","_law_kinds_here","_law_allowed","_law_bounds_here","_law_words_here","_law_n","_law_some","_law_sizes","_law_word","_law_low","_law_high"]
def jV:cI:=
 gH (.b (.d .Is oK ue) (gH<|.c (.c we wg)<|.g .Sub uP<|fh (iD kE<|i_ 7)<|i_ 3)<|gH<|.b (.d .Is uP ue) (gH<|.c (.c we wg)<|g8 oK<|fh (iD kE<|i_ 7)<|i_ 3)<|gH<|.c (.c we wg)<|g8 oK<|fh (iD kE<|i_ 7)<|.h .d<|e2 (i_ 1)<|g8 (.g .Sub uP oK)<|i_ 1)
abbrev pfR:cI:=
 sH (.d (xT3 9 10 11) (.a iz) jV) (.a<|.f<|e2 (.b ud<|fh (iD kE<|i_ 4)<|gE ud)<|.u we)
def rQ:cI:=
 .cons (dD 6<|.c 1<|e2 c8 dQ) (.cons (dD 7<|.c 0<|e2 fS<|.b gk<|fh kE<|gE gk)<|.cons (dD 8 .ab)<|.cons (.b (y9 (fh (iD kE<|i_ 64)<|i_ 3)<|i_ 0) (gH<|.c (.c we<|.b (.b fU<|i_ 0)<|fh (iD kE<|i_ 192)<|i_ 3)<|.g .Sub (fh (iD kE<|i_ 600)<|i_ 7)<|i_ 2) .nil) pfR)
abbrev AZ:L Str:=["_law_script","_law_at","_law_kinds_here","_law_reading_here","_law_words_here","_law_parts","_law_i","_law_allowed","_law_bounds_here","_law_m","_law_k","_law_kind","_law_order","_law_spots_here","_law_joins","_law_word","_law_j","_law_steps","_law_n"]
abbrev uN:CS:=
 dD 18 (.c 0<|e2 c8<|g8 (g8 dQ<|i_ 8) oK)
abbrev uJ:CS:=
 .b (.l (.d .Gt (gE fU)<|i_ 1)<|y9 (fh B_<|i_ 3)<|i_ 0) (sH (dD 6<|fh (iD B_<|i_ 3)<|gE fU)<|.c (.c MK<|.f<|e3 (.b (.b iz<|i_ 1)<|fh (iD B_<|i_ 18)<|i_ 2) kE<|fh (g8 (g8 kE<|i_ 1)<|fh (iD B_<|i_ 36)<|.g .Sub (gE fU)<|i_ 1)<|gE fU)<|.e<|.c W) .nil
abbrev uT:CS:=
 .b (.l (.d .Gt (gE fU)<|i_ 0)<|y9 (fh B_<|i_ 2)<|i_ 0) (gH<|.e<|.i .f Zd<|e2 (fh (iD B_<|i_ 2)<|g8 (gE Zd)<|i_ 1)<|.f<|e2 (.b (.b iz<|i_ 2)<|fh (iD B_<|i_ 20)<|i_ 2)<|fh (iD B_<|i_ 40)<|gE fU) .nil
def kG:cI:=
 JA uN uJ uT
def kH:cI:=
 gH (.c (.c MK<|.f<|e3 xv15 (.b B9 kE)<|.b B9 xv16)<|.e<|.c W)
def kI:cI:=
 gH (.e<|.i .f rP<|e2 (fh (iD wg<|g8 (.g .Mult (i_ 5) oK)<|i_ 7)<|g8 oK<|i_ 1) oK)
def kJ:cI:=
 sH (dD 11<|.b (.b fS<|fh (iD wg<|g8 oK<|i_ 3)<|gE fS)<|i_ 0) (.e<|.i .a fU<|e1<|.c 1<|.cons c8<|.cons (g8 (g8 dQ<|i_ 6) oK)<|e4 fS (.k<|e1 uP) (.k .nil) iz)
def kK:cI:=
 sH (.f 8<|.j ["_law_row"] [6] (.r c8 (.some<|i_ 1) .none) (.a 0) (.a<|.b gk<|i_ 3)<|.some<|y9 (.b c8<|i_ 0) dQ) (.e<|.i .a fU<|e1<|.c 1<|.cons c8<|.cons (g8 dQ kE)<|e4 fS ud we iz)
def uS:cI:=
 .cons (dD 5<|.k .nil) (.cons (.d (u9 6 7) (.c<|.b gk<|i_ 0) kK)<|.cons (dD 9<|.c 0<|e2 c8<|g8 dQ<|i_ 5)<|.cons (.d (.a 10) (.b<|e1<|fh wg<|i_ 3) kJ)<|.cons (dD 12<|.k .nil)<|sq7 (.d (.a 10) (.b<|e1<|gE fU) kI) (dD 13<|.j ["_law_k"] [12] (.i .b dQ<|e1 c8) (.a 0) (.b<|e1<|gE fU) .none) (dD 14 .w) (.d (xT3 15 6 16) (.a<|.b gk<|i_ 2) kH) (.f 17<|.j ["_law_word","_law_i"] [13] (.f<|e2 c8<|.b fS dQ) (u9 0 1) (.a<|.b gk<|i_ 4) .none) (.d (.a 10) (.b<|e1<|i_ 2) kG)<|.a<|.f<|e3 (.j ["_law_k"] [5] (.b dQ c8) (.a 0) (.a rP) .none) (.h .e<|e1 MK) Zd)
abbrev Cg:L Str:=["_law_kinds_here","_law_one","_law_other","_law_kind","_law_sizes","_law_word","_law_number"]
def lN:cI:=
 sH (.b (.l (.d .In fU iz)<|.d .NotEq (.b iz fU) kE) (gH<|dD 3 ue) .nil) (.c (.c iz fU) kE)
abbrev ML:cI:=
 JB (dD 4<|.h .b<|e1<|.b dQ<|i_ 1) (.d (u9 5 6) (.a<|.b fS<|i_ 1) lN) (.b (.d .Is gk ue) (gH<|.a ue) .nil) (.a<|.f<|e2 gk<|.u iz)
def wu:cI:=
 .cons (dD 3 ue) (.cons (.b (.d .In (.b fS<|i_ 0)<|.c 0<|e2 c8<|.b dQ<|i_ 0) (gH<|dD 3<|.b dQ<|i_ 0)<|gH<|.b (.d .In (.b dQ<|i_ 0)<|.c 0<|e2 c8<|.b fS<|i_ 0) (gH<|dD 3<|.b fS<|i_ 0) .nil) ML)
abbrev JF:L Str:=["_law_script","_law_at","_law_kinds_here","_law_one","_law_other","_law_m","_law_spots_here","_law_free","_law_k","_law_i","_law_j","_law_fits"]
def oO:cI:=
 sH (dD 11<|.d .IsNot (.c 0<|e3 fS (.b (.b gk<|i_ 0) wg)<|.b (.b iz<|i_ 0) oK) ue) (.b (.l uP<|.l (.d .Lt (gE kE)<|fh (iD fU<|i_ 8)<|i_ 4)<|.d .NotIn wg<|.j ["_law_spot"] [] (.b c8<|i_ 0) (.a 0) (.a kE) .none) (sH (.e<|.i .a kE<|e1<|.f<|e2 wg oK)<|.e<|.i .e ud<|e1 oK) .nil)
def oQ:cI:=
 sH (dD 9<|fh (g8 fU we)<|gE<|.b gk<|i_ 0) (.d (.a 10) (.a<|.h .c<|e1 ud) oO)
def Ci:cI:=
 sq5 (dD 5<|.c 1<|e2 c8 dQ) (dD 6<|.k .nil) (dD 7<|.aa<|gE<|.b iz<|i_ 0) (.d (.a 8) (.b<|e1<|gE<|.b gk<|i_ 0) oQ) (.a kE)
abbrev F_:L Str:=["_law_error"]
def Ga:cI:=
 sH (.b (.n J [5,6,7,8,9] c8) (gH<|.a<|.e<|.c W) .nil) (.a<|.n J [0,1,2,3,4] c8)
abbrev Gb:L Str:=["_law_kinds_here","_law_one","_law_other","_law_spots_here","_law_i","_law_j"]
def lE:cI:=
 sH (.b (.o (.p<|.t .LtE .Lt (i_ 0) iz<|gE<|.b dQ<|i_ 0)<|.p<|.t .LtE .Lt (i_ 0) fU<|gE<|.b fS<|i_ 0) (gH<|.a<|.e<|.c J) .nil) (.b (.d .Is (.c 0<|e3 c8 (.b (.b dQ<|i_ 0) iz)<|.b (.b fS<|i_ 0) fU) ue) (gH<|.a<|.e<|.c J) .nil)
def Ao:cI:=
 JA (.b (.o (.d .Lt (.y<|.j ["_law_spot"] [] (.b c8<|i_ 0) (.a 0) (.a gk) .none)<|gE gk)<|.d .Lt (.y<|.j ["_law_spot"] [] (.b c8<|i_ 1) (.a 0) (.a gk) .none)<|gE gk) (gH<|.a<|.e<|.c J) .nil) (.d (u9 4 5) (.a gk) lE) (.a<|.e<|.c W)
abbrev MM:L Str:=["_law_script","_law_at","_law_one","_law_other","_law_spots_here","_law_n","_law_i","_law_j","_law_place"]
abbrev s4_:CS:=
 .b (y9 (fh (iD fU<|i_ 64)<|i_ 4)<|i_ 1) (gH<|dD 6<|.b (.k<|e4 (.m<|i_ 1) (gE<|.b fS<|i_ 0) (.g .Pow (i_ 10)<|i_ 30)<|.m<|gE<|.b fS<|i_ 0)<|fh (iD fU<|i_ 256)<|i_ 4) .nil
abbrev s5_:CS:=
 .b (y9 (fh (iD fU<|i_ 64)<|i_ 4)<|i_ 2) (gH<|dD 7<|.b (.k<|e4 (.m<|i_ 1) (gE<|.b gk<|i_ 0) (.m<|.g .Pow (i_ 10)<|i_ 30)<|.m<|gE<|.b gk<|i_ 0)<|fh (iD fU<|i_ 256)<|i_ 4) .nil
abbrev s6_:CS:=
 .b (.l (y9 (fh (iD fU<|i_ 64)<|i_ 4)<|i_ 3)<|.d .NotEq iz<|.k .nil) (gH<|dD 6<|.b (.b iz<|fh (iD fU<|i_ 256)<|gE iz)<|i_ 0) .nil
abbrev moR:cI:=
 sH (dD 8<|fh (iD fU<|i_ 1024)<|g8 (gE iz)<|i_ 1) (.a<|g8 (g8 (.r iz .none<|.some we)<|.k<|e1<|.f<|e2 kE ud)<|.r iz (.some we) .none)
abbrev s2_:CS:=
 dD 6 (fh fU<|.h .d<|e2 (i_ 1)<|gE<|.b fS<|i_ 0)
abbrev s3_:CS:=
 dD 7 (fh (iD fU<|i_ 8)<|.h .d<|e2 (i_ 1)<|gE<|.b gk<|i_ 0)
def EJ:cI:=
 .cons (dD 5<|.c 0<|e2 c8 dQ) (.cons s2_<|.cons s3_<|.cons s4_<|.cons s5_<|.cons s6_ moR)
abbrev MN:L Str:=["_law_kinds_here","_law_one","_law_other","_law_spots_here","_law_told_here","_law_found","e"]
abbrev ldH:cI:=
 gH (.b (.l (.n W [5] kE)<|.l (.s 6 kE)<|.p<|.n J [2,3,4] kE) (gH<|dD 4<|.q (.c 7<|e1 kE) ue<|.e<|.c J) .nil)
def EK:cI:=
 .cons (dD 4 ue) (.cons (.j 6 0 5 1 (e4 c8 dQ fS gk) 4 (.v fU .a) ldH)<|gH<|.a iz)
abbrev aam:L Str:=["_law_script","_law_kinds_here","_law_words_here","_law_reading_here","_law_one","_law_other","_law_k","_law_spots_here","_law_handed","_law_told_here"]
abbrev Py:cI:=
 JA (dD 8<|.h .c<|e1 ud) (dD 9<|.c 1<|e4 dQ iz fU we) (.b (.o (.d .NotEq wg<|.c 0<|e4 dQ iz fU ud)<|.d .NotEq we ud) (gH<|.a<|.e<|.c J) .nil)
def tG:cI:=
 .cons (dD 7<|.c 3<|.cons c8<|e4 (g8 (i_ 80) kE) dQ iz fU) (.cons (.b (.d .Gt kE<|i_ 0) (gH<|dD 7<|.c 2<|.cons c8<|e4 (g8 (i_ 100) kE) iz fU ud) .nil) Py)
abbrev lwT:cI:=
 sH (.d (.a 6) (.b<|e1<|i_ 10) tG) (.a<|.e<|.c W)
def Rt:cI:=
 .cons (dD 1<|.c 7<|e1 c8) (.cons (dD 2<|.c 6<|e1 c8)<|.cons (dD 3<|.c 5<|.cons c8<|e4 (i_ 20) dQ fS<|.e<|.c J)<|.cons (dD 4<|.c 4<|.cons c8<|e4 (i_ 40) dQ gk fS)<|.cons (dD 5<|.c 4<|.cons c8<|e4 (i_ 60) dQ gk fS) lwT)
noncomputable def iV:L Addr:=[239]
noncomputable def Ru:L Str:=["row","claim","word"]
noncomputable def Gc:L PG:=[]
def jl:L D->R D:=f9 Gc 1000 FZ 2 Al
def Cj:L PG:=[.a jl []]
def kL:L D->R D:=f9 Cj 1000 Cg 3 wu
def Gd:L PG:=[.a kL []]
def rR:L D->R D:=f9 Gd 1000 Gb 4 Ao
noncomputable def Ck:L PG:=[]
def kM:L D->R D:=f9 Ck 1000 Cb 3 wm
noncomputable def wx:L PG:=[]
def kN:L D->R D:=f9 wx 1000 Ca 3 wj
noncomputable def za:L PG:=[]
def jI:L D->R D:=f9 za 1000 y_ 1 tF
noncomputable def nA:L PG:=[]
def j0:L D->R D:=f9 nA 1000 AX 3 uQ
noncomputable def DZ:L PG:=[]
def tW:L D->R D:=f9 DZ 1000 DW 2 ym
def Ge:L PG:=[.a tW []]
def vt:L D->R D:=f9 Ge 1000 FU 3 Ai
def Gf:L PG:=[.a vt []]
def rT:L D->R D:=f9 Gf 1000 FW 3 Aj
def A0:L PG:=[.a rT []]
def jy:L D->R D:=f9 A0 1000 AY 3 uR
noncomputable def D0:L PG:=[]
def tX:L D->R D:=f9 D0 1000 DX 2 yo
def lO:L PG:=[.a tX [],.c 239]
def ig:L D->R D:=f9 lO 1000 uf 3 oN
def Gg:L PG:=[.a kM [],.a kN [],.a jI [],.a j0 [],.c 239,.a jy [],.a ig []]
def rV:L D->R D:=f9 Gg 1000 FY 4 Ak
def Rv:L PG:=[.b 177 iV,.b 158 iV,.b 139 iV,.b 63 iV,.b 215 iV,.b 44 iV,.b 101 iV,.b 196 iV,.b 120 iV,.b 82 iV]
def tY:L D->R D:=f9 (Rv.map PG.alone) 1000 F_ 1 Ga
def EL:L PG:=[.d iV,.a rV [],.b 251 iV,.b 263 iV,.b 227 iV,.b 239 iV,.f iV Ru,.g tY]
def wy:L D->R D:=f9 EL 1000 MN 4 EK
noncomputable def HR:L PG:=[]
def iB:L D->R D:=f9 HR 1000 Px 2 Dm
def MO:L PG:=[.a iB []]
def wz:L D->R D:=f9 MO 1000 MM 5 EJ
def JG:L PG:=[.a kL [],.a iB []]
def ug:L D->R D:=f9 JG 1000 JF 5 Ci
def Gh:L PG:=[.a jl []]
def m7:L D->R D:=f9 Gh 1000 F7 2 Am
def wA:L PG:=[.a m7 [],.a iB []]
def kO:L D->R D:=f9 wA 1000 Cf 6 rQ
def A1:L PG:=[.a iB [],.a kO []]
def nB:L D->R D:=f9 A1 1000 AZ 5 uS
noncomputable def Aq:L PG:=[]
def pB:L D->R D:=f9 Aq 1000 F9 1 vq
def Gi:L PG:=[.a iB [],.a jl []]
def rW:L D->R D:=f9 Gi 1000 F8 4 An
def D3:L PG:=[.a m7 [],.a iB [],.a pB [],.a rW []]
def qe:L D->R D:=f9 D3 1000 DY 5 yq
def JH:L PG:=[.a iB []]
def rq:L D->R D:=f9 JH 1000 JC 3 Cc
def JI:L PG:=[.a rq []]
def uh:L D->R D:=f9 JI 1000 JE 1 Ce
def JJ:L PG:=[.a iB [],.a rq []]
def um:L D->R D:=f9 JJ 1000 JD 1 Cd
def aao:L PG:=[.a rR [],.a wy [],.a wz [],.a ug [],.a nB [],.a qe [],.a uh [],.a um []]
def K6:L D->R D:=f9 aao 1000 aam 1 Rt
def BN:L Str:=["ValueError","all","any","dict","enumerate","int","isinstance","len","list","max","range","reversed","set","sorted","tuple"]
def Gj:FD:=#["_law_uppers",top 35,FZ,2,[]]
theorem Rw:Gj.kD BN Al=W:=by rfl
def Cn:FD:=#["_law_one_part",top 43,Cg,3,["_law_uppers"]]
def MP:Cn.kD BN wu=W:=by decide +kernel
def Gk:FD:=#["_law_stands",top 46,Gb,4,["_law_one_part"]]
def Rx:Gk.kD BN Ao=W:=by decide +kernel
def Co:FD:=#["steps_laid",top 23,Cb,3,[]]
def MQ:Co.kD BN wm=W:=by decide +kernel
def Cp:FD:=#["joins_laid",top 22,Ca,3,[]]
def MR:Cp.kD BN wj=W:=by decide +kernel
def zb:FD:=#["parts_copied",top 26,y_,1,[]]
def HS:zb.kD BN tF=W:=by decide +kernel
def A2:FD:=#["places_laid",top 21,AX,3,[]]
def Kf:A2.kD BN uQ=W:=by decide +kernel
def D4:FD:=#["uppers_of",top 18,DW,2,[]]
theorem N6:D4.kD BN ym=W:=by rfl
def Gm:FD:=#["is_under",top 17,FU,3,["uppers_of"]]
def Ry:Gm.kD BN Ai=W:=by decide +kernel
def Gn:FD:=#["lower_of",top 19,FW,3,["is_under"]]
def Rz:Gn.kD BN Aj=W:=by decide +kernel
def A3:FD:=#["part_shared",top 29,AY,3,["lower_of"]]
def Kg:A3.kD BN uR=W:=by decide +kernel
def D5:FD:=#["are_parts",top 28,DX,2,[]]
def N7:D5.kD BN yo=W:=by decide +kernel
def uo:FD:=#["refuse_bad_spots",top 27,uf,3,["are_parts","NoFit"]]
def Cq:uo.kD BN oN=W:=by decide +kernel
def Gp:FD:=#["together",top 25,FY,4,["steps_laid","joins_laid","parts_copied","places_laid","NoFit","part_shared","refuse_bad_spots"]]
def RA:Gp.kD BN Ak=W:=by decide +kernel
def Gq:FD:=#["_law_others",top 45,F_,1,["NoRange","NotUnder","TooBig","Twice","TwoGrounds","BadRow","NoClaim","NoGround","NoKind","NoPart"]]
def N8:Gq.Zc BN Ga=W:=by decide +kernel
def MS:FD:=#["_law_told",top 48,MN,4,["ClaimError","together","NoChange","NotOwn","TooMany","NoFit","$x","_law_others"]]
def Ze:MS.kD BN EK=W:=by decide +kernel
def Pz:FD:=#["_law_mix",top 31,Px,2,[]]
theorem acu:Pz.kD BN Dm=W:=by rfl
def MT:FD:=#["_law_more",top 47,MM,5,["_law_mix"]]
def Zf:MT.kD BN EJ=W:=by decide +kernel
def JK:FD:=#["_law_spots",top 44,JF,5,["_law_one_part","_law_mix"]]
def Vm:JK.kD BN Ci=W:=by decide +kernel
def Gr:FD:=#["_law_lowers",top 36,F7,2,["_law_uppers"]]
theorem RB:Gr.kD BN Am=W:=by rfl
def Cr:FD:=#["_law_part_for",top 40,Cf,6,["_law_lowers","_law_mix"]]
theorem MU:Cr.kD BN rQ=W:=by rfl
def A4:FD:=#["_law_thing_for",top 41,AZ,5,["_law_mix","_law_part_for"]]
theorem Kh:A4.kD BN uS=W:=by rfl
def Gs:FD:=#["_law_bounds",top 38,F9,1,[]]
theorem RC:Gs.kD BN vq=W:=by rfl
def Gu:FD:=#["_law_groups",top 37,F8,4,["_law_mix","_law_uppers"]]
theorem RD:Gu.kD BN An=W:=by rfl
def D6:FD:=#["_law_reading",top 39,DY,5,["_law_lowers","_law_mix","_law_bounds","_law_groups"]]
theorem N9:D6.kD BN yq=W:=by rfl
def JL:FD:=#["_law_names",top 32,JC,3,["_law_mix"]]
theorem Vn:JL.kD BN Cc=W:=by rfl
def JM:FD:=#["_law_words",top 34,JE,1,["_law_names"]]
theorem Vo:JM.kD BN Ce=W:=by rfl
def JN:FD:=#["_law_kinds",top 33,JD,1,["_law_mix","_law_names"]]
theorem Vp:JN.kD BN Cd=W:=by rfl
def xF:FD:=#["law",top 49,aam,1,["_law_stands","_law_told","_law_more","_law_spots","_law_thing_for","_law_reading","_law_words","_law_kinds"]]
theorem agF:xF.kD BN Rt=W:=by rfl
end Tr
end
section
namespace K2
open PySem L2 L3
def Ct{β:Type}{g:D->a_->R a_}{b:a_->Fl}(enc:β->D)(xs:L β)(I:L β->a_->Prop)(h:∀pre x post,xs=pre++x::post->∀U,I pre U->∃σ2 σ3,g (enc x) U=.c σ2/\b σ2=.a σ3/\I (pre++[x]) σ3)(U:a_)(h0:I [] U):∃σ',forR g b (xs.map enc) U=.a σ'/\I xs σ':=by
 have go:∀(post pre:L β) (U:a_),xs=pre++post->I pre U->∃σ',forR g b (post.map enc) U=.a σ'/\I xs σ':=by
  intro post;induction post with
  |nil=>intro pre U e hi;rw[e,dS];exact#[U,rfl,hi]
  |cons x r ih=>
   intro pre U e hi;let#[σ2,σ3,h1,h2,h3]:=h pre x r e U hi;let#[σ',h4,h5]:=ih (pre++[x]) σ3 (by rw[e,bR];rfl) h3;refine#[σ',?_,h5];rw[bB];show(g (enc x) U).bG _=_;rw[h1];simp only[R.bG,h2];exact h4
 exact go xs [] U rfl h0
end K2
end
section
namespace K3
open PySem L2 L3 Tr
theorem oM{β:Type}{f:β->D}(h:∀x,aV (f x)=W):∀l:L β,b9 (l.map f)=W
|[]=>rfl
|x::r=>by
 show(aV (f x)&&b9 (r.map f))=W;rw[h,oM h r];rfl
theorem fzM{β:Type}{f g:β->D}(h:∀x,bW (f x)=g x):∀l:L β,aH (l.map f)=l.map g
|[]=>rfl
|x::r=>by
 show bW (f x)::aH (r.map f)=_;rw[h,fzM h r];rfl
theorem Vq{β:Type}(f:β->D)(n:Nat):∀l:L β,(∀x,oB (f x) n=W)->j8 (l.map f) n=W
|[],_=>rfl
|x::r,h=>aS.mpr #[h x,Vq f n r h]
def fN(l:L Int):aH (l.map D.a)=l.map D.a:=f7 _ (λ_=>rfl) l
def cO(l:L Str):aH (l.map D.c)=l.map D.c:=f7 _ (λ_=>rfl) l
def cN(ns):bW (bA ns)=bA ns:=by
 show D.b J (aH _)=_;rw[fN];rfl
def c_(a){b:Int}(h:0<b):0<=a%b/\a%b<b:=#[Int.emod_nonneg _<|by lia,Int.emod_lt_of_pos _ h]
def gR{α:Type}(xs:L α)(i:Int)(h0:0<=i)(h1:i<zl xs):∃j,∃(h:j<zl xs),i=(j)/\fq xs i=M xs[j]:=by
 let#[j,rfl]:=Int.eq_ofNat_of_zero_le h0;have hj:j<zl xs:=by lia
 refine#[j,hj,rfl,FI ?_<|aB hj];unfold nS;simp;omega
noncomputable def HU(c k:Int):Int:=(c%1000000007+7*k+1)*(48271+97*k*k)%2147483629*((c%1000000007+7*k+1)*(48271+97*k*k)%2147483629)%2147483587
def K7(c k):0<=HU c k/\HU c k<2147483587:=c_ _<|by decide
def m8(ns)(k)(hk:0<=k/\k<2 ^ 20):∃m:Int,0<=m/\m<2147483587/\iB [bA ns,.a k]=.c (.a m):=by
 by_cases h:zl ns=0
 .refine#[HU 0 k,(K7 _ _).1,(K7 _ _).2,?_];have e:decide ((0:Int)<(zl ns:Int))=J:=aK (by lia);unfold iB Dm HR bA HU;erw[e,fN]
 .obtain⟨b0,b1⟩:=c_ k (b:=(zl ns:Int)) (by lia);let#[j,hj,ej,ea]:=gR (ns.map D.a) (k%(zl ns:Int)) b0 (by rw[ai];exact b1);rw[cR]at ea;refine#[HU (ns[j]'(by simp_all)) k,(K7 _ _).1,(K7 _ _).2,?_];have e:decide ((0:Int)<(zl ns:Int))=W:=aA (by lia);have hp:(0:Int)<(zl ns:Int):=by lia
  unfold iB Dm HR bA HU;erw[e,ea,fN]
noncomputable abbrev tH:Str:="bdfgjkmpqrvwxyz"
def Dn:zl tH.cps.toList=15:=by decide
def str_len(x y:Str):(x++y).length=x.length+y.length:=by
 show(x.cps++y.cps).size=_;rw[Array.size_append];rfl
def yT(l:L Nat)(a b):zl (cut l a b)<=zl l:=by
 unfold cut;simp
 lia
def vv(m:Int)(stem:L Nat)(at_:Int)(j:Nat):Str:=
 (⟨(cut stem B<|M at_).toArray⟩++⟨#[(fq tH.cps.toList<|(m / 375+(j:Int))%15).getD 0]⟩)++⟨(cut stem (M at_) B).toArray⟩
def Vr{m:Int}{stem:L Nat}{at_:Int}{i j:Nat}(hi:i<15)(hj:j<15)(h:vv m stem at_ i=vv m stem at_ j):i=j:=by
 have h1:(vv m stem at_ i).cps.toList=(vv m stem at_ j).cps.toList:=by rw[h]
 have e:∀k:Nat,(vv m stem at_ k).cps.toList=cut stem B (M at_)++([(fq tH.cps.toList<|(m / 375+(k:Int))%15).getD 0]++cut stem (M at_) B):=λk=>by
  show(((cut stem B<|M at_).toArray++#[_])++(cut stem (M at_) B).toArray).toList=_;rw[sO,sO,bR]
 rw[e,e]at h1;have h2:=List.append_cancel_left h1;have h3:=(acV h2).1;let#[c0,c1]:=c_ (m / 375+(i:Int)) (b:=15) (by decide);let#[d0,d1]:=c_ (m / 375+(j:Int)) (b:=15) (by decide);let#[a,ha,ea,qa]:=gR tH.cps.toList ((m / 375+(i:Int))%15) c0 (by rw[Dn];exact c1);let#[b,hb,eb,qb]:=gR tH.cps.toList ((m / 375+(j:Int))%15) d0 (by rw[Dn];exact d1);rw[qa,qb]at h3;have h4:=(ET<|by decide).mp h3
 lia
def Dp(ns)(k many)(hk:0<=k/\k<2 ^ 20)(hm:0<=many/\many<=9):∃ss:L Str,(ss.length:Int)=many/\ss.Nodup/\(∀s∈ss,1<=s.length/\s.length<=20)/\rq [bA ns,.a k,.a many]=.c (.b W<|ss.map D.c):=by
 let#[m,m0,m1,qm]:=m8 ns k hk;have hs:=szl;let#[c0,c1]:=c_ m (b:=15) (by decide);let#[j,hj,ej,ea]:=gR tH.cps.toList (m%15) c0 (by rw[Dn];exact c1);let#[d0,d1]:=c_ (m / 15) (b:=5) (by decide);generalize hst:yW ⟨#[tH.cps.toList[j]]⟩ (m / 15%5).toNat=stem;have lst:stem.length<=5:=by
  rw[<-hst];unfold yW jq;simp
  lia
 refine#[(bg many.toNat).map<|vv m stem.cps.toList<|m / 75%((stem.length:Int)+1),by simp;lia,j7.mpr (w9 (λ{i j} hi hj hne h=>hne (Vr (by have:=fO.mp hi;lia) (by have:=fO.mp hj;lia) h))<|w_),?_,?_]
 .intro s hs';let#[i,_,rfl]:=bK.mp hs';have h1:=yT stem.cps.toList B<|M<|m / 75%((stem.length:Int)+1);have h2:=yT stem.cps.toList (M<|m / 75%((stem.length:Int)+1)) B;have h3:stem.cps.toList.length=stem.length:=rfl;unfold vv;rw[str_len,str_len];simp only[jq,aT,eY,lU]at *;constructor<;>(simp;lia)
 .have hr:0<=m / 15%5/\m / 15%5<2 ^ 40/\(jq ⟨#[tH.cps.toList[j]]⟩)*(m / 15%5).toNat<=ao:=#[d0,by lia,by rw[hs];show 1*_<=_;lia];unfold rq Cc JH;erw[cN,qm,ea,hst];generalize hat:m / 75%((stem.length:Int)+1)=at_;rw[show gj 0 many.toNat=(bg many.toNat).map (λi:Nat=>D.a<|0+(i:Int))from rfl,lK (λi:Nat=>D.a<|0+(i:Int)) (λU=>∃o,U=[o,M<|.c tH,M<|.a m,M<|.c stem,M<|.a at_]) (λi=>D.c<|vv m stem.cps.toList at_ i) (bg many.toNat) _ #[B,rfl] (by
   rintro i _ U ⟨o,rfl⟩;refine#[[M<|.a<|0+(i:Int),M<|.c tH,M<|.a m,M<|.c stem,M<|.a at_],rfl,#[_,rfl],?_];let#[c0,c1]:=c_ (m / 375+(i:Int)) (b:=15) (by decide);let#[j2,hj2,ej2,ea2]:=gR tH.cps.toList ((m / 375+(i:Int))%15) c0 (by rw[Dn];exact c1);have h1:=yT stem.cps.toList B<|M at_;have h2:=yT stem.cps.toList (M at_) B;have h3:stem.cps.toList.length=stem.length:=rfl;have l1:(jq ⟨(cut stem.cps.toList B<|M at_).toArray⟩)+(jq ⟨#[tH.cps.toList[j2]]⟩)<=ao:=by
    rw[hs];simp only[jq,aT]at *;simp;lia
   have l2:(jq<|⟨(cut stem.cps.toList B<|M at_).toArray⟩++⟨#[tH.cps.toList[j2]]⟩)+(jq ⟨(cut stem.cps.toList (M at_) B).toArray⟩)<=ao:=by
    rw[str_len,hs];simp only[jq,aT]at *;simp;lia
   unfold vv;erw[ea2,E4,sC])]
  erw[];rw[bV];rfl
def j_{g:D->a_->R a_}{b:a_->Fl}(n)(I:Nat->a_->Prop)(h:∀k<n,∀U,I k U->∃σ2 σ3,g (.a<|k) U=.c σ2/\b σ2=.a σ3/\I (k+1) σ3)(U:a_)(h0:I 0 U):∃σ',forR g b (gj 0 n) U=.a σ'/\I n σ':=by
 have e:gj 0 n=(yL 0 n).map λk:Nat=>D.a (k:Int):=by
  unfold gj;rw[AL];simp
 have go:∀(m j:Nat) (U:a_),j+m=n->I j U->∃σ',forR g b ((yL j m).map λk:Nat=>D.a (k:Int)) U=.a σ'/\I n σ':=by
  intro m;induction m with
  |zero=>intro j U hj hi;rw[show n=j by lia];exact#[U,rfl,hi]
  |succ m ih=>
   intro j U hj hi;let#[σ2,σ3,h1,h2,h3]:=h j (by lia) U hi;let#[σ',h4,h5]:=ih (j+1) σ3 (by lia) h3;refine#[σ',?_,h5];rw[E6,bB];show(g (.a (j:Int)) U).bG _=_;rw[h1];simp only[R.bG,h2];exact h4
 rw[e];exact go n 0 U (by lia) h0
def jS(s:Str):Prop:=s.length<=20
noncomputable def D7(p:Str×Str):D:=.d [.c p.1,.c p.2]
abbrev cS(ks:L<|Str×Str):L D:=ks.map D7
def fE(ks):aH (cS ks)=cS ks:=f7 D7 (λ_=>rfl) ks
def kP(l:L Str):b9 (l.map D.c)=W:=oM (λ_=>rfl) l
def o_ks(ks):b9 (cS ks)=W:=oM (λ_=>rfl) ks
def Hf{α:Type}{xs:L α}{j:Nat}{x:α}(h:xs[j]?=M x):fq xs (j)=M x:=by
 have hj:j<zl xs:=by grind
 refine FI ?_ h;unfold nS;simp;omega
def acv(ns):∃a b c:L Str,a.length=3/\b.length=2/\c.length=2/\(∀s∈a,jS s)/\(∀s∈b,jS s)/\(∀s∈c,jS s)/\uh [bA ns]=.c (.d [.b W<|a.map D.c,.b W<|b.map D.c,.b W<|c.map D.c]):=by
 let#[a,a1,_,a2,qa]:=Dp ns 12 3 (by lia) (by lia);let#[b,b1,_,b2,qb]:=Dp ns 13 2 (by lia) (by lia);let#[c,c1,_,c2,qc]:=Dp ns 14 2 (by lia) (by lia);refine#[a,b,c,by lia,by lia,by lia,λs h=>(a2 s h).2,λs h=>(b2 s h).2,λs h=>(c2 s h).2,?_];have hs:=szl;unfold uh Ce JI;erw[cN,qa,qb,qc,kP]
structure u_ (ks:L (Str×Str)):Prop where
 l3:3<=zl ks
 l8:zl ks<=8
 ho:∀p∈ks,jS p.1/\jS p.2
 nd:(ks.map (·.1)).Nodup
 gd:∀(i:Nat) (p:Str×Str),ks[i]?=M p->p.2=""\/p.2∈(ks.map (·.1)).take i
def acw(ns):∃ks:L<|Str×Str,u_ ks/\um [bA ns]=.c (.b W<|cS ks):=by
 let#[m1,m10,m11,q1]:=m8 ns 1 (by lia);have b6:=c_ m1 (b:=6) (by decide);let#[ss,sl,snd,sb,qn]:=Dp ns 2 (3+m1%6) (by lia) (by lia);have hs:=szl;have rg:-(2 ^ 62)<=3+m1%6/\(3+m1%6).toNat<=ao:=by lia
 unfold um Cd;unfold JJ;erw[cN,q1,qn,kP];let#[σ',h1,ks,kv,mv,uv,hl,hk,he,hg,rfl]:=j_ (g:=pG<|.a 4) (3+m1%6).toNat
  (λk U=>∃(ks:L<|Str×Str) (kv mv uv:aah D),ks.length=k/\(∀p∈ks,jS p.1/\jS p.2)/\ks.map (·.1)=ss.take k/\(∀(i:Nat) (p:Str×Str),ks[i]?=M p->p.2=""\/p.2∈ss.take i)/\U=[M<|bA ns,M<|.a<|3+m1%6,M<|.b W<|ss.map D.c,M<|.b W<|cS ks,kv,mv,uv]) (by
  rintro k hk U ⟨ks,kv,mv,uv,hl,hp,he,hg,rfl⟩;let#[m,m0,m1',qm]:=m8 ns (3+(k:Int)) (by lia);refine#[[M<|bA ns,M<|.a<|3+m1%6,M<|.b W<|ss.map D.c,M<|.b W<|cS ks,M<|.a k,mv,uv],?_];have hkl:k<ss.length:=by lia
  have ek:fq (ss.map D.c) (k:Int)=M (D.c ss[k]):=Hf (by rw[bz,aB hkl];rfl);have hkn:(cS ks).length<ao:=by rw[ai];lia
  suffices hh:∃u:Str,jS u/\(u=""\/u∈ss.take k)/\b_ [PG.a iB [],PG.a rq []] 1000 wo [M<|bA ns,M<|.a<|3+m1%6,M<|.b W<|ss.map D.c,M<|.b W<|cS ks,M<|.a k,mv,uv]=Fl.a [M<|bA ns,M<|.a<|3+m1%6,M<|.b W<|ss.map D.c,M<|.b W<|cS<|ks++[(ss[k],u)],M<|.a k,M<|.a m,M<|.c u]by
   let#[u,hu,hu2,he2]:=hh;refine#[_,rfl,he2,ks++[(ss[k],u)],_,_,_,by simp[hl],λp hp'=>?_,?_,λi p hip=>?_,rfl]
   rotate_left
   .rw[be,he,oY,List.take_succ_eq_append_getElem hkl]
   .rcases Nat.lt_trichotomy i ks.length with q|q|q
    .exact hg i p (by rwa[fc q]at hip)
    .subst q;rw[List.getElem?_concat_length]at hip;cases hip;rw[hl];exact hu2
    .rw[jZ (by simp;lia)]at hip;cases hip
   rcases bC.mp hp' with q|q
   .exact hp p q
   .rw[aL.mp q];exact#[(sb _<|bY hkl).2,hu]
  unfold wo;have fin:∀u:Str,cS ks++[D.d [.c ss[k],.c u]]=cS (ks++[(ss[k],u)]):=λu=>by simp[cS,D7]
  erw[cN,qm];by_cases c1:(0:Int)<(k:Int)
  .rw[aA c1];erw[];by_cases c2:(0:Int)<m%4
   .rw[aA c2];let#[b1,b2]:=c_ (m / 4) c1;let#[j,hj,ej,ea]:=gR (ss.map D.c) (m / 4%(k:Int)) b1 (by rw[ai];lia);rw[cR]at ea;refine#[ss[j]'(by simpa using hj),(sb _<|bY _).2,.inr (List.mem_take_iff_getElem.mpr #[j,by have:j<k:=(by lia);simp;lia,rfl]),?_];erw[ea,ek,cO];rw[i9 rfl hkn rfl];erw[fin]
   .rw[aK c2];refine#["",(by unfold jS;decide),.inl rfl,?_];erw[ek,cO];rw[i9 rfl hkn rfl];erw[fin]
  .rw[aK c1];refine#["",(by unfold jS;decide),.inl rfl,?_];erw[ek,cO];rw[i9 rfl hkn rfl];erw[fin]) [M<|bA ns,M<|.a<|3+m1%6,M<|.b W<|ss.map D.c,M<|.b W [],B,B,B] #[[],_,_,_,rfl,λp hp=>aC hp aO,by simp,λi p hip=>by simp at hip,rfl]
 have hss:ss.take (3+m1%6).toNat=ss:=gD (by lia);rw[hss]at he;refine#[ks,#[by lia,by lia,hk,he▸snd,by rw[he];exact hg],?_];rw[h1];erw[]
def zS{α:Type}(xs)(x:α):fq (xs++[x]) (-1)=M x:=by
 have e:nS (zl<|xs++[x]) (-1)=M (zl xs):=by
  unfold nS;rw[aE<|by decide];simp only[aW,eY,lU]
  (rw[aQ<|by lia];congr 1;lia)
 unfold fq;rw[e];simp
theorem Ar{β:Type}{g:D->a_->R a_}{c:a_->R Bool}{e:a_->R D}(enc:β->D)(I:a_->Prop)(T:β->Bool->Prop)(f:β->D):∀(xs:L β) (U:a_),I U->(∀x∈xs,∀U,I U->∃σ2 b,g (enc x) U=.c σ2/\I σ2/\c σ2=.c b/\T x b/\e σ2=.c (f x))->
 ∃ys:L β,eB g c e (xs.map enc) U=.c (ys.map f)/\ys.Sublist xs/\(∀y∈ys,T y W)/\∀x∈xs,(∀b,T x b->b=W)->x∈ys
|[],U,_,_=>#[[],rfl,.slnil,λ_ h=>aC h aO,λ_ h=>aC h aO]
|x::r,U,hi,h=>by
 let#[σ2,b,h1,h2,h3,h4,h5]:=h x aD U hi;let#[ys,i1,i2,i3,i4]:=Ar enc I T f r σ2 h2 λy hy=>h y<|az _ hy;have ih:=i1;cases b with
 |true=>
  refine#[x::ys,?_,List.cons_sublist_cons.mpr i2,λy hy=>?_,λy hy hT=>?_]
  .show(g (enc x) U).bind _=_;rw[h1];simp only[R.bind,h3,ki,h5,ih];rfl
  .rcases aY.mp hy with q|q
   .rw[q];exact h4
   .exact i3 y q
  .rcases aY.mp hy with q|q
   .rw[q];exact aD
   .exact az _ (i4 y q hT)
 |false=>
  refine#[ys,?_,i2.trans<|List.sublist_cons_self x r,i3,λy hy hT=>?_]
  .show(g (enc x) U).bind _=_;rw[h1];simp only[R.bind,h3,cJ,kQ];exact ih
  .rcases aY.mp hy with q|q
   .subst q;exact aC (hT J h4) aN
   .exact i4 y q hT
noncomputable def iG:L (Str×Str)->Str->L Str
|[],a=>[a]
|p::r,a=>if p.1=a/\p.2≠"" then a::iG r p.2 else iG r a
theorem PC:∀(l) (a),a∈iG l a
|[],a=>aD
|p::r,a=>by
 unfold iG;split
 .simp
 .exact PC r a
theorem HV:∀(l) (a),zl (iG l a)<=zl l+1
|[],a=>aM _
|p::r,a=>by
 unfold iG;split
 .have:=HV r p.2;simp;omega
 .have:=HV r a;simp;lia
theorem MV:∀(l) (a),(∀p∈l,jS p.1/\jS p.2)->jS a->∀s∈iG l a,jS s
|[],a,_,ha,s,h=>by rw[aL.mp h];exact ha
|p::r,a,h,ha,s,hs=>by
 unfold iG at hs;split at hs
 .rcases aY.mp hs with q|q
  .simp_all
  .exact MV r _ (λx hx=>h x<|az _ hx) (h p aD).2 s q
 .exact MV r _ (λx hx=>h x<|az _ hx) ha s hs
def aap(ks)(hk:zl ks<=8)(a):jl [.b J<|cS ks,.c a]=.c (.b W<|(iG ks.reverse a).map D.c):=by
 have hs:=szl;unfold jl Al Gc;erw[fE];rw[<-qU];let#[σ',h1,row,l,nv,uv,r2,r3,rfl]:=K2.Ct (g:=pG<|.b #v[.a 3,.a 4]) (b:=b_ [] 1000 qE) D7 ks.reverse
  (λpre U=>∃(row:L Str) (l:Str) (nv uv:aah D),zl row<=zl pre/\(∀post,ks.reverse=pre++post->row++iG post l=iG ks.reverse a)/\U=[M<|.b J<|cS ks,M<|.c a,M<|.b W<|(row++[l]).map D.c,nv,uv]) (by
  rintro pre ⟨x,y⟩ post hx U ⟨row,l,nv,uv,r2,r3,rfl⟩;have hpl:zl pre<8:=by
   have:=qQ Ov hx;simp at this
   lia
  have r4:=r3 _ hx;have hN:∀post',ks.reverse=pre++[(x,y)]++post'->post'=post:=λpost' h=>by simp_all
  have el:fq ((row++[l]).map D.c) (-1)=M (D.c l):=by
   rw[be];exact zS _ _
  have hlen:zl ((row++[l]).map D.c)<ao:=by simp;lia
  have fr:aH ((row++[l]).map D.c)=(row++[l]).map D.c:=cO _;by_cases c:x=l/\y≠""
  .refine#[[M<|.b J<|cS ks,M<|.c a,M<|.b W<|(row++[l]).map D.c,M<|.c x,M<|.c y],_,rfl,?_,row++[l],y,M<|.c x,M<|.c y,by simp;omega,λpost' h=>?_,rfl]
   .have c1:(x==l)=W:=by rw[jP];exact c.1
    have c2:(y==o5 "")=J:=by rw[fX];exact c.2
    rw[be (l₁:=row++[l])];generalize(row++[l]).map D.c=RR at el hlen fr ⊢;unfold qE;erw[el,fr,c1,c2];rw[i9 rfl hlen rfl];erw[]
   .rw[hN post' h,<-r4];rw[show iG ((x,y)::post) l=l::iG post y from aQ c,bR];rfl
  .refine#[[M<|.b J<|cS ks,M<|.c a,M<|.b W<|(row++[l]).map D.c,M<|.c x,M<|.c y],_,rfl,?_,row,l,M<|.c x,M<|.c y,by simp;lia,λpost' h=>?_,rfl]
   .generalize(row++[l]).map D.c=RR at el hlen fr ⊢;unfold qE;by_cases c1:(x==l)=W
    .have c2:(y==o5 "")=W:=by
      rw[jP]at c1 ⊢;exact jd λz=>c #[c1,z]
     erw[el,fr,c1,c2]
    .rw[kW]at c1;erw[el,fr,c1]
   .rw[hN post' h,<-r4];rw[show iG ((x,y)::post) l=iG post l from aE c]) [M<|.b J<|cS ks,M<|.c a,M<|.b W [.c a],B,B] #[[],a,B,B,by simp,λpost h=>by rw[h];rfl,rfl]
 have r4:=r3 [] (by simp);rw[h1];erw[];rw[<-r4];rfl
def MW(ks)(hk:zl ks<=8)(ho:∀p∈ks,jS p.1/\jS p.2)(a)(ha:jS a):∃row:L Str,a∈row/\zl row<=9/\(∀s∈row,jS s)/\jl [.b J<|cS ks,.c a]=.c (.b W<|row.map D.c):=
 #[_,PC _ _,by have:=HV ks.reverse a;simp at this;lia,MV _ _ (λp h=>ho p<|qV.mp h) ha,aap ks hk a]
def HW(l:L Str):mF (l.map D.c)=W:=Vq D.c 12 l λ_=>rfl
def Zg{a:Str}{l:L Str}(h:a∈l):memD (.c a) (l.map D.c)=W:=by
 unfold memD;rw[w5,dX];refine#[a,h,?_];show(a==a)=W;simp
def MX(ks:L<|Str×Str)(hk:zl ks<=8)(ho:∀p∈ks,jS p.1/\jS p.2)(a:Str)(ha:a∈ks.map (·.1)):∃ys:L Str,ys≠[]/\zl ys<=8/\(∀s∈ys,s∈ks.map (·.1))/\m7 [.b J<|cS ks,.c a]=.c (.b W<|ys.map D.c):=by
 have hs:=szl;let#[p0,hp0,ep0]:=bK.mp ha;unfold m7 Am Gh;erw[fE];let#[ys,h1,h2,h3,h4]:=Ar (g:=pG<|.b #v[.a 0,.a 1]) (c:=pT [PG.a jl []]<|.d .In (.a 3)<|.c 0 #v[.a 2,.a 0]) (e:=pE [PG.a jl []]<|.a 0) D7
  (λU=>∃o1 o2,U=[o1,o2,M<|.b J<|cS ks,M<|.c a]) (λx b=>x.1=a->b=W) (λx=>D.c x.1) ks [B,B,M<|.b J<|cS ks,M<|.c a] #[_,_,rfl] (by
  rintro⟨x,y⟩ hx U ⟨o1,o2,rfl⟩;let#[row,r1,r2,r3,qu]:=MW ks hk ho x (ho _ hx).1;refine#[[M<|.c x,M<|.c y,M<|.b J<|cS ks,M<|.c a],memD (.c a)<|row.map D.c,?_,#[_,_,rfl],?_,?_,?_]
  .unfold D7;erw[]
  .have nn:=HW row;erw[qu,fE];rw[EI rfl nn];rfl
  .intro e;subst e;exact Zg r1
  .erw[])
 refine#[ys.map (·.1),?_,by rw[ai];exact fB h2.length_le hk,λs hs'=>?_,?_]
 .have:=h4 p0 hp0 λb hb=>hb ep0;intro z;rw[Bl]at z;rw[z]at this;cases this
 .obtain⟨y,hy,rfl⟩:=bK.mp hs';exact bK.mpr #[y,h2.subset hy,rfl]
 .rw[h1];erw[];rw[bV];rfl
mutual
noncomputable def pl:D->Nat->Bool
|.g,_=>W
|.e _,_=>W
|.a _,_=>W
|.c _,_=>W
|.d xs,n=>match n with
 |0=>J
 |n+1=>MY xs n
|_,_=>J
noncomputable def MY:L D->Nat->Bool
|[],_=>W
|d::r,n=>pl d n&&MY r n
end
mutual
theorem afk:∀(d:D) (n:Nat),pl d n=W->bW d=d/\aV d=W/\k_ d d=W/\∀m,n<=m->oB d m=W
|.g,n,h=>#[rfl,rfl,rfl,λ_ _=>rfl]
|.e b,n,h=>#[rfl,rfl,jL b,λ_ _=>rfl]
|.a i,n,h=>#[rfl,rfl,jL i,λ_ _=>rfl]
|.c x,n,h=>#[rfl,rfl,jL x,λ_ _=>rfl]
|.d xs,0,h=>by cases h
|.d xs,n+1,h=>by
 let#[h1,h2,h3,h4]:=rA xs n h;refine#[by show D.d (aH xs)=_;rw[h1],h2,h3,λm hm=>?_];obtain⟨k,rfl⟩:∃k,m=k+1:=#[m-1,by omega];exact h4 k<|by omega
|.b _ _,n,h=>by cases h
|.h _ _ _,n,h=>by cases h
theorem rA:∀(ds:L D) (n:Nat),MY ds n=W->aH ds=ds/\b9 ds=W/\nL ds ds=W/\∀m,n<=m->j8 ds m=W
|[],n,h=>#[rfl,rfl,rfl,λ_ _=>rfl]
|d::r,n,h=>by
 have h:pl d n=W/\MY r n=W:=aS.mp h;let#[a1,a2,a3,a4]:=afk d n h.1;let#[b1,b2,b3,b4]:=rA r n h.2;exact#[by show bW d::aH r=_;rw[a1,b1],aS.mpr #[a2,b2],aS.mpr #[a3,b3],λm hm=>aS.mpr #[a4 m hm,b4 m hm]]
end
def zc{ds:L D}{n:Nat}(h:∀d∈ds,pl d n=W):MY ds n=W:=by
 induction ds with
 |nil=>rfl
 |cons d r ih=>exact aS.mpr #[h d aD,ih λx hx=>h x<|az _ hx]
def N_{g:D->a_->R a_}{b:a_->Fl}(n)(I:Nat->a_->Prop)(h:∀k<n,∀U,I k U->∃σ2 σ3,g (.a (k)) U=.c σ2/\(b σ2=.a σ3\/b σ2=.e σ3)/\I (k+1) σ3)(U:a_)(h0:I 0 U):∃σ',forR g b (gj 0 n) U=.a σ'/\I n σ':=by
 have e:gj 0 n=(yL 0 n).map λk:Nat=>D.a (k:Int):=by
  unfold gj;rw[AL];simp
 have go:∀(m j:Nat) (U:a_),j+m=n->I j U->∃σ',forR g b ((yL j m).map λk:Nat=>D.a (k:Int)) U=.a σ'/\I n σ':=by
  intro m;induction m with
  |zero=>intro j U hj hi;rw[show n=j by lia];exact#[U,rfl,hi]
  |succ m ih=>
   intro j U hj hi;let#[σ2,σ3,h1,h2,h3]:=h j (by lia) U hi;let#[σ',h4,h5]:=ih (j+1) σ3 (by lia) h3;refine#[σ',?_,h5];rw[E6,bB];show(g (.a (j:Int)) U).bG _=_;rw[h1];rcases h2 with h2|h2<;>(simp only[R.bG,h2];exact h4)
 rw[e];exact go n 0 U (by lia) h0
theorem l6{β:Type}{g:D->a_->R a_}{e:a_->R D}(enc:β->D)(I:a_->Prop)(T:D->Prop):∀(xs:L β) (U:a_),I U->(∀x∈xs,∀U,I U->∃σ2 y,g (enc x) U=.c σ2/\I σ2/\e σ2=.c y/\T y)->
 ∃ys:L D,eB g (λ_=>.c W) e (xs.map enc) U=.c ys/\zl ys=zl xs/\∀y∈ys,T y
|[],U,_,_=>#[[],rfl,rfl,λ_ h=>aC h aO]
|x::r,U,hi,h=>by
 let#[σ2,y,h1,h2,h3,h4]:=h x aD U hi;let#[ys,i1,i2,i3]:=l6 enc I T r σ2 h2 λy hy=>h y<|az _ hy;refine#[y::ys,?_,by simp[i2],λz hz=>?_]
 .show(g (enc x) U).bind _=_;rw[h1];simp only[R.bind,ki,h3,i1]
 .grind
noncomputable def oD:aah Int->D
|none=>.g
|some i=>.a i
def p9:(10:Int) ^ (9:Int).toNat=1000000000:=by decide
def c9:sU 10 9:=by unfold sU;decide
def c19:sU 10 19:=by unfold sU;decide
def Bo(lo hi:aah Int):Prop:=lo=B->hi≠B
def Zh(n)(h0:0<=n)(h1:n<2147483587):∃lo hi:aah Int,Bo lo hi/\pB [.a n]=.c (.d [oD lo,oD hi]):=by
 have hs:=szl;have q9:=c9;have q19:=c19;have qm:sV (n-10 ^ (9:Int).toNat) (10 ^ (19:Int).toNat):=.inl (by rw[p9];lia);have fz:∀l:Int,aH [D.d [.g,.a l]]=[D.d [.g,.a l]]:=λ_=>rfl;have last:∀l:Int,∃lo hi:aah Int,Bo lo hi/\uO (b_ [] 1000 #v[.a<|.b (.k #v[.f #v[.e .d,.a 1],.f #v[.a 1,.e .d],.f #v[.a 1,.g .Add (.a 1)<|.g .Mod (.g .FloorDiv (.a 0)<|.e<|.b 512)<|.e<|.b 4]])<|.g .Mod (.g .FloorDiv (.a 0)<|.e<|.b 8)<|.e<|.b 3] [M<|.a n,M<|.a l])=.c (.d [oD lo,oD hi]):=by
  intro l;have hb:=c_ (n / 8) (b:=3) (by decide);have hc:n / 8%3=0\/n / 8%3=1\/n / 8%3=2:=by lia
  rcases hc with c|c|c
  .have ea:∀x y z:D,fq [x,y,z] (n / 8%3)=M x:=λx y z=>by rw[c];rfl
   refine#[B,M l,(λ_ z=>nomatch z),?_];erw[ea];rfl
  .have ea:∀x y z:D,fq [x,y,z] (n / 8%3)=M y:=λx y z=>by rw[c];rfl
   refine#[M l,B,(λz=>nomatch z),?_];erw[ea];rfl
  .have ea:∀x y z:D,fq [x,y,z] (n / 8%3)=M z:=λx y z=>by rw[c];rfl
   refine#[M l,M<|l+n / 512%4,(λz=>nomatch z),?_];erw[ea];rfl
 by_cases c:(n / 4096%7==0)=W
 .obtain⟨lo,hi,hb,q⟩:=last<|(n-10 ^ (9:Int).toNat)*10 ^ (19:Int).toNat;refine#[lo,hi,hb,wY ?_ q];unfold pB vq Aq;erw[c]
 .rw[kW]at c;let#[lo,hi,hb,q]:=last<|n / 64%6-2;refine#[lo,hi,hb,wY ?_ q];unfold pB vq Aq;erw[c]
theorem PD{P:Str->Prop}:∀{ys:L D},(∀y∈ys,∃s,P s/\y=.c s)->∃ss:L Str,ys=ss.map D.c/\∀s∈ss,P s
|[],_=>#[[],rfl,λ_ h=>aC h aO]
|y::r,h=>by
 let#[s,hp,rfl]:=h y aD;let#[ss,rfl,hs]:=PD λz hz=>h z<|az _ hz;exact#[s::ss,rfl,λx hx=>by
  rcases aY.mp hx with q|q
  .simp_all
  .exact hs x q]
abbrev GG:L PG:=[.a iB [],.a jl []]
def agG(ks)(hk:zl ks<=8)(ho:∀p∈ks,jS p.1/\jS p.2)(told:L Str)(ht:∀s∈told,jS s)(u):∃ys:L D,eB (pG<|.a 0) (λ_=>.c W) (pE GG eIn) (told.map D.c) [B,M<|.c u,M<|.b J<|cS ks]=.c ys/\zl ys=zl told/\∀y∈ys,qB y=W:=by
 refine l6 D.c (λU=>∃o,U=[o,M<|.c u,M<|.b J<|cS ks]) (λy=>qB y=W) told _ #[_,rfl] ?_;rintro s hs U ⟨o,rfl⟩;let#[row,r1,r2,r3,qu]:=MW ks hk ho s<|ht s hs;refine#[[M<|.c s,M<|.c u,M<|.b J<|cS ks],.e<|memD (.c u)<|row.map D.c,rfl,#[_,rfl],?_,rfl];have nn:=HW row;erw[qu,fE];rw[EI rfl nn]
def afl(ks)(hk:zl ks<=8)(ho:∀p∈ks,jS p.1/\jS p.2)(told:L Str)(ht:∀s∈told,jS s)(names:L Str):∃ys:L D,eB (pG<|.a 0) (λ_=>.c W) (pE GG afi) (names.map D.c) [B,M<|.b J<|cS ks,M<|.d<|told.map D.c]=.c ys/\zl ys=zl names/\∀y∈ys,qB y=W:=by
 refine l6 D.c (λU=>∃o,U=[o,M<|.b J<|cS ks,M<|.d<|told.map D.c]) (λy=>qB y=W) names _ #[_,rfl] ?_;rintro u hu U ⟨o,rfl⟩;let#[ys,y1,y2,y3]:=agG ks hk ho told ht u;have ya:=bN.mpr y3;refine#[[M<|.c u,M<|.b J<|cS ks,M<|.d<|told.map D.c],.e<|ys.all tU,rfl,#[_,rfl],?_,rfl];erw[cO,y1,ya]
def acy(names)(hn:names≠[])(hb:zl names<=8)(m)(v):∃ss:L Str,eB (pG<|.a 0) (λ_=>.c W) (pE GG<|.b (.a 1)<|.g .Mod (.g .Add (.a 2)<|.a 0)<|.h .a #v[.a 1]) (gj 0 v) [B,M<|.b W<|names.map D.c,M<|.a m]=.c (ss.map D.c)/\zl ss=v/\∀s∈ss,s∈names:=by
 have h:=l6 (g:=pG<|.a 0) (e:=pE GG<|.b (.a 1)<|.g .Mod (.g .Add (.a 2)<|.a 0)<|.h .a #v[.a 1]) (λi:Nat=>D.a<|0+(i:Int)) (λU=>∃o,U=[o,M<|.b W<|names.map D.c,M<|.a m]) (λy=>∃s,s∈names/\y=.c s) (bg v) [B,M<|.b W<|names.map D.c,M<|.a m] #[_,rfl] (by
  rintro i _ U ⟨o,rfl⟩;have hp:(0:Int)<(zl names:Int):=by
   have:=k8.mpr hn
   lia
  let#[b0,b1]:=c_ (m+(0+(i:Int))) hp;let#[j,hj,ej,ea]:=gR (names.map D.c) ((m+(0+(i:Int)))%(zl names:Int)) b0 (by rw[ai];exact b1);rw[cR]at ea;refine#[[M<|.a<|0+(i:Int),M<|.b W<|names.map D.c,M<|.a m],.c (names[j]'(by simpa using hj)),rfl,#[_,rfl],?_,_,bY _,rfl];erw[cO,ea])
 let#[ys,y1,y2,y3]:=h;let#[ss,rfl,hs]:=PD y3;exact#[ss,y1,by simpa using y2,hs]
noncomputable abbrev tS(t:L Str):D:=.d<|t.map D.c
noncomputable abbrev tI(t:L Int):D:=.d<|t.map D.a
def Gv(ks:L<|Str×Str)(ps:L<|L Str):Prop:=zl ps<=4/\∀t∈ps,(t≠[]/\zl t<=3)/\∀s∈t,s∈ks.map (·.1)
def gm(n:Nat)(i:Int):Prop:=0<=i/\i<(n:Int)
abbrev cD(c:L Str×L Int):D:=.d [tS c.1,tI c.2]
def MZ(n:Nat)(c:L Str×L Int):Prop:=∀i∈c.2,gm n i
def D8(n:Nat)(l:L Int):Prop:=(l≠[]/\zl l<=2)/\∀i∈l,gm n i
def gm.up{n m:Nat}{i:Int}(h:gm n i)(l:n<=m):gm m i:=#[h.1,by have:=h.2;lia]
abbrev gS(ns:L Int)(at_:Int)(ks:L<|Str×Str)(sh:Bool)(ps:L<|L Str)(cl:L<|L Str×L Int)(nm:L<|L Int)(a b c d e:aah D):a_:=
 [M<|bA ns,M<|.a at_,M<|.b J<|cS ks,M<|.e sh,M (.b W ((ks.map (·.1)).map D.c)),M<|.b W<|ps.map tS,M<|.b W<|cl.map cD,M<|.b W<|nm.map tI,a,b,c,d,e]
def acz(l:L Int)(n:Nat):MY (l.map D.a) n=W:=zc λd hd=>by let#[s,_,rfl]:=bK.mp hd;rfl
def afm(lo)(n):gj lo n=((bg n).map λ(i:Nat)=>lo+(i)).map D.a:=by unfold gj;rw[bV];rfl
def kc(ps:L<|L Str):aH (ps.map tS)=ps.map tS:=f7 tS (λt=>by show D.d (aH _)=_;rw[cO]) ps
def lP(l:L Int):b9 (l.map D.a)=W:=(rA _ 0<|acz l 0).2.1
def Zi(ps:L<|L Str):b9 (ps.map tS)=W:=oM kP ps
def pick{l:L Int}{i:Int}(lo hi)(h0:0<=i)(h1:i<zl l)(hb:∀v∈l,lo<=v/\v<=hi):∃v:Int,lo<=v/\v<=hi/\fq (l.map D.a) i=M (.a v):=by
 let#[j,hj,ej,ea]:=gR (l.map D.a) i h0 (by rw[ai];exact h1);rw[cR]at ea;have hm:=hb (l[j]'(by simp_all))<|bY _;exact#[_,hm.1,hm.2,ea]
def M0(t)(n):(bl n [tS t]).flatten=(bl n t).map tS:=by simp
theorem agH:ny=g6 r7:=rfl
def Oa(ns)(at_)(ha:0<=at_/\at_<=1000)(ks)(hk:zl ks<=8)(hk0:3<=zl ks)(ho:∀p∈ks,jS p.1/\jS p.2)(sh)(k)(hkk:k<3)(ps)(hp:Gv ks ps)(cl)(hc:∀c∈cl,MZ (zl ps) c)(hcl:zl cl<=k)(nm:L<|L Int)(hnm:zl nm<=k)(hne:∀l∈nm,D8 (zl ps) l)(b c d e:aah D):∃σ3,(b_ GG 1000 ny (gS ns at_ ks sh ps cl nm (M<|.a k) b c d e)=.a σ3\/b_ GG 1000 ny (gS ns at_ ks sh ps cl nm (M<|.a k) b c d e)=.e σ3) /\
   ∃ps' cl' nm' a' b' c' d' e',Gv ks ps'/\(∀c∈cl',MZ (zl ps') c)/\zl cl'<=k+1/\zl nm'<=k+1/\(∀l∈nm',D8 (zl ps') l)/\σ3=gS ns at_ ks sh ps' cl' nm' a' b' c' d' e':=by
 have hs:=szl;let#[m,m0,m1,qm]:=m8 ns (at_+1+(k:Int)) (by lia);have b16:=c_ (m / 16) (b:=4) (by decide);let#[v,v1,v3,ev]:=pick (l:=[1,1,2,3]) 1 3 b16.1 b16.2 (by decide);have ev:fq [D.a 1,.a 1,.a 2,.a 3] (m / 16%4)=M (.a v):=ev;have b64:=c_ (m / 64) (b:=4) (by decide);let#[w,w1,w2,ew]:=pick (l:=[1,1,1,2]) (i:=m / 64%4) 1 2 b64.1 b64.2 (by decide);have ew:fq [D.a 1,.a 1,.a 1,.a 2] (m / 64%4)=M (.a w):=ew;let#[told,qt,tl,tm]:=acy (ks.map (·.1)) (by intro z;rw[Bl]at z;rw[z]at hk0;simp at hk0) (by simpa using hk) m v.toNat;have rg:-(2 ^ 62)<=v/\v.toNat<=ao:=by lia
 have hto:∀s∈told,jS s:=λs h=>by
  let#[p,hp,rfl]:=bK.mp<|tm s h;exact(ho p hp).1
 let#[ys,qa,_,yb]:=afl ks hk ho told hto (ks.map (·.1));have ya:=bN.mpr yb;have pl4:=hp.1;have hw:(-(2 ^ 63)<=w/\w<2 ^ 63)/\zl [tS told]*w.toNat<=ao:=#[by lia,by rw[hs];simp;lia];have fzt:aH [tS told]=[tS told]:=by show[D.d<|aH _]=_;rw[cO]
 generalize hnum:(bg w.toNat).map (λ(i:Nat)=>(zl ps:Int)+(i:Int))=num;have hnb:∀i∈num,gm (zl ps+w.toNat) i:=λi hi=>by
  rw[<-hnum]at hi;let#[j,hj,rfl]:=bK.mp hi;have:=fO.mp hj;exact#[by lia,by lia]
 have hn1:D8 (zl ps+w.toNat) num:=by
  have:zl num=w.toNat:=by rw[<-hnum];simp
  exact#[#[λz=>by rw[z]at this;simp at this;lia,by lia],hnb]
 have hne':∀l∈nm,D8 (zl ps+w.toNat) l:=λl hl=>#[(hne l hl).1,λi hi=>((hne l hl).2 i hi).up<|by lia];have hc':∀c∈cl,MZ (zl ps+w.toNat) c:=λc hcc i hi=>(hc c hcc i hi).up (by lia);have tail:∀cl':L<|L Str×L Int,∃nm',(zl nm'<=k+1/\∀l∈nm',D8 (zl ps+w.toNat) l)/\b_ GG 1000 r7 (gS ns at_ ks sh ps cl' nm (M<|.a k) (M<|.a m) (M<|tS told) (M<|.a w)<|M<|tI num)=.a (gS ns at_ ks sh (ps++bl w.toNat told) cl' nm' (M<|.a k) (M<|.a m) (M<|tS told) (M<|.a w)<|M<|tI num):=by
  intro cl';have hpl:zl (ps.map tS)+zl ((bl w.toNat told).map tS)<=ao:=by rw[hs];simp;lia
  have hnl:zl (nm.map tI)<ao:=by rw[hs,ai];lia
  unfold r7 gS;cases cy:ys.any tU with
  |true=>
   refine#[nm++[num],#[by simp;lia,λl hl=>?_],?_]
   .rcases bC.mp hl with q|q
    .simp_all
    .simp_all
   .erw[cO,qa,ya,cy,fN];rw[i9 (xs:=nm.map tI) rfl hnl<|by simp];erw[cO,lP,fzt,M0];rw[uc (xs:=ps.map tS) rfl hpl<|by simp];erw[Zi,be]
  |false=>
   refine#[nm,#[by lia,hne'],?_];erw[cO,qa,ya,cy,fzt,M0];rw[uc (xs:=ps.map tS) rfl hpl<|by simp];erw[Zi,be]
 rw[agH];by_cases c4:(4:Int)<(zl ps:Int)+w
 .have e4:decide ((4:Int)<(zl ps:Int)+w)=W:=aA c4;have q:∀rr,b_ GG 1000 (g6 rr) (gS ns at_ ks sh ps cl nm (M<|.a k) b c d e)=.e (gS ns at_ ks sh ps cl nm (M<|.a k) (M<|.a m) (M<|tS told) (M<|.a w) e):=λrr=>by
   unfold g6 gS;simp_arith -implicitDefEqProofs [cN,qm,ev,ew,qt,cO,kc,kP,e4]
  exact#[_,.inr<|q r7,ps,cl,nm,_,_,_,_,_,hp,hc,by lia,by lia,hne,rfl]
 .have e4:decide ((4:Int)<(zl ps:Int)+w)=J:=aK c4;have ht:-(2 ^ 62)<=(zl ps:Int)/\(zl ps:Int)<2 ^ 62/\-(2 ^ 62)<=(zl ps:Int)+w/\(zl ps:Int)+w<2 ^ 62/\((zl ps:Int)+w-(zl ps:Int)).toNat<=2 ^ 24:=by lia
  have ew2:((zl ps:Int)+w-(zl ps:Int)).toNat=w.toNat:=by lia
  have hr2:gj (zl ps:Int) w.toNat=num.map D.a:=by rw[afm,hnum]
  have hcl2:zl (cl.map cD)<ao:=by rw[hs,ai];lia
  have mid:∃cl':L<|L Str×L Int,(∀c∈cl',MZ (zl ps+w.toNat) c)/\zl cl'<=k+1/\∀rr,b_ GG 1000 (g6 rr) (gS ns at_ ks sh ps cl nm (M<|.a k) b c d e)=b_ GG 1000 rr (gS ns at_ ks sh ps cl' nm (M<|.a k) (M<|.a m) (M<|tS told) (M<|.a w)<|M<|tI num):=by
   have dec:∃cc:Bool,(if(m / 256%3==0)=W then R.c W else if sh=W then R.c ((k:Int)==0)else R.c J)=R.c cc:=by
    cases(m / 256%3==0)<;>cases sh<;>exact#[_,rfl]
   let#[cc,hcc]:=dec;cases cc with
   |true=>
    refine#[cl++[(told,num)],λc hcc=>?_,by simp;lia,λrr=>?_]
    .rcases bC.mp hcc with q|q
     .exact hc' c q
     .rw[aL.mp q];exact hnb
    .unfold g6 gS;simp_arith -implicitDefEqProofs [cN,qm,ev,ew,qt,cO,kc,fN,kP,e4,ew2,hr2,lP];rw[hcc];erw[];rw[i9 (xs:=cl.map cD) rfl hcl2<|by simp];simp_arith -implicitDefEqProofs [kP,lP,be,bB,gw]
   |false=>
    refine#[cl,hc',by lia,λrr=>?_];unfold g6 gS;simp_arith -implicitDefEqProofs [cN,qm,ev,ew,qt,cO,kc,fN,kP,e4,ew2,hr2,lP];rw[hcc];erw[]
  let#[cl',l1,l2,l3]:=mid;let#[nm',#[n1,n2],n3]:=tail cl';refine#[_,.inl<|(l3 r7).trans n3,ps++bl w.toNat told,cl',nm',_,_,_,_,_,#[?_,λt ht'=>?_],by rw[aW,mO];exact l1,l2,n1,by rw[aW,mO];exact n2,rfl]
  .rw[aW,mO];lia
  .rcases bC.mp ht' with q|q
   .exact hp.2 t q
   .rw[(List.mem_replicate.mp q).2];exact#[#[λz=>by rw[z]at tl;simp at tl;lia,by lia],tm]
def Zj(ns)(at_)(ha:0<=at_/\at_<=1000)(ks)(hk:zl ks<=8)(hk0:3<=zl ks)(ho:∀p∈ks,jS p.1/\jS p.2)(sh):∃(ps:L<|L Str) (cl:L<|L Str×L Int) (nm:L<|L Int),Gv ks ps/\(∀c∈cl,MZ (zl ps) c)/\zl cl<=3/\zl nm<=3/\(∀l∈nm,D8 (zl ps) l)/\rW [bA ns,.a at_,.b J<|cS ks,.e sh]=.c (.d [.b W<|ps.map tS,.b W<|cl.map cD,.b W<|nm.map tI]):=by
 have hs:=szl;let#[m,m0,m1,qm]:=m8 ns at_ (by lia);have b8:=c_ m (b:=8) (by decide);let#[v,v1,v3,ev]:=pick (l:=[1,2,3,2,1,3,2,0]) 0 3 b8.1 b8.2 (by decide);have ev:fq [D.a 1,.a 2,.a 3,.a 2,.a 1,.a 3,.a 2,.a 0] (m%8)=M (.a v):=ev;generalize hV:(if v>(if sh=W then 1 else 0)then v else(if sh=W then 1 else 0))=V;have hV0:0<=V/\V<=3:=by
  rw[<-hV];cases sh<;>simp<;>split<;>lia
 have rg:-(2 ^ 62)<=V/\V.toNat<=ao:=by lia
 have qc:eB (pG<|.b #v[.a 0,.a 1]) (λ_=>.c W) (pE GG<|.a 0) (cS ks) [B,B]=.c (ks.map λp=>D.c p.1):=lK D7 (λU=>∃a b,U=[a,b]) (λp=>D.c p.1) ks _ #[_,_,rfl] (by
  rintro⟨x,y⟩ _ U ⟨a,b,rfl⟩;refine#[[M<|.c x,M<|.c y],?_,#[_,_,rfl],?_]
  .rfl
  .erw[])
 have em:(ks.map λp=>D.c p.1)=(ks.map (·.1)).map D.c:=by simp
 rw[em]at qc;let#[σ',h1,ps,cl,nm,a',b',c',d',e',p1,p2,p3,p4,p5,rfl]:=N_ (g:=pG<|.a 8) V.toNat
  (λk U=>∃(ps:L<|L Str) (cl:L<|L Str×L Int) (nm:L<|L Int) (a b c d e:aah D),Gv ks ps/\(∀c∈cl,MZ (zl ps) c)/\zl cl<=k/\zl nm<=k/\(∀l∈nm,D8 (zl ps) l)/\U=gS ns at_ ks sh ps cl nm a b c d e) (by
  rintro k hkk U ⟨ps,cl,nm,a,b,c,d,e,p1,p2,p3,p4,p5,rfl⟩;let#[σ3,g1,ps',cl',nm',a',b',c',d',e',g2,g3,g4,g5,g6,g7]:=Oa ns at_ ha ks hk hk0 ho sh k (by lia) ps p1 cl p2 p3 nm p4 p5 b c d e;exact#[_,σ3,rfl,g1,ps',cl',nm',a',b',c',d',e',g2,g3,g4,g5,g6,g7]) (gS ns at_ ks sh [] [] [] B B B B B) #[[],[],[],_,_,_,_,_,#[by simp,λt ht=>aC ht aO],λt ht=>aC ht aO,by simp,by simp,λl hl=>aC hl aO,rfl]
 refine#[ps,cl,nm,p1,p2,by lia,by lia,p5,?_];have fs:=cN ns;unfold rW An Gi;erw[fs,fE,qc,kP,qm,ev,hV];have h1:forR (pG<|.a 8) (b_ GG 1000 ny) (gj 0 V.toNat) [M<|bA ns,M<|.a at_,M<|.b J<|cS ks,M<|.e sh,M (.b W ((ks.map (·.1)).map D.c)),M<|.b W [],M<|.b W [],M<|.b W [],B,B,B,B,B]=_:=h1;rw[h1];unfold gS;erw[]
abbrev tK(k:L Key):D:=.d<|k.map tT
def PF(k:L Key)(n:Nat):MY (k.map tT) n=W:=zc λd hd=>by
 let#[s,_,rfl]:=bK.mp hd;cases s<;>rfl
theorem get_mem:∀{ks:L<|L Key}{xs:L D}{k:L Key},zl ks=zl xs->k∈ks->∃d,d∈xs/\ia ks xs k=M d
|[],_,_,_,h=>aC h aO
|a::r,[],_,hl,_=>by simp at hl
|a::r,x::xr,k,hl,h=>by
 by_cases c:a=k
 .exact#[x,aD,by show(if a=k then M x else _)=_;rw[aQ c]]
 .rcases aY.mp h with q|q
  .exact aC q.symm c
  .obtain⟨d,h1,h2⟩:=get_mem (by simpa using hl) q;exact#[d,az _ h1,by show(if a=k then M x else _)=_;rw[aE c];exact h2]
theorem M1:∀{ks:L<|L Key}{xs:L D}{q:L Key}{x:D},zl ks=zl xs->zl (nM ks xs q x)=zl ks
|[],_,_,_,_=>rfl
|a::r,[],_,_,hl=>by simp at hl
|a::r,y::yr,q,x,hl=>by
 show(nM r yr q x).length+1=zl r+1;rw[M1<|by simp_all]
theorem M2:∀{ks:L<|L Key}{xs:L D}{q:L Key}{x d:D},d∈nM ks xs q x->d=x\/d∈xs
|[],_,_,_,_,h=>aC h aO
|a::r,[],_,_,_,h=>aC h aO
|a::r,y::yr,q,x,d,h=>by
 rcases aY.mp h with e|e
 .grind
 .rcases M2 e with z|z
  .exact .inl z
  .exact .inr (az _ z)
def RE{ks:L<|L Key}{xs:L D}{q:L Key}{d j:D}(hl:zl ks=zl xs)(hs:zl ks<ao)(hf:mq d=W)(hj:lX j=M q):∃ks' xs',putIn (.h W ks xs) d j=M (.h W ks' xs')/\zl ks'=zl xs'/\zl ks'<=zl ks+1/\(∀k,k∈ks'↔k=q\/k∈ks)/\∀y∈xs',y=d\/y∈xs:=by
 have e:putIn (.h W ks xs) d j=(if zl ks<ao then(if ji ks q=W then(if mq d=W then M (.h W ks<|nM ks xs q d)else B)else M (.h W (ks++[q])<|xs++[d]))else B):=by
  show My ks xs d j=_;unfold My;rw[hj]
 rw[e,aQ hs];by_cases c:ji ks q=W
 .rw[aQ c,aQ hf];exact#[_,_,rfl,(M1 hl).symm,by lia,λk=>#[.inr,λh=>h.elim (λe=>by let#[x,hx,e2]:=dX.mp c;rw[e,<-ay e2];exact hx) id],λy hy=>M2 hy]
 .rw[aE c];refine#[_,_,rfl,by simp[hl],by simp,λk=>by rw[bC,aL,or_comm],λy hy=>?_]
  .rcases bC.mp hy with z|z
   .exact .inr z
   .exact .inl (aL.mp z)
def HY(ks):∃srt:L<|L Key,L3.o_ ks=srt.map tK/\zl srt=zl ks/\∀k∈srt,k∈ks:=by
 refine#[(iQ ks).map λi=>ks.getD i [],by unfold L3.o_;rw[bV];rfl,by rw[ai];exact vD _ _,λk hk=>?_];let#[i,hi,rfl]:=bK.mp hk;have hlt:=yR _ _ i hi;rw[bS,aB hlt];exact bY hlt
def yt{ks:L<|L Key}(hl:zl ks<64)(h:∀k∈ks,k≠[]/\∀q∈ks,kq k q=W):sortable ks=W:=by
 unfold sortable;rw[aA hl,KP,bN];intro k hk;let#[h1,h2]:=h k hk;rw[cK];refine#[by cases k with|nil=>exact aC rfl h1|cons a r=>rfl,bN.mpr h2]
abbrev J3:=Str×Int×Int
noncomputable abbrev jK(j:J3):L Key:=[.inr j.1,.inl j.2.1,.inl j.2.2]
def M3(n:Nat)(j:J3):Prop:=gm n j.2.1/\gm n j.2.2
def Js(n:Nat)(k:L Key):Prop:=∃j:J3,M3 n j/\k=jK j
def Zs(n:Nat)(k:L Key):Prop:=∃(i:Int) (s:Str),gm n i/\k=[.inl i,.inr s]
def Vs{n:Nat}{ks:L<|L Key}(hl:zl ks<64)(h:∀k∈ks,Js n k):sortable ks=W:=yt hl λk hk=>by
 let#[j,_,rfl]:=h k hk;exact#[by simp,λq hq=>by let#[j',_,rfl]:=h q hq;rfl]
def afn{n:Nat}{ks:L<|L Key}(hl:zl ks<64)(h:∀k∈ks,Zs n k):sortable ks=W:=yt hl λk hk=>by
 let#[i,s,_,rfl]:=h k hk;exact#[by simp,λq hq=>by let#[i',s',_,rfl]:=h q hq;rfl]
def Bd(d:D):Prop:=∃lo hi:aah Int,Bo lo hi/\d=.d [oD lo,oD hi]
def Bd.pl{d:D}(h:Bd d):pl d 1=W:=by
 let#[lo,hi,_,rfl]:=h;cases lo<;>cases hi<;>rfl
def Bd.flat{d:D}(h:Bd d):mq d=W:=by
 let#[lo,hi,_,rfl]:=h;cases lo<;>cases hi<;>rfl
abbrev GR:L PG:=[.a m7 [],.a iB [],.a pB [],.a rW []]
theorem agI:pq=#v[sN,sJ,sZ,sT]:=rfl
noncomputable abbrev wD(wa wb wc:L Str):D:=.d [.b J<|wa.map D.c,.b J<|wb.map D.c,.b J<|wc.map D.c]
abbrev rS(ns:L Int)(at_:Int)(ks:L<|Str×Str)(w:D)(sh:Bool)(ps:L<|L Str)(cl:L<|L Str×L Int)(nm:L<|L Int)(jk:L<|L Key)(jv:L D)(zk:L<|L Key)(zv:L D)(st:L<|Str×Int)(a b c d:aah D):a_:=
 [M<|bA ns,M<|.a at_,M<|.b J<|cS ks,M w,M<|.e sh,M<|.b W<|ps.map tS,M<|.b W<|cl.map cD,M<|.b W<|nm.map tI,M<|.h W jk jv,M<|.h W zk zv,M<|.b W (st.map λs:Str×Int=>.d [.c s.1,.a s.2]),a,b,c,d]
theorem iL(x y z:D):fq [x,y,z] 0=M x:=rfl
theorem K8(x y z:D):fq [x,y,z] 1=M y:=rfl
theorem K9(x y z:D):fq [x,y,z] 2=M z:=rfl
def nH(l:L Str)(i:Int)(h0:0<=i)(h1:i<zl l):∃s,s∈l/\fq (l.map D.c) i=M (.c s):=by
 let#[j,hj,ej,ea]:=gR (l.map D.c) i h0 (by simp_all);rw[cR]at ea;exact#[_,bY _,ea]
section
variable(ns:L Int) (at_:Int) (ha:0<=at_/\at_<=1000) (ks:L (Str×Str)) (wa wb wc:L Str) (la:zl wa=3) (lb:zl wb=2) (lc:zl wc=2) (sh:Bool) (ps:L (L Str)) (hp:Gv ks ps) (cl:L (L Str×L Int)) (nm:L (L Int)) (hnm:zl nm<=3) (hne:∀l∈nm,D8 (zl ps) l)
 (k:Nat) (hk:k<4) (n:Int) (n0:0<=n) (n1:n<2147483587)
include ha lb hp hk n0
theorem rd_J(jk:L<|L Key)(jv:L D)(hjl:zl jk=zl jv)(hj4:zl jk<=k)(hj:∀q∈jk,Js (zl ps) q)(hv:∀d∈jv,d=.e W)(zk:L<|L Key)(zv:L D)(st:L<|Str×Int)(c d:aah D):∃jk' jv' c',zl jk'=zl jv'/\zl jk'<=k+1/\(∀q∈jk',Js (zl ps) q)/\(∀d∈jv',d=.e W)/\pS GR 1000 sJ (rS ns at_ ks (wD wa wb wc) sh ps cl nm jk jv zk zv st (M<|.a k) (M<|.a n) c d)=.a (rS ns at_ ks (wD wa wb wc) sh ps cl nm jk' jv' zk zv st (M<|.a k) (M<|.a n) c' d):=by
 have hs:=szl;let#[m5,m50,m51,q5]:=m8 ns (at_+5) (by lia);have pl4:=hp.1;by_cases c1:(1:Int)<(zl ps:Int)
 .by_cases c2:(k:Int)<m5%4
  .have e1:=aA c1;have e2:=aA c2;have b2:=c_ (n / 8) (b:=2) (by decide);let#[s,hsm,es]:=nH wb (n / 8%2) b2.1 (by lia);have h1:(0:Int)<(zl ps:Int):=by omega
   have h2:(0:Int)<(zl ps:Int)-1:=by omega
   let#[jk',jv',hput,g1,g2,g3,g4]:=RE (d:=.e W) (j:=.d [.c s,.a<|n%(zl ps:Int),.a<|(n%(zl ps:Int)+1+n / 16%((zl ps:Int)-1))%(zl ps:Int)]) (q:=[.inr s,.inl<|n%(zl ps:Int),.inl<|(n%(zl ps:Int)+1+n / 16%((zl ps:Int)-1))%(zl ps:Int)]) hjl (by lia) rfl rfl;refine#[jk',jv',M<|.a<|n%(zl ps:Int),g1,by lia,λq hq=>?_,λy hy=>?_,?_]
   .rcases(g3 q).mp hq with z|z
    .exact#[(s,n%(zl ps:Int),(n%(zl ps:Int)+1+n / 16%((zl ps:Int)-1))%(zl ps:Int)),#[c_ _ h1,c_ _ h1],z]
    .exact hj q z
   .rcases g4 y hy with z|z
    .exact z
    .exact hv y z
   .erw[cN,kc,q5,e1,e2,K8,cO,es];rw[ie rfl rfl hput];erw[]
  .have e1:=aA c1;have e2:=aK c2;refine#[jk,jv,c,hjl,by omega,hj,hv,?_];erw[cN,kc,q5,e1,e2]
 .have e1:=aK c1;refine#[jk,jv,c,hjl,by omega,hj,hv,?_];erw[kc,e1]
end
def RG(x):aV (oD x)=W:=by cases x<;>rfl
noncomputable abbrev sD(s:Str×Int):D:=.d [.c s.1,.a s.2]
def RH(l:L<|L Int):aH (l.map tI)=l.map tI:=f7 tI (λt=>by show D.d (aH _)=_;rw[fN]) l
def EM(l:L<|Str×Int):b9 (l.map sD)=W:=oM (λ_=>rfl) l
section
variable(ns:L Int) (at_:Int) (ha:0<=at_/\at_<=1000) (ks:L (Str×Str)) (wa wb wc:L Str) (la:zl wa=3) (lb:zl wb=2) (lc:zl wc=2) (sh:Bool) (ps:L (L Str)) (hp:Gv ks ps) (cl:L (L Str×L Int)) (nm:L (L Int)) (hnm:zl nm<=3) (hne:∀l∈nm,D8 (zl ps) l)
 (k:Nat) (hk:k<4) (n:Int) (n0:0<=n) (n1:n<2147483587)
include ha la hp hk n0 n1
theorem rd_Z(jk:L<|L Key)(jv:L D)(zk:L<|L Key)(zv:L D)(st:L<|Str×Int)(hzl:zl zk=zl zv)(hz4:zl zk<=k)(hz:∀q∈zk,Zs (zl ps) q)(hv:∀d∈zv,Bd d)(c d:aah D):∃zk' zv',zl zk'=zl zv'/\zl zk'<=k+1/\(∀q∈zk',Zs (zl ps) q)/\(∀d∈zv',Bd d)/\pS GR 1000 sZ (rS ns at_ ks (wD wa wb wc) sh ps cl nm jk jv zk zv st (M<|.a k) (M<|.a n) c d)=.a (rS ns at_ ks (wD wa wb wc) sh ps cl nm jk jv zk' zv' st (M<|.a k) (M<|.a n) c d):=by
 have hs:=szl;let#[m5,m50,m51,q5]:=m8 ns (at_+5) (by lia);let#[lo,hi,hbo,qb]:=Zh n n0 n1;have pl4:=hp.1;by_cases c1:(0:Int)<(zl ps:Int)
 .by_cases c2:(k:Int)<m5 / 4%4
  .have e1:=aA c1;have e2:=aA c2;have b2:=c_ (n / 24) (b:=3) (by decide);let#[s,hsm,es]:=nH wa (n / 24%3) b2.1 (by lia);let#[zk',zv',hput,g1,g2,g3,g4]:=RE (d:=.d [oD lo,oD hi]) (j:=.d [.a<|n / 3%(zl ps:Int),.c s]) (q:=[.inl<|n / 3%(zl ps:Int),.inr s]) hzl (by lia) (Bd.flat #[lo,hi,hbo,rfl]) rfl;refine#[zk',zv',g1,by lia,λq hq=>?_,λy hy=>?_,?_]
   .rcases(g3 q).mp hq with z|z
    .exact#[_,_,c_ _ c1,z]
    .exact hz q z
   .rcases g4 y hy with z|z
    .exact#[_,_,hbo,z]
    .exact hv y z
   .erw[cN,kc,q5,e1,e2,iL,cO,es,qb,RG];rw[ie rfl (by rw[sf];exact .inr rfl) hput];erw[RG]
  .have e1:=aA c1;have e2:=aK c2;refine#[zk,zv,hzl,by lia,hz,hv,?_];erw[cN,kc,q5,e1,e2]
 .have e1:=aK c1;refine#[zk,zv,hzl,by lia,hz,hv,?_];erw[kc,e1]
end
section
variable(ns:L Int) (at_:Int) (ha:0<=at_/\at_<=1000) (ks:L (Str×Str)) (wa wb wc:L Str) (lc:zl wc=2) (sh:Bool) (ps:L (L Str)) (cl:L (L Str×L Int)) (nm:L (L Int)) (hnm:zl nm<=3) (hne:∀l∈nm,D8 (zl ps) l)
 (k:Nat) (hk:k<4) (n:Int) (n0:0<=n) (n1:n<2147483587)
include ha lc hk n0 hnm hne
theorem rd_T(jk)(jv)(zk)(zv)(st)(h1:∀s∈st,gm (zl ps) s.2)(h2:zl st<=2*k)(c d):∃st':L<|Str×Int,(∀s∈st',gm (zl ps) s.2)/\zl st'<=2*(k+1)/\pS GR 1000 sT (rS ns at_ ks (wD wa wb wc) sh ps cl nm jk jv zk zv st (M<|.a k) (M<|.a n) c d)=.a (rS ns at_ ks (wD wa wb wc) sh ps cl nm jk jv zk zv st' (M<|.a k) (M<|.a n) c d):=by
 have hs:=szl;let#[m5,m50,m51,q5]:=m8 ns (at_+5) (by lia);unfold sT rS;by_cases c1:(0:Int)<(zl nm:Int)
 .by_cases c2:(k:Int)<m5 / 16%3
  .have e1:=aA c1;have e2:=aA c2;have b2:=c_ (n / 5) (b:=2) (by decide);let#[s,hsm,es]:=nH wc (n / 5%2) b2.1 (by lia);have b3:=c_ (n / 10) c1;let#[j,hj,ej,ea]:=gR (nm.map tI) (n / 10%(zl nm:Int)) b3.1 (by rw[ai];exact b3.2);rw[cR]at ea;have hl:=hne (nm[j]'(by simp_all))<|bY _;generalize nm[j]'(by simpa using hj)=l at ea hl;have qc:eB (pG<|.a 0) (λ_=>.c W) (pE GR<|.f #v[.b (.b (.a 1)<|.e<|.b 2)<|.g .Mod (.g .FloorDiv (.a 2)<|.e<|.b 5)<|.e<|.b 2,.a 0]) (l.map D.a) [B,M<|wD wa wb wc,M<|.a n]=.c ((l.map λi=>(s,i)).map sD):=by
    rw[bV];exact lK D.a (λU=>∃o,U=[o,M<|wD wa wb wc,M<|.a n]) (λi=>D.d [.c s,.a i]) l _ #[_,rfl] (by
    rintro i _ U ⟨o,rfl⟩;refine#[[M<|.a i,M<|wD wa wb wc,M<|.a n],rfl,#[_,rfl],?_];erw[K9,cO,es])
   have hal:b9 ((l.map λi=>(s,i)).map sD)=W:=EM _;refine#[st++l.map λi=>(s,i),λx hx=>?_,by have:=hl.1.2;simp;lia,?_]
   .rcases bC.mp hx with q|q
    .exact h1 x q
    .obtain⟨i,hi,rfl⟩:=bK.mp q;exact hl.2 i hi
   erw[cN,RH,q5,e1,e2,ea,fN,qc];rw[uc rfl (by have:=hl.1.2;rw[hs,ai,ai,ai];lia)<|by simp];erw[hal,be]
  .have e1:=aA c1;have e2:=aK c2;refine#[st,h1,by lia,?_];erw[cN,RH,q5,e1,e2]
 .have e1:=aK c1;refine#[st,h1,by lia,?_];erw[RH,e1]
end
def PJ{l i:Nat}(h:i<l):nS l (i)=M i:=by
 unfold nS;simp;omega
def rd_P(ns)(at_)(ha:0<=at_/\at_<=1000)(ks)(hk:zl ks<=8)(ho:∀p∈ks,jS p.1/\jS p.2)(w)(sh)(ps)(hp:Gv ks ps)(cl)(nm)(jk)(jv)(zk)(zv)(st)(i)(hi:i<zl ps)(a b d):∃ps' b' d',Gv ks ps'/\zl ps'=zl ps/\b_ GR 1000 ph (rS ns at_ ks w sh ps cl nm jk jv zk zv st a b (M<|.a i) d)=.a (rS ns at_ ks w sh ps' cl nm jk jv zk zv st a b' (M<|.a i) d'):=by
 have hs:=szl;have pl4:=hp.1;let#[n,n0,n1,qn]:=m8 ns (at_+10+(i:Int)) (by lia);unfold ph rS;by_cases c1:(n%5==0)=W
 .cases sh with
  |true=>
   refine#[ps,M<|.a n,d,hp,rfl,?_];erw[cN,qn,c1]
  |false=>
   let#[#[t1,t3],t2]:=hp.2 ps[i]<|bY hi;have ea:fq (ps.map tS) (i:Int)=M (tS ps[i]):=Hf (by rw[bz,aB hi];rfl);generalize hT:ps[i]=t at t1 t2 t3 ea;have tp:(0:Int)<(zl t:Int):=by
    have:=k8.mpr t1
    lia
   have b1:=c_ (n / 5) tp;let#[s,sm,es]:=nH t (n / 5%(zl t:Int)) b1.1 b1.2;let#[ys,y1,y2,y3,qy]:=MX ks hk ho s<|t2 s sm;have yp:(0:Int)<(zl ys:Int):=by
    have:=k8.mpr y1
    lia
   have b2:=c_ (n / 15) yp;let#[s2,sm2,es2]:=nH ys (n / 15%(zl ys:Int)) b2.1 b2.2;refine#[ps.set i [s2],M<|.a n,M<|.b W<|ys.map D.c,#[by rw[n5];exact hp.1,λt' ht'=>?_],by rw[n5],?_]
   .rcases vB ht' with q|q
    .exact hp.2 t' q
    .rw[q];refine#[#[by simp,by simp],λs' hs'=>?_];rw[aL.mp hs'];exact y3 s2 sm2
   .have hput:putIn (.b W<|ps.map tS) (.d [.c s2]) (.a i)=M (.b W<|(ps.set i [s2]).map tS):=by
     show(nS (zl<|ps.map tS) (i:Int)).map _=_;rw[PJ (by rw[ai];exact hi),List.map_set];rfl
    erw[cN,qn,c1,kc,ea,cO,es,fE,qy,es2,kP];rw[ie rfl rfl hput];erw[]
 .rw[kW]at c1;refine#[ps,M<|.a n,d,hp,rfl,?_];erw[cN,qn,c1]
abbrev Z4:=Int×Str×aah Int×aah Int
abbrev zD(z:Z4):D:=.d [.a z.1,.c z.2.1,oD z.2.2.1,oD z.2.2.2]
def ZOk(n:Nat)(z:Z4):Prop:=gm n z.1/\Bo z.2.2.1 z.2.2.2
def Sz(n:Nat)(z:D):Prop:=∃z4:Z4,ZOk n z4/\z=zD z4
def qF(x):bW (oD x)=oD x:=by cases x<;>rfl
def afo{n:Nat}{Y:L PG}(zk)(zv)(hl:zl zk=zl zv)(hz:∀q∈zk,Zs n q)(hv:∀d∈zv,Bd d)(srt:L<|L Key)(hm:∀q∈srt,q∈zk):∃zs:L D,eB (pG<|.a 0) (λ_=>.c W) (pE Y<|.g .Add (.a 0)<|.b (.a 1)<|.a 0) (srt.map tK) [B,M<|.h W zk zv]=.c zs/\zl zs=zl srt/\∀z∈zs,Sz n z:=by
 have hs:=szl;have fv:=(rA zv 1<|zc λd hd=>(hv d hd).pl).1;refine l6 tK (λU=>∃o,U=[o,M<|.h W zk zv]) (Sz n) srt _ #[_,rfl] ?_;rintro q hq U ⟨o,rfl⟩;let#[d,hd,hg]:=get_mem hl<|hm q hq;let#[i,s,hn,rfl]:=hz q<|hm q hq;let#[lo,hi,hbo,rfl]:=hv d hd;refine#[[M<|.d [.a i,.c s],M<|.h W zk zv],.d [.a i,.c s,oD lo,oD hi],rfl,#[_,rfl],?_,#[(i,s,lo,hi),#[hn,hbo],rfl]];have hix:t_ (.h J zk zv) (.d [.a i,.c s])=.c (.d [oD lo,oD hi]):=by
  rw[MJ rfl hg];show R.c (D.d [bW<|oD lo,bW<|oD hi])=_;rw[qF,qF]
 erw[fv,hix];rw[Jz<|by simp[hs]];show R.c (D.d [.a i,.c s,bW<|oD lo,bW<|oD hi])=_;rw[qF,qF]
def K_(l:L<|L Key):b9 (l.map tK)=W:=oM (f:=tK) (λk=>(rA _ 0<|PF k 0).2.1) l
def afp(l:L<|L Key):aH (l.map tK)=l.map tK:=f7 tK (λk=>by show D.d (aH _)=_;rw[(rA _ 0<|PF k 0).1]) l
def o_tI(l:L<|L Int):b9 (l.map tI)=W:=oM lP l
def Sz.pl{n:Nat}{z:D}(h:Sz n z):pl z 1=W:=by
 let#[#[i,s,lo,hi],_,rfl]:=h;cases lo<;>cases hi<;>rfl
theorem typed{α:Type}{P:α->Prop}{f:α->D}:∀{ys:L D},(∀y∈ys,∃a,P a/\y=f a)->∃l:L α,ys=l.map f/\∀a∈l,P a
|[],_=>#[[],rfl,λ_ h=>aC h aO]
|y::r,h=>by
 let#[s,hp,rfl]:=h y aD;let#[ss,rfl,hs]:=typed λz hz=>h z<|az _ hz;exact#[s::ss,rfl,λx hx=>by
  rcases aY.mp hx with q|q
  .simp_all
  .exact hs x q]
theorem M4{n:Nat}:∀{ks:L<|L Key},(∀k∈ks,Js n k)->∃l:L J3,ks=l.map jK/\∀j∈l,M3 n j
|[],_=>#[[],rfl,λ_ h=>aC h aO]
|y::r,h=>by
 let#[s,hp,rfl]:=h y aD;let#[ss,rfl,hs]:=M4 λz hz=>h z<|az _ hz;exact#[s::ss,rfl,λx hx=>by
  rcases aY.mp hx with q|q
  .simp_all
  .exact hs x q]
noncomputable abbrev jD(j:J3):D:=.d [.c j.1,.a j.2.1,.a j.2.2]
def Gw(l:L J3):(l.map jK).map tK=l.map jD:=by rw[bV];rfl
structure Vt where
 ps:L (L Str)
 cl:L (L Str×L Int)
 js:L J3
 zs:L Z4
 st:L (Str×Int)
abbrev wB(o:Bool)(r:Vt):D:=.d [.b o<|r.ps.map tS,.b o<|r.cl.map cD,.b o<|r.js.map jD,.b o<|r.zs.map zD,.b o<|r.st.map sD]
structure ROk (ks:L (Str×Str)) (r:Vt):Prop where
 p:zl r.ps<=5/\∀t∈r.ps,(t≠[]/\zl t<=3)/\∀s∈t,s∈ks.map (·.1)
 c:∀c∈r.cl,MZ (zl r.ps) c
 c3:zl r.cl<=3
 j:∀j∈r.js,M3 (zl r.ps) j
 j4:zl r.js<=4
 z:∀z∈r.zs,ZOk (zl r.ps) z
 z4:zl r.zs<=4
 s:∀s∈r.st,gm (zl r.ps) s.2
 s8:zl r.st<=8
def o_cD(l:L<|L Str×L Int):b9 (l.map cD)=W:=oM (λk=>by show(b9 (k.1.map D.c)&&(b9 (k.2.map D.a)&&W))=W;rw[kP,lP];rfl) l
def Vu(ns:L Int)(at_:Int)(ha:0<=at_/\at_<=1000)(ks:L<|Str×Str)(hk:zl ks<=8)(hk0:3<=zl ks)(ho:∀p∈ks,jS p.1/\jS p.2)(wa wb wc:L Str)(la:zl wa=3)(lb:zl wb=2)(lc:zl wc=2)(sh:Bool):∃r:Vt,ROk ks r/\qe [bA ns,.a at_,.b J<|cS ks,wD wa wb wc,.e sh]=.c (wB W r):=by
 have hs:=szl;let#[ps,cl,nm,hp,c1,c2,n1,n2,qg]:=Zj ns at_ ha ks hk hk0 ho sh;have pl4:=hp.1;let#[σ1,h1,jk,jv,zk,zv,st,a,b,c,d,j1,j2,j3,j4,z1,z2,z3,z4,s1,s2,rfl]:=j_ (g:=pG<|.a 11) (b:=b_ GR 1000 pq) 4
  (λk U=>∃(jk:L<|L Key) (jv:L D) (zk:L<|L Key) (zv:L D) (st:L<|Str×Int) (a b c d:aah D),zl jk=zl jv/\zl jk<=k/\(∀q∈jk,Js (zl ps) q)/\(∀d∈jv,d=.e W)/\zl zk=zl zv/\zl zk<=k/\(∀q∈zk,Zs (zl ps) q)/\(∀d∈zv,Bd d)/\(∀s∈st,gm (zl ps) s.2)/\zl st<=2*k /\
   U=rS ns at_ ks (wD wa wb wc) sh ps cl nm jk jv zk zv st a b c d) (by
  rintro k hk4 U ⟨jk,jv,zk,zv,st,a,b,c,d,j1,j2,j3,j4,z1,z2,z3,z4,s1,s2,rfl⟩;let#[n,m0,m1,qn]:=m8 ns (at_+6+(k:Int)) (by lia);have hN:pS GR 1000 sN (rS ns at_ ks (wD wa wb wc) sh ps cl nm jk jv zk zv st (M<|.a k) b c d)=.a (rS ns at_ ks (wD wa wb wc) sh ps cl nm jk jv zk zv st (M<|.a k) (M<|.a n) c d):=by
   erw[cN,qn]
  let#[jk',jv',c',x1,x2,x3,x4,hJ]:=rd_J ns at_ ha ks wa wb wc lb sh ps hp cl nm k hk4 n m0 jk jv j1 j2 j3 j4 zk zv st c d;let#[zk',zv',y1,y2,y3,y4,hZ]:=rd_Z ns at_ ha ks wa wb wc la sh ps hp cl nm k hk4 n m0 m1 jk' jv' zk zv st z1 z2 z3 z4 c' d;let#[st',u1,u2,hT]:=rd_T ns at_ ha ks wa wb wc lc sh ps cl nm n1 n2 k hk4 n m0 jk' jv' zk' zv' st s1 s2 c' d;refine#[rS ns at_ ks (wD wa wb wc) sh ps cl nm jk jv zk zv st (M<|.a k) b c d,rS ns at_ ks (wD wa wb wc) sh ps cl nm jk' jv' zk' zv' st' (M<|.a k) (M<|.a n) c' d,rfl,?_,jk',jv',zk',zv',st',_,_,_,_,x1,x2,x3,x4,y1,y2,y3,y4,u1,u2,rfl];rw[agI,iA,hN];show b_ GR 1000 _ _=_;rw[iA,hJ];show b_ GR 1000 _ _=_;rw[iA,hZ];show b_ GR 1000 _ _=_;rw[iA,hT];rfl) (rS ns at_ ks (wD wa wb wc) sh ps cl nm [] [] [] [] [] B B B B)
  #[[],[],[],[],[],_,_,_,_,rfl,by simp,λq hq=>aC hq aO,λq hq=>aC hq aO,rfl,by simp,λq hq=>aC hq aO,λq hq=>aC hq aO,λq hq=>aC hq aO,by simp,rfl]
 let#[σ2,h2,ps',b',c',d',p1,p2,rfl]:=j_ (g:=pG<|.a 13) (b:=b_ GR 1000 ph) (zl ps)
  (λi U=>∃(ps':L<|L Str) (b c d:aah D),Gv ks ps'/\zl ps'=zl ps/\U=rS ns at_ ks (wD wa wb wc) sh ps' cl nm jk jv zk zv st a b c d) (by
  rintro i hi U ⟨ps',b',c',d',p1,p2,rfl⟩;let#[ps'',b'',d'',q1,q2,q3]:=rd_P ns at_ ha ks hk ho (wD wa wb wc) sh ps' p1 cl nm jk jv zk zv st i (by lia) a b' d';exact#[rS ns at_ ks (wD wa wb wc) sh ps' cl nm jk jv zk zv st a b' (M<|.a i) d',_,rfl,q3,ps'',_,_,_,q1,by lia,rfl]) (rS ns at_ ks (wD wa wb wc) sh ps cl nm jk jv zk zv st a b c d) #[ps,_,_,_,hp,rfl,rfl]
 let#[srJ,eJ,lJ,mJ]:=HY jk;let#[srZ,eZ,lZ,mZ]:=HY zk;let#[zs,qz,lz,hz]:=afo (Y:=GR) zk zv z1 z3 z4 srZ mZ;have oJ:=Vs (by lia) j3;have oZ:=afn (by lia) z3;have oz:b9 zs=W:=(rA zs 1<|zc λz h=>(hz z h).pl).2.1;have rg:-(2 ^ 62)<=(zl ps:Int)/\(zl ps:Int).toNat<=ao:=by lia
 have oc:=o_cD cl;let#[js,ejs,hjs]:=M4 (λq h=>j3 q (mJ q h):∀q∈srJ,Js (zl ps) q);let#[z4s,ez4,hz4]:=typed hz;have ljs:zl js<=4:=by rw[ejs,ai]at lJ;lia
 have lzs:zl z4s<=4:=by rw[ez4,ai]at lz;lia
 have rg4:-(2 ^ 62)<=(4:Int)/\(4:Int).toNat<=ao:=by lia
 have ownZ:b9 zv=W:=(rA zv 1<|zc λd h=>(z4 d h).pl).2.1;refine#[#[ps',cl,js,z4s,st],#[#[Nat.le_succ_of_le p1.1,p1.2],by rw[p2];exact c1,c2,by rw[p2];exact hjs,ljs,by rw[p2];exact hz4,lzs,by rw[p2];exact s1,s2],?_];have oj:b9 (js.map jD)=W:=by rw[<-Gw];exact K_ _
 rw[ejs]at eJ;rw[Gw]at eJ;subst ez4;unfold qe yq D3;erw[cN,fE,cO,qg,Zi,o_tI,oc];have h1:forR (pG<|.a 11) (b_ GR 1000 pq) (gj 0<|C2 4) [M<|bA ns,M<|.a at_,M<|.b J<|cS ks,M<|wD wa wb wc,M<|.e sh,M<|.b W<|ps.map tS,M<|.b W<|cl.map cD,M<|.b W<|nm.map tI,M<|.h W [] [],M<|.h W [] [],M<|.b W [],B,B,B,B]=_:=h1;rw[h1];unfold rS at h2 ⊢;erw[kc,fY];rw[h2];erw[oJ,oZ,eJ,eZ,afp,qz,oz,K_,oj]
abbrev WN:=Str×Int
noncomputable abbrev wk(l:L WN):L Key:=l.map λp=>.inr p.1
noncomputable abbrev wv(l:L WN):L D:=l.map λp=>.a p.2
noncomputable abbrev nX(p:WN):D:=.d [.c p.1,.a p.2]
def lQ(l:L WN):Prop:=(l.map (·.1)).Nodup
theorem RI(w)(v):∀l:L WN,nM (wk l) (wv l) (.inr w) (.a v)=wv (l.map λp=>if p.1=w then(p.1,v)else p)
|[]=>rfl
|p::l=>by
 show(if(eG p.1:Key)=.inr w then D.a v else .a p.2)::nM (wk l) (wv l) (.inr w) (.a v)=_;rw[RI w v l];by_cases c:p.1=w
 .rw[aQ<|by rw[c]];simp[wv,c]
 .rw[aE<|by simpa using c];simp[wv,c]
def Gx{l:L WN}(nd:lQ l)(hl:zl l<60)(w)(v):∃l',putIn (.f W (wk l)<|wv l) (.a v) (.c w)=M (.f W (wk l')<|wv l')/\lQ l'/\zl l'<=zl l+1:=by
 have hs:=szl;have e:putIn (.f W (wk l)<|wv l) (.a v) (.c w)=(if(wk l).length<ao then(if ji (wk l) (.inr w)=W then(if mq (.a v)=W then M (.f W (wk l)<|nM (wk l) (wv l) (.inr w)<|.a v)else B)else M (.f W (wk l++[.inr w])<|wv l++[.a v]))else B):=rfl;rw[e,aQ (by rw[ai];lia)];by_cases c:ji (wk l) (.inr w)=W
 .rw[aQ c,aQ (show mq (.a v)=W from rfl),RI];have ek:wk (l.map λp=>if p.1=w then(p.1,v)else p)=wk l:=by
   unfold wk;rw[bV];refine kZ λp _=>?_;show(eG (if p.1=w then(p.1,v)else p).1:Key)=_;split<;>rfl
  refine#[l.map λp=>if p.1=w then(p.1,v)else p,by rw[ek],?_,by simp];have e2:(l.map λp=>if p.1=w then(p.1,v)else p).map (·.1)=l.map (·.1):=by
   rw[bV];refine kZ λp _=>?_;show(if p.1=w then(p.1,v)else p).1=_;split<;>rfl
  unfold lQ;rw[e2];exact nd
 .rw[aE c];refine#[l++[(w,v)],by simp[wk,wv],?_,by simp];unfold lQ;rw[be,oY];refine cE.mpr #[nd,by simp,λa ha b hb h=>c ?_];rw[aL.mp hb]at h;subst h;let#[p,hp,e3]:=bK.mp ha;exact dX.mpr #[.inr p.1,bK.mpr #[p,hp,rfl],by simpa using e3]
theorem RJ:∀l:L WN,Ac (wk l) (wv l)=M l
|[]=>rfl
|p::l=>by
 show(Ac (wk l)<|wv l).map _=_;rw[RJ l];rfl
def M5(l)(nd:lQ l):∃l',L3.o_ (l0 l)=l'.map nX/\lQ l'/\zl l'=zl l:=by
 refine#[Di (λp:WN=>[.inr p.1,.inl p.2]) l,?_,?_,abJ l]
 .unfold L3.o_ Di l0;rw[bV];refine kZ λi hi=>?_;have hlt:=abI i hi;rw[ai]at hlt;rw[aeL hlt];rfl
 .exact((Xi l).map λp:WN=>p.1).nodup_iff.mpr nd
def As(l:L WN):b9 (l.map nX)=W:=oM (λ_=>rfl) l
def Au(l):aH (wv l)=wv l:=f7 _ (λ_=>rfl) l
theorem M6{Y:L PG}{U:a_}{a:CE}{r:jQ}:nW Y (.cons (.u a) r) U=(pE Y (.u a) U).bind λd=>R.bP (aV d) ((nW Y r U).bind λds=>.c (d::ds)):=rfl
abbrev B3:=Str×aah Int×aah Int
abbrev bD(b:B3):D:=.d [.c b.1,oD b.2.1,oD b.2.2]
def aaq(l:L B3):aH (l.map bD)=l.map bD:=f7 bD (λb=>by show D.d [.c _,bW<|oD _,bW<|oD _]=_;rw[qF,qF]) l
abbrev GP:L PG:=[.a m7 [],.a iB []]
abbrev Gy(sc:D)(at_:Int)(kd al bn w:D)(n:Int)(ys:L Str)(l:L WN)(a b c:aah D):a_:=
 [M sc,M<|.a at_,M kd,M al,M bn,M w,M<|.a n,M<|.b W<|ys.map D.c,M<|.f W (wk l)<|wv l,a,b,c]
def pf_b(sc)(at_)(kd al bn w)(n)(n0:0<=n)(ys)(l)(nd:lQ l)(hl:zl l<60)(wd)(lo hi)(hb:Bo lo hi):∃l',lQ l'/\zl l'<=zl l+1/\b_ GP 1000 jV (Gy sc at_ kd al bn w n ys l (M<|.c wd) (M<|oD lo)<|M<|oD hi)=.a (Gy sc at_ kd al bn w n ys l' (M<|.c wd) (M<|oD lo)<|M<|oD hi):=by
 have hs:=szl;unfold jV Gy;cases lo with
 |none=>
  cases hi with
  |none=>exact aC rfl<|hb rfl
  |some h=>
   let#[l',q,q1,q2]:=Gx nd hl wd<|h-n / 7%3;refine#[l',q1,q2,?_];unfold oD;erw[d_];rw[ie rfl rfl q];erw[]
 |some lo=>
  cases hi with
  |none=>
   let#[l',q,q1,q2]:=Gx nd hl wd<|lo+n / 7%3;refine#[l',q1,q2,?_];unfold oD;erw[d_];rw[ie rfl rfl q];erw[]
  |some h=>
   generalize hM:(if h-lo+1>1 then h-lo+1 else 1)=aab;have hM0:0<aab:=by rw[<-hM];split<;>lia
   let#[l',q,q1,q2]:=Gx nd hl wd<|lo+n / 7%aab;refine#[l',q1,q2,?_];unfold oD;erw[d_,hM];rw[ie rfl rfl q];erw[]
abbrev Pt:=Str×L WN
abbrev dJ(o:Bool)(p:Pt):D:=.d [.c p.1,.b o<|p.2.map nX]
def qP(ks:L<|Str×Str)(p:Pt):Prop:=p.1∈ks.map (·.1)/\lQ p.2/\zl p.2<=9
def Vv(ns:L Int)(at_:Int)(ha:0<=at_/\at_<=1000)(ks:L<|Str×Str)(hk:u_ ks)(wa wb wc:L Str)(la:zl wa=3)(al:D)(t:L Str)(hal:al=tS t\/al=.b J (t.map D.c))(ht:t≠[])(hm:∀s∈t,s∈ks.map (·.1))(bs:L B3)(hb:∀b∈bs,Bo b.2.1 b.2.2)(hbl:zl bs<=8):∃p:Pt,qP ks p/\kO [bA ns,.a at_,.b J<|cS ks,al,.b J<|bs.map bD,wD wa wb wc]=.c (dJ W p):=by
 have hs:=szl;let#[n,n0,n1,qn]:=m8 ns at_ (by omega);have tp:(0:Int)<(zl t:Int):=by
  have:=k8.mpr ht;omega
 have b1:=c_ n tp;let#[s,sm,es]:=nH t (n%(zl t:Int)) b1.1 b1.2;let#[ys,y1,y2,y3,qy]:=MX ks hk.l8 hk.ho s<|hm s sm;have yp:(0:Int)<(zl ys:Int):=by
  have:=k8.mpr y1;omega
 have b2:=c_ (n / 4) yp;let#[s2,sm2,es2]:=nH ys (n / 4%(zl ys:Int)) b2.1 b2.2;have fal:bW al=al:=by rcases hal with rfl|rfl<;>(first|(show D.d (aH _)=_;rw[cO])|(show D.b J (aH _)=_;rw[cO]))
 have lal:jR .a [al]=.c (.a (zl t:Int)):=by
  rcases hal with rfl|rfl
  .show R.c (D.a (zl (t.map D.c):Int))=_;rw[ai]
  .show R.c (D.a (zl (t.map D.c):Int))=_;rw[ai]
 have ial:t_ al (.a<|n%(zl t:Int))=.c (.c s):=by
  rcases hal with rfl|rfl<;>(show(R.opt<|fq (t.map D.c) _).bind _=_;rw[es];rfl)
 have loop:∀l:L WN,lQ l->zl l<=1->∃p:Pt,qP ks p/\uO (b_ GP 1000 pfR<|Gy (bA ns) at_ (.b J<|cS ks) al (.b J<|bs.map bD) (wD wa wb wc) n ys l B B B)=.c (dJ W p):=by
  intro l nd hl;let#[σ',h1,l2,a,b,c,nd2,hl2,rfl]:=K2.Ct (g:=pG<|.b #v[.a 9,.a 10,.a 11]) (b:=b_ GP 1000 jV) bD bs
   (λpre U=>∃(l2:L WN) (a b c:aah D),lQ l2/\zl l2<=1+zl pre/\U=Gy (bA ns) at_ (.b J<|cS ks) al (.b J<|bs.map bD) (wD wa wb wc) n ys l2 a b c) (by
   rintro pre ⟨w,lo,hi⟩ post e U ⟨l2,a,b,c,nd2,hl2,rfl⟩;have hpre:zl pre<=8:=by rw[e]at hbl;simp at hbl;omega
   let#[l3,q1,q2,q3]:=pf_b (bA ns) at_ (.b J<|cS ks) al (.b J<|bs.map bD) (wD wa wb wc) n n0 ys l2 nd2 (by omega) w lo hi (hb (w,lo,hi) (by rw[e];simp));exact#[Gy (bA ns) at_ (.b J<|cS ks) al (.b J<|bs.map bD) (wD wa wb wc) n ys l2 (M<|.c w) (M<|oD lo)<|M<|oD hi,_,rfl,q3,l3,_,_,_,q1,by simp;omega,rfl]) (Gy (bA ns) at_ (.b J<|cS ks) al (.b J<|bs.map bD) (wD wa wb wc) n ys l B B B) #[l,_,_,_,nd,by simpa using hl,rfl]
  let#[l3,e3,nd3,hl3]:=M5 l2 nd2;refine#[(s2,l3),#[y3 s2 sm2,nd3,by show zl l3<=9;omega],?_];have hits:=RJ l2;have h64:zl l2<64:=by omega
  erw[aaq];rw[h1];erw[cO,es2,M6,Au,hits,e3,As]
 by_cases c:(n / 64%3==0)=W
 .have b3:=c_ (n / 192) (b:=3) (by decide);let#[s3,sm3,es3]:=nH wa (n / 192%3) b3.1 (by omega);let#[l',q,q1,q2]:=Gx (l:=[]) (by unfold lQ;simp) (by simp) s3<|n / 600%7-2;let#[p,hp,qp]:=loop l' q1 (by simpa using q2);refine#[p,hp,wY ?_ qp];unfold kO rQ wA;have q:putIn (.f W [] []) (.a<|n / 600%7-2) (.c s3)=M (.f W (wk l')<|wv l'):=q;unfold pfR Gy;generalize jV=aaf;erw[cN,qn,fal,lal,ial,fE,qy,c,iL,cO,es3,kP];rw[ie rfl rfl q];erw[]
 .rw[kW]at c;let#[p,hp,qp]:=loop [] (by unfold lQ;simp) (by simp);refine#[p,hp,wY ?_ qp];unfold kO rQ wA;unfold pfR Gy;generalize jV=aaf;erw[cN,qn,fal,lal,ial,fE,qy,c,cO,kP]
def Vw{β:Type}{g:D->a_->R a_}{b:a_->Fl}(enc:β->D)(xs)(I:L β->a_->Prop)(h:∀pre x post,xs=pre++x::post->∀U,I pre U->∃σ2 σ3,g (.d [.a (zl pre:Int),enc x]) U=.c σ2/\b σ2=.a σ3/\I (pre++[x]) σ3)(U:a_)(h0:I [] U):∃σ',forR g b (lH 0<|xs.map enc) U=.a σ'/\I xs σ':=by
 have go:∀(post pre:L β) (U:a_),xs=pre++post->I pre U->∃σ',forR g b (lH (zl pre)<|post.map enc) U=.a σ'/\I xs σ':=by
  intro post;induction post with
  |nil=>intro pre U e hi;rw[e,dS];exact#[U,rfl,hi]
  |cons x r ih=>
   intro pre U e hi;let#[σ2,σ3,h1,h2,h3]:=h pre x r e U hi;let#[σ',h4,h5]:=ih (pre++[x]) σ3 (by rw[e,bR];rfl) h3;refine#[σ',?_,h5];rw[aW,g9]at h4;rw[bB];show(g (.d [.a (zl pre:Int),enc x]) U).bG _=_;rw[h1];simp only[R.bG,h2];exact h4
 exact go xs [] U rfl h0
abbrev GT:L PG:=[.a iB [],.a kO []]
abbrev uq(sc kd rd w:D)(at_:Int)(pp:L Pt)(a6 a7 a8 a9 a10 a11 a12 a13 a14 a15 a16 a17 a18:aah D):a_:=
 [M sc,M<|.a at_,M kd,M rd,M w,M<|.b W<|pp.map<|dJ W,a6,a7,a8,a9,a10,a11,a12,a13,a14,a15,a16,a17,a18]
def xG(l:L Z4):aH (l.map zD)=l.map zD:=f7 zD (λz=>by show D.d [.a _,.c _,bW<|oD _,bW<|oD _]=_;rw[qF,qF]) l
def pD(l:L J3):aH (l.map jD)=l.map jD:=f7 jD (λ_=>rfl) l
def m9(l:L<|Str×Int):aH (l.map sD)=l.map sD:=f7 sD (λ_=>rfl) l
def xH(l:L<|L Str×L Int):aH (l.map cD)=l.map cD:=f7 cD (λc=>by show D.d [.d<|aH _,.d<|aH _]=_;rw[cO,fN]) l
def o_bD(l:L B3):b9 (l.map bD)=W:=oM (λb=>by show(W&&(aV (oD b.2.1)&&(aV (oD b.2.2)&&W)))=W;rw[RG,RG];rfl) l
def La(p):aV (dJ W p)=W:=by
 show(W&&((W&&b9 (p.2.map nX))&&W))=W;rw[As];rfl
theorem aar(a b c d e:D):fq [a,b,c,d,e] 0=M a:=rfl
theorem aas(a b c d e:D):fq [a,b,c,d,e] 2=M c:=rfl
theorem agJ(a b c d e:D):fq [a,b,c,d,e] 3=M d:=rfl
theorem aat(a b c d e:D):fq [a,b,c,d,e] 4=M e:=rfl
theorem agK(a b c d:D):fq [a,b,c,d] 0=M a:=rfl
theorem xJ(a b:D):fq [a,b] 0=M a:=rfl
theorem Dq(a b:D):fq [a,b] 1=M b:=rfl
def bds(zs:L Z4)(i:Int):eB (pG<|.a 0) (pT GT<|.d .Eq (.b (.a 0)<|.e<|.b 0)<|.a 1) (pE GT<|.r (.a 0) (.some<|.e<|.b 1) .none) (zs.map zD) [B,M<|.a i]=.c (((zs.filter λz=>z.1==i).map λz=>(z.2.1,z.2.2.1,z.2.2.2)).map bD):=by
 rw[bV];refine B8 zD (λU=>∃o,U=[o,M<|.a i]) (λz=>z.1==i) (λz=>bD (z.2.1,z.2.2.1,z.2.2.2)) zs _ #[_,rfl] ?_;rintro⟨n,w,lo,hi⟩ _ U ⟨o,rfl⟩;refine#[[M<|zD (n,w,lo,hi),M<|.a i],rfl,#[_,rfl],?_,?_]
 .erw[agK,qF]
 .have hd:(1:Int)<=1/\(1:Int)<=(zl [D.a n,.c w,oD lo,oD hi]:Int):=by simp
  erw[qF];show R.c (D.d [.c w,bW<|oD lo,bW<|oD hi])=_;rw[qF,qF]
section
variable(ns:L Int) (at_:Int) (ha:0<=at_/\at_<=900) (ks:L (Str×Str)) (hk:u_ ks) (wa wb wc:L Str) (la:zl wa=3) (r:Vt) (hr:ROk ks r)
include ha hk la hr
theorem th_1:∃(pp:L Pt) (a6 a7 a8:aah D),zl pp=zl r.ps/\(∀p∈pp,qP ks p) /\
  forR (pG<|.b #v[.a 6,.a 7]) (b_ GT 1000 kK) (lH 0<|r.ps.map tS) (uq (bA ns) (.b J<|cS ks) (wB J r) (wD wa wb wc) at_ [] B B B B B B B B B B B B B)=
   .a (uq (bA ns) (.b J<|cS ks) (wB J r) (wD wa wb wc) at_ pp a6 a7 a8 B B B B B B B B B B):=by
 have hs:=szl;have p4:=hr.p.1;let#[σ',h1,pp,a6,a7,a8,l1,l2,rfl]:=Vw (g:=pG<|.b #v[.a 6,.a 7]) (b:=b_ GT 1000 kK) tS r.ps
  (λpre U=>∃(pp:L Pt) (a6 a7 a8:aah D),zl pp=zl pre/\(∀p∈pp,qP ks p)/\U=uq (bA ns) (.b J<|cS ks) (wB J r) (wD wa wb wc) at_ pp a6 a7 a8 B B B B B B B B B B) (by
  rintro pre t post e U ⟨pp,a6,a7,a8,l1,l2,rfl⟩;have hpre:zl pre<5:=by rw[e]at p4;simp at p4;lia
  have ht:=hr.p.2 t (by rw[e];simp);let#[p,hp,qp]:=Vv ns (at_+(zl pre:Int)) (by lia) ks hk wa wb wc la (tS t) t (.inl rfl) ht.1.1 ht.2 ((r.zs.filter λz=>z.1==(zl pre:Int)).map λz=>(z.2.1,z.2.2.1,z.2.2.2)) (λb hb=>by
   let#[z,hz,rfl]:=bK.mp hb;exact(hr.z z (xM.mp hz).1).2) (by
   rw[ai];have:=List.length_filter_le (λz:Z4=>z.1==(zl pre:Int)) r.zs;have:=hr.z4
   lia)
  have qb:=bds r.zs (zl pre:Int);refine#[uq (bA ns) (.b J<|cS ks) (wB J r) (wD wa wb wc) at_ pp (M<|.a (zl pre:Int)) (M<|tS t) a8 B B B B B B B B B B,uq (bA ns) (.b J<|cS ks) (wB J r) (wD wa wb wc) at_ (pp++[p]) (M<|.a (zl pre:Int)) (M<|tS t) (M<|.b W<|((r.zs.filter λz=>z.1==(zl pre:Int)).map λz=>(z.2.1,z.2.2.1,z.2.2.2)).map bD) B B B B B B B B B B,rfl,?_,pp++[p],_,_,_,by simp[l1],λq hq=>?_,rfl]
  .unfold kK uq;generalize hB:((r.zs.filter λz=>z.1==(zl pre:Int)).map λz=>(z.2.1,z.2.2.1,z.2.2.2))=bs at qb qp ⊢;erw[kc,xH,pD,xG,m9,agJ,qb,o_bD,cN,fE,cO,aaq,qp];rw[i9 (xs:=pp.map<|dJ W) rfl (by rw[hs,ai];lia) (by rw[La];rfl)];erw[As,be,bB,gw]
  .rcases bC.mp hq with z|z
   .exact l2 q z
   .rw[aL.mp z];exact hp) _ #[[],_,_,_,rfl,λ_ h=>aC h aO,rfl]
 exact#[pp,a6,a7,a8,l1,l2,h1]
omit hr in
theorem th_2(m:Int)(m0:0<=m)(pp:L Pt)(hpl:zl pp<=5)(hpp:∀p∈pp,qP ks p)(rd:D)(a6 a7 a8:aah D):∃(qq:L Pt) (a10 a11:aah D),zl pp<=zl qq/\zl qq<=7/\(∀p∈qq,qP ks p) /\
  forR (pG<|.a 10) (b_ GT 1000 kJ) (gj 0 (m%3).toNat) (uq (bA ns) (.b J<|cS ks) rd (wD wa wb wc) at_ pp a6 a7 a8 (M<|.a m) B B B B B B B B B)=
   .a (uq (bA ns) (.b J<|cS ks) rd (wD wa wb wc) at_ qq a6 a7 a8 (M<|.a m) a10 a11 B B B B B B B):=by
 have hs:=szl;have b3:=c_ m (b:=3) (by decide);let#[σ',h1,qq,a10,a11,l1,l2,l3,rfl]:=j_ (g:=pG<|.a 10) (b:=b_ GT 1000 kJ) (m%3).toNat
  (λk U=>∃(qq:L Pt) (a10 a11:aah D),zl pp<=zl qq/\zl qq<=5+k/\(∀p∈qq,qP ks p)/\U=uq (bA ns) (.b J<|cS ks) rd (wD wa wb wc) at_ qq a6 a7 a8 (M<|.a m) a10 a11 B B B B B B B) (by
  rintro k hkk U ⟨qq,a10,a11,l1,l2,l3,rfl⟩;have kp:(0:Int)<(zl ks:Int):=by have:=hk.l3;lia
  have b1:=c_ (m / ((k:Int)+3)) kp;let#[j,hj,ej,ea]:=gR (cS ks) (m / ((k:Int)+3)%(zl ks:Int)) b1.1 (by rw[ai];exact b1.2);rw[cR]at ea;generalize hq:ks[j]'(by simpa using hj)=q at ea;have hqm:q.1∈ks.map (·.1):=bK.mpr #[q,by rw[<-hq];exact bY _,rfl];let#[p,hp,qp]:=Vv ns (at_+6+(k:Int)) (by lia) ks hk wa wb wc la (.b J<|[q.1].map D.c) [q.1] (.inr rfl) (by simp) (λs h=>by rw[aL.mp h];exact hqm) [] (λb h=>aC h aO) (by simp);have qp:kO [bA ns,.a<|at_+6+(k:Int),.b J<|cS ks,.b J [.c q.1],.b J [],wD wa wb wc]=.c (dJ W p):=qp;refine#[uq (bA ns) (.b J<|cS ks) rd (wD wa wb wc) at_ qq a6 a7 a8 (M<|.a m) (M<|.a k) a11 B B B B B B B,uq (bA ns) (.b J<|cS ks) rd (wD wa wb wc) at_ (qq++[p]) a6 a7 a8 (M<|.a m) (M<|.a k) (M<|.c q.1) B B B B B B B,rfl,?_,qq++[p],_,_,by simp;lia,by simp;lia,λx hx=>?_,rfl]
  .unfold kJ uq;have hd:uG m ((k:Int)+3):=by unfold uG;lia
   erw[fE,ea,D7,xJ,cN,cO,qp];rw[i9 (xs:=qq.map<|dJ W) rfl (by rw[hs,ai];lia) (by rw[La];rfl)];erw[As,be,bB,gw]
  .rcases bC.mp hx with z|z
   .exact l3 x z
   .rw[aL.mp z];exact hp) _ #[pp,_,_,aM _,by lia,hpp,rfl]
 exact#[qq,a10,a11,l1,by lia,l3,h1]
end
structure Od (n:Nat) (od:L Int):Prop where
 len:zl od=n
 sub:∀i∈od,gm n i
 has:∀k:Nat,k<n->(k:Int)∈od
def Od.ins{n:Nat}{od:L Int}(h:Od n od)(j):Od (n+1) (od.take j++(n:Int)::od.drop j):=by
 have hl:=h.len;refine#[by simp;lia,λi hi=>?_,λk hk=>?_]
 .rcases bC.mp hi with q|q
  .exact(h.sub i<|sy q).up (by lia)
  .rcases aY.mp q with q|q
   .rw[q];exact#[by lia,by lia]
   .exact(h.sub i<|sA q).up (by lia)
 .by_cases c:k<n
  .have:=h.has k c;rw[<-mR j od]at this;rcases bC.mp this with q|q
   .exact cF _ q
   .exact bw _ (az _ q)
  .have:k=n:=by lia
   rw[this];exact bw _ aD
def zd(l):kY (l.map D.a)=M l:=by
 induction l with
 |nil=>rfl
 |cons x r ih=>
  show(kY<|r.map D.a).map _=_;rw[ih];rfl
abbrev Gz(sc kd rd w:D)(at_:Int)(pp:L Pt)(m:Int)(a6 a7 a8 a10 a11:aah D)(od:L Int)(a13 a14 a15 a16 a17 a18:aah D):a_:=uq sc kd rd w at_ pp a6 a7 a8 (M<|.a m) a10 a11 (M<|.b W<|od.map D.a) a13 a14 a15 a16 a17 a18
def th_3(sc kd rd w:D)(at_ m:Int)(m0:0<=m)(pp:L Pt)(hpp:zl pp<=7)(a6 a7 a8 a10 a11:aah D):∃(od:L Int) (a10':aah D),Od (zl pp) od /\
  forR (pG<|.a 10) (b_ GT 1000 kI) (gj 0<|zl pp) (Gz sc kd rd w at_ pp m a6 a7 a8 a10 a11 [] B B B B B B)=.a (Gz sc kd rd w at_ pp m a6 a7 a8 a10' a11 od B B B B B B):=by
 have hs:=szl;let#[σ',h1,od,a10',l1,rfl]:=j_ (g:=pG<|.a 10) (b:=b_ GT 1000 kI) (zl pp)
  (λk U=>∃(od:L Int) (a10:aah D),Od k od/\U=Gz sc kd rd w at_ pp m a6 a7 a8 a10 a11 od B B B B B B) (by
  rintro k hk U ⟨od,a10,l1,rfl⟩;have b1:=c_ (m / (5*(k:Int)+7)) (b:=(k:Int)+1) (by lia);have hl:=l1.len;refine#[Gz sc kd rd w at_ pp m a6 a7 a8 (M<|.a k) a11 od B B B B B B,Gz sc kd rd w at_ pp m a6 a7 a8 (M<|.a k) a11 (od.take (m / (5*(k:Int)+7)%((k:Int)+1)).toNat++(k:Int)::od.drop (m / (5*(k:Int)+7)%((k:Int)+1)).toNat) B B B B B B,rfl,?_,_,_,l1.ins _,rfl];unfold kI Gz uq;have hd:uG m (5*(k:Int)+7):=by unfold uG;lia
  have hm:sV 5 (k:Int):=by unfold sV;lia
  erw[];rw[B7 (xs:=od.map D.a) rfl (by rw[hs,ai];lia) rfl];erw[be,bB,nE,nF]) _ #[[],_,#[rfl,λ_ h=>aC h aO,λk h=>aC h<|gU k],rfl]
 exact#[od,a10',l1,h1]
def agL(n)(od)(h:Od n od):∃sp:L Int,zl sp=n/\(∀i∈sp,gm n i) /\
  eB (pG<|.a 0) (λ_=>.c W) (pE GT<|.i .b (.a 1) #v[.a 0]) (gj 0 n) [B,M<|.b W<|od.map D.a]=.c (sp.map D.a):=by
 have q:=l6 (g:=pG<|.a 0) (e:=pE GT<|.i .b (.a 1) #v[.a 0]) (λi:Nat=>D.a<|0+(i:Int)) (λU=>∃o,U=[o,M<|.b W<|od.map D.a]) (λy=>∃i,gm n i/\y=.a i) (bg n) [B,M<|.b W<|od.map D.a] #[_,rfl] (by
  rintro k hk U ⟨o,rfl⟩;have hk:=fO.mp hk;have hm:=h.has k hk;refine#[[M<|.a<|0+(k:Int),M<|.b W<|od.map D.a],.a (od.idxOf (0+(k:Int)):Nat),rfl,#[_,rfl],?_,_,#[?_,?_],rfl]
  .have hi:uM .b (.b J<|od.map D.a) [.a<|0+(k:Int)]=.c (.a (od.idxOf (0+(k:Int)):Nat)):=MG (zd od) (by rw[sC];exact hm);erw[fN,hi]
  .lia
  .rw[sC];have:=oW.mpr hm;rw[h.len]at this;exact Int.ofNat_lt.mpr this)
 let#[ys,y1,y2,y3]:=q;let#[sp,rfl,hsp]:=typed y3;exact#[sp,by simpa using y2,hsp,y1]
def GA(o)(p):bW (dJ o p)=dJ J p:=by
 show D.d [.c p.1,.b J<|aH<|p.2.map nX]=_;rw[f7 nX λ_=>rfl]
def fG(o)(l:L Pt):aH (l.map<|dJ o)=l.map (dJ J):=fzM (GA o) l
def ze{n:Nat}{l:L Int}(h:zl l=n){i:Int}(hi:gm n i):∃v,v∈l/\fq (l.map D.a) i=M (.a v):=by
 let#[j,hj,ej,ea]:=gR (l.map D.a) i hi.1 (by rw[ai,h];exact hi.2);rw[cR]at ea;exact#[_,bY _,ea]
abbrev vc(sc kd rd w:D)(at_:Int)(pp:L Pt)(m:Int)(od sp:L Int)(jk:L<|L Key)(jv:L D)(a6 a7 a8 a10 a11 a15 a16 a17 a18:aah D):a_:=Gz sc kd rd w at_ pp m a6 a7 a8 a10 a11 od (M<|.b W<|sp.map D.a) (M<|.h W jk jv) a15 a16 a17 a18
structure Jn (n N:Nat) (jk:L (L Key)) (jv:L D):Prop where
 l:zl jk=zl jv
 b:zl jk<=N
 k:∀q∈jk,Js n q
 v:∀d∈jv,d=.e W
def Jn.put{n N:Nat}{jk:L<|L Key}{jv:L D}(h:Jn n N jk jv)(hN:N<60)(s:Str)(i j:Int)(hi:gm n i)(hj:gm n j):∃jk' jv',Jn n (N+1) jk' jv'/\putIn (.h W jk jv) (.e W) (.d [.c s,.a i,.a j])=M (.h W jk' jv'):=by
 have hs:=szl;have hb:=h.b;let#[jk',jv',hput,g1,g2,g3,g4]:=RE (d:=.e W) (j:=.d [.c s,.a i,.a j]) (q:=[.inr s,.inl i,.inl j]) h.l (by lia) rfl rfl;refine#[jk',jv',#[g1,by lia,λq hq=>?_,λy hy=>?_],hput]
 .rcases(g3 q).mp hq with z|z
  .exact#[(s,i,j),#[hi,hj],z]
  .exact h.k q z
 .rcases g4 y hy with z|z
  .exact z
  .exact h.v y z
def th_4(sc kd rd w)(at_ m)(pp)(n)(od sp)(hsp:zl sp=n)(hsi:∀i∈sp,gm n i)(js:L J3)(hj4:zl js<=4)(hj:∀j∈js,M3 n j)(a6 a7 a8 a10 a11):∃(jk:L<|L Key) (jv:L D) (a6' a15 a16:aah D),Jn n 4 jk jv /\
  forR (pG<|.b #v[.a 15,.a 6,.a 16]) (b_ GT 1000 kH) (js.map jD) (vc sc kd rd w at_ pp m od sp [] [] a6 a7 a8 a10 a11 B B B B)=.a (vc sc kd rd w at_ pp m od sp jk jv a6' a7 a8 a10 a11 a15 a16 B B):=by
 have hs:=szl;let#[σ',h1,jk,jv,a6',a15,a16,l1,rfl]:=K2.Ct (g:=pG<|.b #v[.a 15,.a 6,.a 16]) (b:=b_ GT 1000 kH) jD js
  (λpre U=>∃(jk:L<|L Key) (jv:L D) (a6 a15 a16:aah D),Jn n (zl pre) jk jv/\U=vc sc kd rd w at_ pp m od sp jk jv a6 a7 a8 a10 a11 a15 a16 B B) (by
  rintro pre ⟨s,i,j⟩ post e U ⟨jk,jv,a6,a15,a16,l1,rfl⟩;have hpre:zl pre<4:=by rw[e]at hj4;simp at hj4;lia
  let#[h1,h2]:=hj (s,i,j) (by rw[e];simp);let#[v1,v1m,e1]:=ze hsp h1;let#[v2,v2m,e2]:=ze hsp h2;let#[jk',jv',l2,q]:=l1.put (by lia) s v1 v2 (hsi v1 v1m)<|hsi v2 v2m;refine#[vc sc kd rd w at_ pp m od sp jk jv (M<|.a i) a7 a8 a10 a11 (M<|.c s) (M<|.a j) B B,vc sc kd rd w at_ pp m od sp jk' jv' (M<|.a i) a7 a8 a10 a11 (M<|.c s) (M<|.a j) B B,rfl,?_,jk',jv',_,_,_,by rw[aW];exact l2,rfl];unfold kH vc Gz uq;erw[fN,e1,e2];rw[ie rfl rfl q];erw[]) _ #[[],[],_,_,_,#[rfl,by simp,λ_ h=>aC h aO,λ_ h=>aC h aO],rfl]
 exact#[jk,jv,a6',a15,a16,#[l1.l,by have:=l1.b;lia,l1.k,l1.v],h1]
def acA(n:Nat)(sp:L Int)(hsp:zl sp=n)(hsi:∀i∈sp,gm n i)(st:L<|Str×Int)(hst:∀s∈st,gm n s.2):∃st':L<|Str×Int,zl st'=zl st/\(∀s∈st',gm n s.2) /\
  eB (pG<|.b #v[.a 0,.a 1]) (λ_=>.c W) (pE GT<|.f #v[.a 0,.b (.a 2)<|.a 1]) (st.map sD) [B,B,M<|.b W<|sp.map D.a]=.c (st'.map sD):=by
 have hs:=szl;have q:=l6 (g:=pG<|.b #v[.a 0,.a 1]) (e:=pE GT<|.f #v[.a 0,.b (.a 2)<|.a 1]) sD (λU=>∃a b,U=[a,b,M<|.b W<|sp.map D.a]) (λy=>∃s:Str×Int,gm n s.2/\y=sD s) st [B,B,M<|.b W<|sp.map D.a] #[_,_,rfl] (by
  rintro⟨s,i⟩ hm U ⟨a,b,rfl⟩;let#[v,hv,e]:=ze hsp<|hst (s,i) hm;refine#[[M<|.c s,M<|.a i,M<|.b W<|sp.map D.a],sD (s,v),rfl,#[_,_,rfl],?_,(s,v),hsi v hv,rfl];erw[fN,e])
 let#[ys,y1,y2,y3]:=q;let#[st',rfl,hq]:=typed y3;exact#[st',by simpa using y2,hq,y1]
theorem afr:kG=#v[uN,uJ,uT]:=rfl
section
variable(ns:L Int) (at_:Int) (ha:0<=at_/\at_<=900) (kd rd:D) (wa wb wc:L Str) (lb:zl wb=2) (lc:zl wc=2) (pp:L Pt) (hpp:zl pp<=7) (m:Int) (od sp:L Int) (a7 a8 a11 a15 a16:aah D)
include hpp lb lc
theorem agM(n)(n0:0<=n)(k:Nat)(N)(hN:N<60)(jk)(jv)(h:Jn (zl pp) N jk jv)(st:D)(a6:aah D):∃(jk':L<|L Key) (jv':L D) (a6':aah D),Jn (zl pp) (N+1) jk' jv' /\
  pS GT 1000 uJ (vc (bA ns) kd rd (wD wa wb wc) at_ pp m od sp jk jv a6 a7 a8 (M<|.a k) a11 a15 a16 (M st)<|M<|.a n)=.a (vc (bA ns) kd rd (wD wa wb wc) at_ pp m od sp jk' jv' a6' a7 a8 (M<|.a k) a11 a15 a16 (M st)<|M<|.a n):=by
 have hs:=szl;have up:Jn (zl pp) (N+1) jk jv:=#[h.l,by have:=h.b;lia,h.k,h.v];by_cases c1:(1:Int)<(zl pp:Int)
 .by_cases c2:(n%3==0)=W
  .have e1:=aA c1;have b2:=c_ (n / 18) (b:=2) (by decide);let#[s,hsm,es]:=nH wb (n / 18%2) b2.1 (by lia);have h1:(0:Int)<(zl pp:Int):=by omega
   have h2:(0:Int)<(zl pp:Int)-1:=by omega
   let#[jk',jv',l2,q]:=h.put hN s (n / 3%(zl pp:Int)) ((n / 3%(zl pp:Int)+1+n / 36%((zl pp:Int)-1))%(zl pp:Int)) (c_ _ h1)<|c_ _ h1;refine#[jk',jv',M<|.a<|n / 3%(zl pp:Int),l2,?_];erw[fG,e1,c2,K8,cO,es];rw[ie rfl rfl q];erw[]
  .rw[kW]at c2;have e1:=aA c1;refine#[jk,jv,a6,up,?_];erw[fG,e1,c2]
 .have e1:=aK c1;refine#[jk,jv,a6,up,?_];erw[fG,e1]
theorem agN(n:Int)(n0:0<=n)(k:Nat)(jk:L<|L Key)(jv:L D)(st:L<|Str×Int)(hst:zl st<=60)(hs2:∀s∈st,gm (zl pp) s.2)(a6:aah D):∃st':L<|Str×Int,zl st'<=zl st+1/\(∀s∈st',gm (zl pp) s.2) /\
  pS GT 1000 uT (vc (bA ns) kd rd (wD wa wb wc) at_ pp m od sp jk jv a6 a7 a8 (M<|.a k) a11 a15 a16 (M<|.b W<|st.map sD)<|M<|.a n)=.a (vc (bA ns) kd rd (wD wa wb wc) at_ pp m od sp jk jv a6 a7 a8 (M<|.a k) a11 a15 a16 (M<|.b W<|st'.map sD)<|M<|.a n):=by
 have hs:=szl;by_cases c1:(0:Int)<(zl pp:Int)
 .by_cases c2:(n%2==0)=W
  .have e1:=aA c1;have b2:=c_ (n / 20) (b:=2) (by decide);let#[s,hsm,es]:=nH wc (n / 20%2) b2.1 (by lia);have b3:=c_ (n / 2) (b:=(zl st:Int)+1) (by omega);refine#[st.take (n / 2%((zl st:Int)+1)).toNat++(s,n / 40%(zl pp:Int))::st.drop (n / 2%((zl st:Int)+1)).toNat,by simp;omega,λs' hs'=>?_,?_]
   .rcases bC.mp hs' with z|z
    .exact hs2 _ (sy z)
    .rcases aY.mp z with rfl|z
     .exact c_ _ c1
     .exact hs2 _ (sA z)
   erw[fG,m9,e1,c2,K9,cO,es];rw[B7 (xs:=st.map sD) rfl (by rw[hs,ai];lia) rfl];erw[be,bB,nE,nF]
  .rw[kW]at c2;have e1:=aA c1;refine#[st,by omega,hs2,?_];erw[fG,e1,c2]
 .have e1:=aK c1;refine#[st,by omega,hs2,?_];erw[fG,e1]
include ha
theorem th_5(jk:L<|L Key)(jv:L D)(h:Jn (zl pp) 4 jk jv)(st:L<|Str×Int)(hst:zl st<=8/\∀s∈st,gm (zl pp) s.2)(a6 a10:aah D):∃(jk':L<|L Key) (jv':L D) (st':L<|Str×Int) (a6' a10' a18:aah D),Jn (zl pp) 6 jk' jv'/\(zl st'<=10/\∀s∈st',gm (zl pp) s.2) /\
  forR (pG<|.a 10) (b_ GT 1000 kG) (gj 0 2) (vc (bA ns) kd rd (wD wa wb wc) at_ pp m od sp jk jv a6 a7 a8 a10 a11 a15 a16 (M<|.b W<|st.map sD) B)=.a (vc (bA ns) kd rd (wD wa wb wc) at_ pp m od sp jk' jv' a6' a7 a8 a10' a11 a15 a16 (M<|.b W<|st'.map sD) a18):=by
 let#[σ',h1,jk',jv',st',a6',a10',a18,l1,l2,rfl]:=j_ (g:=pG<|.a 10) (b:=b_ GT 1000 kG) 2
  (λk U=>∃(jk:L<|L Key) (jv:L D) (st:L<|Str×Int) (a6 a10 a18:aah D),Jn (zl pp) (4+k) jk jv/\(zl st<=8+k/\∀s∈st,gm (zl pp) s.2)/\U=vc (bA ns) kd rd (wD wa wb wc) at_ pp m od sp jk jv a6 a7 a8 a10 a11 a15 a16 (M<|.b W<|st.map sD) a18) (by
  rintro k hk U ⟨jk,jv,st,a6,a10,a18,l1,l2,rfl⟩;let#[n,n0,n1,qn]:=m8 ns (at_+8+(k:Int)) (by lia);have hN:pS GT 1000 uN (vc (bA ns) kd rd (wD wa wb wc) at_ pp m od sp jk jv a6 a7 a8 (M<|.a k) a11 a15 a16 (M<|.b W<|st.map sD) a18)=.a (vc (bA ns) kd rd (wD wa wb wc) at_ pp m od sp jk jv a6 a7 a8 (M<|.a k) a11 a15 a16 (M<|.b W<|st.map sD)<|M<|.a n):=by
   erw[cN,qn]
  let#[jk',jv',a6',x1,hJ]:=agM ns at_ kd rd wa wb wc lb lc pp hpp m od sp a7 a8 a11 a15 a16 n n0 k (4+k) (by lia) jk jv l1 (.b W<|st.map sD) a6;let#[st',y1,y2,hT]:=agN ns at_ kd rd wa wb wc lb lc pp hpp m od sp a7 a8 a11 a15 a16 n n0 k jk' jv' st (by lia) l2.2 a6';refine#[vc (bA ns) kd rd (wD wa wb wc) at_ pp m od sp jk jv a6 a7 a8 (M<|.a k) a11 a15 a16 (M<|.b W<|st.map sD) a18,_,rfl,?_,jk',jv',st',a6',M<|.a k,M<|.a n,x1,#[by lia,y2],rfl];rw[afr,iA,hN];show b_ GT 1000 _ _=_;rw[iA,hJ];show b_ GT 1000 _ _=_;rw[iA,hT];rfl) _ #[jk,jv,st,_,_,_,h,#[by lia,hst.2],rfl]
 exact#[jk',jv',st',a6',a10',a18,l1,l2,h1]
end
structure Th where
 ps:L Pt
 js:L J3
 st:L (Str×Int)
abbrev dR(t:Th):D:=.d [.b J<|t.ps.map<|dJ J,.b J<|t.js.map jD,.b J<|t.st.map sD]
structure sI (ks:L (Str×Str)) (t:Th):Prop where
 p:∀p∈t.ps,qP ks p
 p7:zl t.ps<=15
 j6:zl t.js<=7
 s10:zl t.st<=11
 js:∀j∈t.js,M3 (zl t.ps) j
 st:∀s∈t.st,gm (zl t.ps) s.2
def jm(o1 o2 o3 o4)(t):bW (.d [.b o1<|t.ps.map<|dJ o4,.b o2<|t.js.map jD,.b o3<|t.st.map sD])=dR t:=by
 show D.d [.b J<|aH _,.b J<|aH _,.b J<|aH _]=_;rw[fG,pD,m9]
theorem agO{α:Type}{r:R α}:R.bP J r=.d:=rfl
theorem acB{α β:Type}{f:α->R β}{y:R β}:(R.d:R α).alt f y=y:=rfl
theorem M7{α β:Type}{a:α}{f:α->R β}{y:R β}:(R.c a:R α).alt f y=f a:=rfl
def acC(ks)(pp:L Pt)(hpp:∀p∈pp,qP ks p)(od:L Int)(h:∀i∈od,gm (zl pp) i):∃qq:L Pt,zl qq=zl od/\(∀p∈qq,qP ks p) /\
  eB (pG<|.a 0) (λ_=>.c W) (pE GT<|.b (.a 1)<|.a 0) (od.map D.a) [B,M<|.b W<|pp.map<|dJ W]=.c (qq.map<|dJ J):=by
 have q:=l6 (g:=pG<|.a 0) (e:=pE GT<|.b (.a 1)<|.a 0) D.a (λU=>∃o,U=[o,M<|.b W<|pp.map<|dJ W]) (λy=>∃p,qP ks p/\y=dJ J p) od [B,M<|.b W<|pp.map<|dJ W] #[_,rfl] (by
  rintro i hi U ⟨o,rfl⟩;let#[j,hj,ej,ea]:=gR (pp.map<|dJ J) i (h i hi).1 (by rw[ai];exact(h i hi).2);rw[cR]at ea;refine#[[M<|.a i,M<|.b W<|pp.map<|dJ W],dJ J (pp[j]'(by simpa using hj)),rfl,#[_,rfl],?_,_,hpp _<|bY _,rfl];erw[fG,ea,GA]
  all_goals exact qQ R.c (GA J (pp[j]'(by simpa using hj))))
 let#[ys,y1,y2,y3]:=q;let#[qq,rfl,hq]:=typed y3;exact#[qq,by simpa using y2,hq,y1]
def PK(ns:L Int)(at_:Int)(ha:0<=at_/\at_<=900)(ks:L<|Str×Str)(hk:u_ ks)(wa wb wc:L Str)(la:zl wa=3)(lb:zl wb=2)(lc:zl wc=2)(r:Vt)(hr:ROk ks r):∃(d:D) (t:Th),nB [bA ns,.a at_,.b J<|cS ks,wB J r,wD wa wb wc]=.c d/\bW d=dR t/\sI ks t/\zl t.ps<=7/\zl t.js<=6/\zl t.st<=10:=by
 have hs:=szl;let#[pp,a6,a7,a8,p1,p2,h1]:=th_1 ns at_ ha ks hk wa wb wc la r hr;let#[m,m0,m1,qm]:=m8 ns (at_+5) (by lia);have p4:=hr.p.1;have b3:=c_ m (b:=3) (by decide);let#[qq,a10,a11,q0,q1,q2,h2]:=th_2 ns at_ ha ks hk wa wb wc la m m0 pp (by lia) p2 (wB J r) a6 a7 a8;let#[od,a10',hod,h3]:=th_3 (bA ns) (.b J<|cS ks) (wB J r) (wD wa wb wc) at_ m m0 qq q1 a6 a7 a8 a10 a11;let#[sp,s1,s2,qs]:=agL (zl qq) od hod;have up:zl r.ps<=zl qq:=by lia
 let#[jk,jv,a6',a15,a16,j1,h4]:=th_4 (bA ns) (.b J<|cS ks) (wB J r) (wD wa wb wc) at_ m qq (zl qq) od sp s1 s2 r.js hr.j4 (λj h=>#[(hr.j j h).1.up up,(hr.j j h).2.up up]) a6 a7 a8 a10' a11;let#[st,t1,t1i,qt]:=acA (zl qq) sp s1 s2 r.st λs h=>(hr.s s h).up up;have s8:=hr.s8;let#[jk',jv',st',a6'',a10'',a18,j2,t2,h5]:=th_5 ns at_ ha (.b J<|cS ks) (wB J r) wa wb wc lb lc qq q1 m od sp a7 a8 a11 a15 a16 jk jv j1 st #[by lia,t1i] a6' a10';let#[pf,f1,f2,qf]:=acC ks qq q2 od hod.sub;let#[srJ,eJ,lJ,mJ]:=HY jk';let#[js,ejs,hjs]:=M4 (λq h=>j2.k q (mJ q h):∀q∈srJ,Js (zl qq) q);have jb:=j2.b;have oJ:=Vs (by lia) j2.k;have ljs:zl js<=6:=by rw[ejs,ai]at lJ;lia
 rw[ejs,Gw]at eJ;have oj:b9 (js.map jD)=W:=by rw[<-Gw];exact K_ _
 have rg3:-(2 ^ 62)<=m%3/\(m%3).toNat<=ao:=by lia
 have rgq:-(2 ^ 62)<=(zl qq:Int)/\(zl qq:Int).toNat<=ao:=by lia
 have rg2:-(2 ^ 62)<=(2:Int)/\(2:Int).toNat<=ao:=by lia
 have tok:sI ks ⟨pf,js,st'⟩/\zl pf<=7/\zl js<=6/\zl st'<=10:=#[#[f2,by have:=hod.len;show zl pf<=15;lia,by show zl js<=7;lia,by show zl st'<=11;have:=t2.1;lia,by rw[show zl pf=zl qq from f1.trans hod.len];exact hjs,by rw[show zl pf=zl qq from f1.trans hod.len];exact t2.2],by have:=hod.len;lia,ljs,t2.1];unfold nB uS A1;unfold Gz uq at h3;unfold uq at h1 h2;rw[gw]at h1;rw[gw]at h3;generalize kG=B1 at h5 ⊢;generalize kH=B2 at h4 ⊢;generalize kI=B3 at h3 ⊢;generalize kJ=B4 at h2 ⊢;generalize kK=B5 at h1 ⊢;cases ob:b9 (pf.map<|dJ J)with
 |true=>
  refine#[.d [.b W<|pf.map<|dJ J,.b W<|js.map jD,.b W<|st'.map sD],#[pf,js,st'],?_,jm W W W J #[pf,js,st'],tok];erw[kc,xH,pD,xG,m9,aar];rw[h1];erw[cN,qm];rw[h2];erw[fG,fY];rw[h3];erw[fG,fY,qs,lP,kc,xH,pD,xG,m9,aas];rw[h4];erw[kc,xH,pD,xG,m9,aat,qt,EM];rw[show C2 2=2 from rfl,h5];erw[fN,qf,ob,oJ,eJ,oj,EM,M7]
 |false=>
  refine#[.d [.b W<|pf.map<|dJ J,.b W<|js.map jD,.b J<|st'.map sD],#[pf,js,st'],?_,jm W W J J #[pf,js,st'],tok];erw[kc,xH,pD,xG,m9,aar];rw[h1];erw[cN,qm];rw[h2];erw[fG,fY];rw[h3];erw[fG,fY,qs,lP,kc,xH,pD,xG,m9,aas];rw[h4];erw[kc,xH,pD,xG,m9,aat,qt,EM];rw[show C2 2=2 from rfl,h5];erw[fN,qf,ob,oJ,eJ,oj,EM,agO,acB,m9]
noncomputable abbrev uk(ks:L<|Str×Str):L Key:=ks.map λp=>.inr p.1
noncomputable abbrev uv(ks:L<|Str×Str):L D:=ks.map λp=>.c p.2
theorem aau:∀{ks:L<|Str×Str},(ks.map (·.1)).Nodup->∀(j:Nat) (p),ks[j]?=M p->ia (uk ks) (uv ks) (.inr p.1)=M (.c p.2)
|[],_,j,p,h=>by simp at h
|x::ks,nd,j,p,h=>by
 let#[h1,h2]:=cL.mp (show(x.1::ks.map (·.1)).Nodup from nd);show(if(eG x.1:Key)=.inr p.1 then M (D.c x.2)else ia (uk ks) (uv ks) (.inr p.1))=_;cases j with
 |zero=>
  simp at h;rw[h,aQ rfl]
 |succ j=>
  have h':ks[j]?=M p:=by simpa using h
  have hm:p.1∈ks.map (·.1):=bK.mpr #[p,jo h',rfl];rw[aE λz=>h1 (by rw[yE z];exact hm)];exact aau h2 j p h'
theorem Vx:∀{ks:L<|Str×Str}{a:Str},a∉ks.map (·.1)->ia (uk ks) (uv ks) (.inr a)=B
|[],a,_=>rfl
|x::ks,a,h=>by
 have h:a∉x.1::ks.map (·.1):=h;show(if(eG x.1:Key)=.inr a then M (D.c x.2)else ia (uk ks) (uv ks) (.inr a))=_;rw[aE λz=>h (by rw[yE z];exact aD)];exact Vx λz=>h<|az _ z
theorem PL:∀ks:L<|Str×Str,oE (cS ks)=M (ks.map λp=>((eG p.1:Key),D.c p.2))
|[]=>rfl
|p::ks=>by
 show(pairD<|D7 p).bind _=_;have:pairD (D7 p)=M ((eG p.1:Key),D.c p.2):=rfl;rw[this];rw[PL ks];rfl
def JO{l:L Str}(h:l.Nodup):(l.map (eG:Str->Key)).Nodup:=j7.mpr<|h.imp λhne z=>hne<|yE z
def afs{ks:L<|Str×Str}(nd:(ks.map (·.1)).Nodup)(o):jR .b [.b o<|cS ks]=.c (.f W (uk ks)<|uv ks):=by
 show(R.opt<|oE<|cS ks).bind _=_;rw[PL];show R.bP (decide ((ks.map λp=>((eG p.1:Key),D.c p.2)).map (·.1)).Nodup) _=_;have e:(ks.map λp=>((eG p.1:Key),D.c p.2)).map (·.1)=(ks.map (·.1)).map eG:=by simp
 rw[aA (by rw[e];exact JO nd)];rw[bV,bV];show R.c (D.f W (uk ks)<|aH<|uv ks)=_;rw[f7 _ λ_=>rfl]
theorem Vy:∀(l) (a),a∉l.map (·.1)->iG l a=[a]
|[],a,_=>rfl
|p::r,a,h=>by
 rw[show iG (p::r) a=iG r a from aE λz=>h (by rw[<-z.1];exact aD)];exact Vy r a λz=>h<|az _ z
def acD(ks:L<|Str×Str)(hk:u_ ks)(x y:aah D):∀(rest skip:L<|Str×Str) (pre:L Str) (a:Str) (fuel:Nat),ks.reverse=skip++rest->rest.length<fuel->zl pre+rest.length<=12->(a∈ks.map (·.1)->a∈rest.map (·.1))->
  v9 (pT [] upT) (b_ [] 1000 jH) fuel [x,y,M<|.f W (uk ks)<|uv ks,M<|.b W<|(pre++[a]).map D.c]=.a [x,y,M<|.f W (uk ks)<|uv ks,M<|.b W<|(pre++iG rest a).map D.c]:=by
 have hs:=szl;have fzu:aH (uv ks)=uv ks:=f7 _ (λ_=>rfl) _;have stop:∀(pre:L Str) (a:Str) (f:Nat),uM .c (.f J (uk ks)<|uv ks) [.c a,.c ""]=.c (.c "")->v9 (pT [] upT) (b_ [] 1000 jH) (f+1) [x,y,M<|.f W (uk ks)<|uv ks,M<|.b W<|(pre++[a]).map D.c]=.a [x,y,M<|.f W (uk ks)<|uv ks,M<|.b W<|(pre++[a]).map D.c]:=λpre a f eg=>by
  have ea:fq ((pre++[a]).map D.c) (-1)=M (.c a):=by rw[be];exact zS (pre.map D.c)<|.c a
  have e:(o5 ""==o5 "")=W:=by simp
  show(pT _ _ _).bG _=_;erw[fzu,cO,ea,eg,e,lG]
 have eg:∀{a u:Str},ia (uk ks) (uv ks) (.inr a)=M (.c u)->uM .c (.f J (uk ks)<|uv ks) [.c a,.c ""]=.c (.c u):=λ{a u} h=>by
  show R.c (bW<|(ia (uk ks) (uv ks)<|.inr a).getD<|.c "")=_;rw[h];rfl
 intro rest;induction rest with
 |nil=>
  intro skip pre a fuel _ hf _ hm;obtain⟨f,rfl⟩:∃f,fuel=f+1:=#[fuel-1,by lia];exact stop pre a f (by
   show R.c (bW<|(ia (uk ks) (uv ks)<|.inr a).getD<|.c "")=_;rw[Vx λz=>aC (hm z) aO];rfl)
 |cons p r ih=>
  intro skip pre a fuel e hf hl hm;have e':ks.reverse=(skip++[p])++r:=by rw[e,bR];rfl
  have ek:ks=r.reverse++p::skip.reverse:=by rw[<-List.reverse_reverse ks,e];simp
  have hp:ks[zl r]?=M p:=by rw[ek,eU<|by simp];simp
  have tk:(ks.map (·.1)).take (zl r)=r.reverse.map (·.1):=by rw[ek,be,List.take_left'<|by simp]
  by_cases c:p.1=a
  .subst c;have gu:=aau hk.nd (zl r) p hp;have gd:=hk.gd (zl r) p hp;rw[tk,qU,qV]at gd;obtain⟨f,rfl⟩:∃f,fuel=f+1:=#[fuel-1,by lia];by_cases hu:p.2=""
   .rw[hu]at gu;rw[show iG (p::r) p.1=iG r p.1 from aE λz=>z.2 hu,Vy r p.1 λz=>by
     have nd:=hk.nd;rw[ek,be,cE]at nd;exact nd.2.2 p.1 (by rw[qU,qV];exact z) p.1 aD rfl]
    exact stop pre p.1 f<|eg gu
   .have e0:(p.2==o5 "")=J:=by rw[fX];exact hu
    rw[show iG (p::r) p.1=p.1::iG r p.2 from aQ #[rfl,hu]];have r2:=ih (skip++[p]) (pre++[p.1]) p.2 f e' (by simp at hf;omega) (by simp at hl ⊢;lia) λ_=>gd.resolve_left hu;rw[bR pre,bR pre]at r2;refine wY ?_ r2;rw[<-bR];have ei:t_ (.f J (uk ks)<|uv ks) (.c p.1)=.c (.c p.2):=by
     have:=MF (o:=J) (ks:=uk ks) (xs:=uv ks) (k:=.inr p.1);rw[gu]at this;exact this
    have eg:=eg gu;have ea:fq ((pre++[p.1]).map D.c) (-1)=M (.c p.1):=by rw[be];exact zS (pre.map D.c)<|.c p.1
    have hl2:zl ((pre++[p.1]).map D.c)<ao:=by simp at hl ⊢;lia
    rw[be (l₁:=pre++[p.1])];generalize p.1=a at *;generalize p.2=u at *;show(pT _ _ _).bG _=_;erw[fzu,cO,ea,eg,e0,pP];show(match b_ [] 1000 jH _ with|.a σ3=>_|.e σ3=>_|.f σ3=>_|.c d=>_|.d x=>_|.b=>_)=_;unfold jH;erw[fzu,cO,ea,ei];rw[i9 (xs:=(pre++[a]).map D.c) rfl hl2 rfl];erw[]
  .rw[show iG (p::r) a=iG r a from aE λz=>c z.1];refine ih (skip++[p]) pre a fuel e' (by simp at hf;lia) (by simp at hl;lia) λz=>?_;rcases aY.mp (hm z)with q|q
   .exact aC q.symm c
   .exact q
def o_uv(ks):b9 (uv ks)=W:=oM (λ_=>rfl) ks
def Oc(ks)(hk:u_ ks)(a):tW [.b J<|cS ks,.c a]=.c (.b W<|(iG ks.reverse a).map D.c):=by
 have hs:=szl;have l8:=hk.l8;have q:=acD ks hk (M<|.b J<|cS ks) (M<|.c a) ks.reverse [] [] a 1000 rfl (by simp;lia) (by simp;lia) (λh=>by rw[qU,qV];exact h);have hd:=afs hk.nd J;have q':v9 (pT [] upT) (b_ [] 1000 jH) 1000 [M<|.b J<|cS ks,M<|.c a,M<|.f W (uk ks)<|uv ks,M<|.b W [.c a]]=_:=q;unfold tW ym;generalize jH=aaf at q' ⊢;rw[show DZ=[]from rfl];erw[hd,fE,o_uv,q',lT]
def acE(l:L Int):mF (l.map D.a)=W:=by
 induction l with
 |nil=>rfl
 |cons x r ih=>exact ih
def PM{β:Type}{f:β->D}{x:β}(h:∀y,k_ (f y) (f x)=W↔y=x)(l:L β):memD (f x) (l.map f)=W↔x∈l:=by
 unfold memD;rw[w5,dX];exact#[λqq=>by let#[y,hy,e]:=qq;exact((h y).mp e)▸hy,λhx=>#[x,hx,(h x).mpr rfl]]
def agP(a)(l:L Str):memD (.c a) (l.map D.c)=W↔a∈l:=PM (λy=>by show(y==a)=W↔_;exact jP) l
def agQ(a)(l:L Int):memD (.a a) (l.map D.a)=W↔a∈l:=PM (λy=>by show(y==a)=W↔_;exact jP) l
def afu{β:Type}(p:β->Bool)(l:L β):(l.map λx=>D.e<|p x).any tU=l.any p/\(l.map λx=>D.e<|p x).all qB=W/\(l.map λx=>D.e<|p x).all tU=l.all p:=by
 induction l with
 |nil=>simp
 |cons x r ih=>
  simp only[bB,qI,iU,ih.1,ih.2.1,ih.2.2];cases p x<;>exact#[rfl,rfl,rfl]
abbrev Up(ks:L<|Str×Str)(a:Str):L Str:=iG ks.reverse a
def aav{x:D}{l:L D}{p:Prop}[C1 p](o:Bool)(h1:gP x=W)(h2:mF l=W)(h:memD x l=W↔p):inD x (.b o l)=.c (decide p):=by
 show R.bP (gP x&&mF l) (.c<|memD x l)=_;rw[h1,h2];show R.c _=_;by_cases c:p
 .rw[aA c,h.mpr c]
 .rw[aK c];cases e:memD x l with
  |false=>rfl
  |true=>exact aC (h.mp e) c
def HZ(o:Bool)(b:Str)(l:L Str):inD (.c b) (.b o<|l.map D.c)=.c (decide<|b∈l):=aav o rfl (HW l)<|agP b l
def afv(o:Bool)(b:Int)(l:L Int):inD (.a b) (.b o<|l.map D.a)=.c (decide<|b∈l):=aav o rfl (acE l)<|agQ b l
def zf{x y:D}{b:Bool}(h:inD x y=.c b):gY .In x y=.c (.e b):=by show(inD x y).bind _=_;rw[h];rfl
def PN{x y:D}{b:Bool}(h:inD x y=.c b):gY .NotIn x y=.c (.e !b):=by show(inD x y).bind _=_;rw[h];rfl
noncomputable def lu:L WN->Str->aah Int
|[],_=>B
|p::r,w=>if p.1=w then M p.2 else lu r w
theorem RK:∀(l:L WN) (w:Str),ia (wk l) (wv l) (.inr w)=(lu l w).map D.a
|[],_=>rfl
|p::r,w=>by
 show(if(eG p.1:Key)=.inr w then M (D.a p.2)else ia (wk r) (wv r) (.inr w))=((if p.1=w then M p.2 else lu r w)).map D.a;by_cases c:p.1=w
 .rw[aQ (by rw[c]),aQ c];rfl
 .rw[aE (by simpa using c),aE c,RK r w]
theorem Lb:∀(l:L WN) (w:Str),ji (wk l) (.inr w)=(lu l w).isSome
|[],_=>rfl
|p::r,w=>by
 show(decide ((eG p.1:Key)=.inr w)||ji (wk r) (.inr w))=((if p.1=w then M p.2 else lu r w)).isSome;by_cases c:p.1=w
 .rw[aA (by rw[c]),aQ c];rfl
 .rw[aK (by simpa using c),aE c,Lb r w];rfl
def Zk(o:Bool)(w:Str)(l:L WN):inD (.c w) (.f o (wk l)<|wv l)=.c (lu l w).isSome:=by show R.c _=_;rw[Lb]
theorem M8:∀(l:L WN) (p:WN) (w:Str),w≠p.1->lu (l++[p]) w=lu l w
|[],p,w,h=>aE<|dc h
|q::r,p,w,h=>by
 show(if q.1=w then M q.2 else lu (r++[p]) w)=if q.1=w then M q.2 else lu r w
 rw[M8 r p w h]
theorem Vz:∀(l:L WN) (w:Str) (v:Int) (x:Str),x≠w->lu (l.map λp=>if p.1=w then(p.1,v)else p) x=lu l x
|[],_,_,_,_=>rfl
|q::r,w,v,x,h=>by
 show(if(if q.1=w then(q.1,v)else q).1=x then M (if q.1=w then(q.1,v)else q).2 else lu (r.map λp=>if p.1=w then(p.1,v)else p) x)=if q.1=x then M q.2 else lu r x
 rw[Vz r w v x h];by_cases c:q.1=w
 .rw[aQ c];rw[aE λz=>h<|z.symm.trans c,aE λz=>h<|z.symm.trans c]
 .rw[aE c]
def agR{l:L WN}(nd:lQ l)(hl:zl l<60)(w:Str)(v:Int):∃l',putIn (.f W (wk l)<|wv l) (.a v) (.c w)=M (.f W (wk l')<|wv l')/\(lQ l'/\zl l'<=zl l+1)/\∀x,x≠w->lu l' x=lu l x:=by
 have hs:=szl;have e:putIn (.f W (wk l)<|wv l) (.a v) (.c w)=(if(wk l).length<ao then(if ji (wk l) (.inr w)=W then(if mq (.a v)=W then M (.f W (wk l)<|nM (wk l) (wv l) (.inr w)<|.a v)else B)else M (.f W (wk l++[.inr w])<|wv l++[.a v]))else B):=rfl;let#[l',q1,q2,q3]:=Gx nd hl w v;refine#[l',q1,#[q2,q3],λx hx=>?_];rw[e,aQ (by rw[ai];lia)]at q1;have inj:∀{a b:L WN},wk a=wk b->wv a=wv b->a=b:=λ{a}=>by
  induction a with
  |nil=>intro b h _;cases b with|nil=>rfl|cons _ _=>cases h
  |cons p r ih=>
   intro b h1 h2;cases b with
   |nil=>cases h1
   |cons q s=>
    injection h1 with h3 h4;injection h2 with h5 h6;injection h3 with h3;injection h5 with h5;rw[ih h4 h6,Prod.ext h3 h5]
 by_cases c:ji (wk l) (.inr w)=W
 .rw[aQ c,aQ (show mq (.a v)=W from rfl),RI]at q1;have ek:wk (l.map λp=>if p.1=w then(p.1,v)else p)=wk l:=by
   unfold wk;rw[bV];refine kZ λp _=>?_;show(eG (if p.1=w then(p.1,v)else p).1:Key)=_;split<;>rfl
  injection q1 with q1;injection q1 with _ z1 z2;rw[<-inj (ek.trans z1) z2,Vz l w v x hx]
 .rw[aE c]at q1;injection q1 with q1;injection q1 with _ z1 z2;have:l++[(w,v)]=l':=inj (by rw[<-z1];simp[wk]) (by rw[<-z2];simp[wv]);rw[<-this,M8 l (w,v) x hx]
def Av(ks:L<|Str×Str)(hk:u_ ks)(a b:Str):vt [.b J<|cS ks,.c a,.c b]=.c (.e<|decide<|b∈Up ks a):=by
 unfold vt Ai Ge;erw[fE,Oc ks hk,zf<|HZ W b<|iG ks.reverse a]
def wF(ks:L<|Str×Str)(a b:Str):D:=if b∈Up ks a then .c a else if a∈Up ks b then .c b else .g
def acF(ks:L<|Str×Str)(hk:u_ ks)(a b:Str):rT [.b J<|cS ks,.c a,.c b]=.c (wF ks a b):=by
 unfold rT Aj Gf wF;by_cases c:b∈Up ks a
 .rw[aQ c];erw[fE,Av ks hk,aA c]
 .rw[aE c];by_cases c2:a∈Up ks b
  .rw[aQ c2];erw[fE,Av ks hk,aK c,aA c2]
  .rw[aE c2];erw[fE,Av ks hk,aK c,aK c2]
def uu{g:D->a_->R a_}{b:a_->Fl}{x:D}{r:L D}{U σ2 σ3:a_}(h1:g x U=.c σ2)(h2:b σ2=.a σ3):forR g b (x::r) U=forR g b r σ3:=by
 show(g x U).bG _=_;rw[h1];show(match b σ2 with
    |.a σ3=>forR g b r σ3
    |.e σ3=>forR g b r σ3
    |.f σ3=>.a σ3
    |.c d=>.c d
    |.d x=>.d x
    |.b=>.b)=_
 rw[h2]
def M9{g:D->a_->R a_}{b:a_->Fl}{x:D}{r:L D}{U σ2:a_}{d:D}(h1:g x U=.c σ2)(h2:b σ2=.c d):forR g b (x::r) U=.c d:=by
 show(g x U).bG _=_;rw[h1];show(match b σ2 with
    |.a σ3=>forR g b r σ3
    |.e σ3=>forR g b r σ3
    |.f σ3=>.a σ3
    |.c d=>.c d
    |.d x=>.d x
    |.b=>.b)=_
 rw[h2]
theorem PR:∀l:L WN,oE (l.map nX)=M (l.map λp=>((eG p.1:Key),D.a p.2))
|[]=>rfl
|p::l=>by
 show(pairD<|nX p).bind _=_;have:pairD (nX p)=M ((eG p.1:Key),D.a p.2):=rfl;rw[this];rw[PR l];rfl
def VA{l:L WN}(nd:lQ l)(o:Bool):jR .b [.b o<|l.map nX]=.c (.f W (wk l)<|wv l):=by
 show(R.opt<|oE<|l.map nX).bind _=_;rw[PR];show R.bP (decide ((l.map λp=>((eG p.1:Key),D.a p.2)).map (·.1)).Nodup) _=_;have e:(l.map λp=>((eG p.1:Key),D.a p.2)).map (·.1)=(l.map (·.1)).map eG:=by rw[bV,bV];rfl
 rw[aA (by rw[e];exact JO nd)];rw[bV,bV];show R.c (D.f W (wk l)<|aH<|wv l)=_;rw[Au]
def uw(l:L WN)(p:WN):Bool:=match lu l p.1 with
|some n=>!(n==p.2)
|none=>J
def zg(l m:L WN):Bool:=m.any<|uw l
def afw(o:Bool){l:L WN}{w:Str}{m:Int}(h:lu l w=M m):t_ (.f o (wk l)<|wv l) (.c w)=.c (.a m):=by
 show(R.opt<|ia (wk l) (wv l)<|.inr w).bind _=_;rw[RK,h];rfl
abbrev GO:L PG:=[.a jl []]
abbrev ux(ks p q kd:D)(l:L WN)(a b:aah D):a_:=[M ks,M p,M q,M kd,M<|.f W (wk l)<|wv l,a,b]
def op_b(ks p q kd:D)(l:L WN)(nd:lQ l)(hl:zl l<60)(w:Str)(n:Int):∃l',(lQ l'/\zl l'<=zl l+1)/\(∀x,x≠w->lu l' x=lu l x) /\
  b_ GO 1000 lN (ux ks p q kd l (M<|.c w)<|M<|.a n)=.a (ux ks p q (if uw l (w,n)=W then .g else kd) l' (M<|.c w)<|M<|.a n):=by
 let#[l',e1,e2,e3]:=agR nd hl w n;refine#[l',e2,e3,?_];unfold lN ux uw;cases c:lu l w with
 |none=>
  erw[Au,zf<|Zk J w l,c,A_];rw[ie rfl rfl e1];erw[]
 |some m=>
  cases c2:m==n with
  |true=>
   erw[Au,zf<|Zk J w l,c,A_,afw J c,c2];rw[ie rfl rfl e1];erw[]
  |false=>
   erw[Au,zf<|Zk J w l,c,A_,afw J c,c2];rw[ie rfl rfl e1];erw[]
theorem PU(ks p q:D)(l:L WN):∀(m cur:L WN) (kd:D) (a b:aah D),lQ m->lQ cur->zl cur+zl m<60->(∀x∈m,lu cur x.1=lu l x.1)->∃cur' a' b',(lQ cur'/\zl cur'<=zl cur+zl m) /\
 forR (pG<|.b #v[.a 5,.a 6]) (b_ GO 1000 lN) (m.map nX) (ux ks p q kd cur a b)=.a (ux ks p q (if zg l m=W then .g else kd) cur' a' b')
|[],cur,kd,a,b,_,hc,_,_=>#[cur,a,b,#[hc,aM _],rfl]
|(w,n)::r,cur,kd,a,b,hm,hc,hl,hk=>by
 let#[l',#[e1,e2],e3,e4]:=op_b ks p q kd cur hc (by simp at hl;lia) w n;have hm':=cL.mp (show(w::r.map (·.1)).Nodup from hm);let#[cur',a',b',#[f1,f2],f3]:=PU ks p q l r l' (if uw cur (w,n)=W then .g else kd) (M<|.c w) (M<|.a n) hm'.2 e1 (by simp at hl;lia) (λx hx=>by
  rw[e3 x.1 λz=>hm'.1<|z▸bK.mpr #[x,hx,rfl],hk x<|az _ hx])
 refine#[cur',a',b',#[f1,by simp;lia],?_];rw[bB,uu (σ2:=ux ks p q kd cur (M<|.c w)<|M<|.a n) rfl e4,f3];have:uw cur (w,n)=uw l (w,n):=by unfold uw;rw[hk (w,n) aD]
 rw[this];show _=Fl.a (ux ks p q (if(uw l (w,n)||zg l r)=W then .g else kd) cur' a' b');cases uw l (w,n)<;>cases zg l r<;>rfl
def Cu(ks:L<|Str×Str)(p q:Pt):Bool:=(decide (q.1∈Up ks p.1)||decide (p.1∈Up ks q.1))&&!zg p.2 q.2
def kg(l:L WN):aH (l.map nX)=l.map nX:=f7 nX (λ_=>rfl) l
def aaw(o:Bool){l l':L WN}(h:L3.o_ (l0 l)=l'.map nX)(hl:zl l<64):Hz (.f o (wk l)<|wv l)=.c (.b W<|l'.map nX):=by rw[Vi (RJ l) hl,h]
def H9(l:L WN):b9 (wv l)=W:=by
 induction l with
 |nil=>rfl
 |cons k r ih=>exact ih
def H_(ks:D)(p q:Pt)(hp:lQ p.2/\zl p.2<=9)(hq:lQ q.2/\zl q.2<=9)(kd:D)(hk:kd=.g\/∃s,kd=.c s):∃d,b_ GO 1000 ML [M ks,M<|dJ J p,M<|dJ J q,M kd,B,B,B]=.c d/\d_ (bW d)=(d_ kd||zg p.2 q.2):=by
 have hs:=szl;let#[pk,pl]:=p;let#[qk,ql]:=q;let#[cur,a,b,#[h1,h2],go]:=PU ks (dJ J (pk,pl)) (dJ J (qk,ql)) pl ql pl kd B B hq.1 hp.1 (by simp at hp hq ⊢;lia) λ_ _=>rfl;let#[l',s1,s2,s3]:=M5 cur h1;have hl:zl cur<64:=by simp at hp hq h2;lia
 have dw:=VA hp.1 J;unfold ML dJ;generalize lN=B1 at go ⊢;cases e:zg pl ql with
 |true=>
  rw[e,aQ rfl]at go;refine#[.g,?_,by rw[wV];rfl];erw[kg,dw,Dq,H9];rw[go];erw[d_]
 |false=>
  rw[e,aE aN]at go;rcases hk with rfl|⟨s,rfl⟩
  .refine#[.g,?_,rfl];erw[kg,dw,Dq,H9];rw[go];erw[d_]
  .refine#[.d [.c s,.b W<|l'.map nX],?_,rfl];erw[kg,dw,Dq,H9];rw[go];erw[d_,M6,Au,aaw J s1 hl,As,M7]
theorem agS:wu=.cons (.c (.a 3)<|.e .d) (.cons (.b (.d .In (.b (.a 2)<|.e<|.b 0)<|.c 0 #v[.a 0,.b (.a 1)<|.e<|.b 0])
  #v[.c (.a 3)<|.b (.a 1)<|.e<|.b 0]
  #v[.b (.d .In (.b (.a 1)<|.e<|.b 0)<|.c 0 #v[.a 0,.b (.a 2)<|.e<|.b 0])
   #v[.c (.a 3)<|.b (.a 2)<|.e<|.b 0] .nil]) ML):=rfl
def GB(ks:L<|Str×Str)(hk:u_ ks)(p q:Pt)(hp:qP ks p)(hq:qP ks q):∃d:D,kL [.b J<|cS ks,dJ J p,dJ J q]=.c d/\d_ (bW d)=!Cu ks p q:=by
 have h8:=hk.l8;have up:=λa=>aap ks h8 a;unfold kL Cj Cu;rw[agS];by_cases c:q.1∈Up ks p.1
 .obtain⟨d,e1,e2⟩:=H_ (.b J<|cS ks) p q hp.2 hq.2 (.c p.1)<|.inr #[_,rfl];refine#[d,?_,by rw[e2,aA c];cases zg p.2 q.2<;>rfl];generalize ML=R at e1 ⊢;erw[fE,kg,up,zf<|HZ W q.1<|iG ks.reverse p.1,aA c,xJ];rw[e1];erw[]
 .by_cases c2:p.1∈Up ks q.1
  .obtain⟨d,e1,e2⟩:=H_ (.b J<|cS ks) p q hp.2 hq.2 (.c q.1)<|.inr #[_,rfl];refine#[d,?_,by rw[e2,aK c,aA c2];cases zg p.2 q.2<;>rfl];generalize ML=R at e1 ⊢;erw[fE,kg,up,zf<|HZ W q.1<|iG ks.reverse p.1,zf<|HZ W p.1<|iG ks.reverse q.1,aK c,aA c2,xJ];rw[e1];erw[]
  .obtain⟨d,e1,e2⟩:=H_ (.b J<|cS ks) p q hp.2 hq.2 .g<|.inl rfl;refine#[d,?_,by rw[e2,aK c,aK c2];rfl];generalize ML=R at e1 ⊢;erw[fE,kg,up,zf<|HZ W q.1<|iG ks.reverse p.1,zf<|HZ W p.1<|iG ks.reverse q.1,aK c,aK c2,xJ];rw[e1];erw[]
abbrev GH:L PG:=[.a rT []]
def agT(k:Nat)(U:a_){l:L WN}(hl:zl l<60)(w:Str)(n:Int):BV k U (M<|M<|.f W (wk l)<|wv l) (M<|M<|.c w) (M<|M<|.a n)=match lu l w with
  |some m=>M (U,decide<|m≠n)
  |none=>M (U.set k<|M<|.f W (wk<|l++[(w,n)])<|wv<|l++[(w,n)],J):=by
 have hs:=szl;have hz:zl (wk l)<ao:=by rw[ai];omega
 show(if(wk l).length<ao then(match ia (wk l) (wv l) (.inr w)with
  |some m=>(u7 m).map λm=>(U,decide<|m≠n)
  |none=>if ji (wk l) (.inr w)=J then M (U.set k<|M<|.f W (wk l++[eG w])<|wv l++[D.a n],J)else B)else B)=_
 rw[aQ hz,RK];cases c:lu l w with
 |none=>
  show(if ji (wk l) (.inr w)=J then M (U.set k<|M<|.f W (wk l++[eG w])<|wv l++[D.a n],J)else B)=_;rw[aQ (by rw[Lb,c];rfl)];simp[wk,wv]
 |some m=>rfl
def ps_b(ks p q kd:D)(l:L WN)(nd:lQ l)(hl:zl l<60)(w:Str)(n:Int):(uw l (w,n)=W->b_ GH 1000 iY (ux ks p q kd l (M<|.c w)<|M<|.a n)=.c .g) /\
  (uw l (w,n)=J->∃l',(lQ l'/\zl l'<=zl l+1)/\(∀x,x≠w->lu l' x=lu l x)/\b_ GH 1000 iY (ux ks p q kd l (M<|.c w)<|M<|.a n)=.a (ux ks p q kd l' (M<|.c w)<|M<|.a n)):=by
 have q:=agT 4 (ux ks p q kd l (M<|.c w)<|M<|.a n) hl w n;unfold uw;unfold iY ux;rw[iA,MH];show(_->yk (ME _ _ _ _<|BV 4 _ (M<|M<|.f W (wk l)<|wv l) (M<|M<|.c w)<|M<|M<|.a n) _=_)/\(_->∃l',_/\_/\yk (ME _ _ _ _<|BV 4 _ (M<|M<|.f W (wk l)<|wv l) (M<|M<|.c w)<|M<|M<|.a n) _=_);rw[q];cases c:lu l w with
 |none=>
  refine#[λh=>aC (show J=W from h) aN,λ_=>#[l++[(w,n)],#[?_,by simp],λx hx=>M8 l (w,n) x hx,rfl]];unfold lQ;rw[be,oY];refine cE.mpr #[nd,by simp,λa ha b hb h=>?_];rw[aL.mp hb]at h;rw[h]at ha;have:=Lb l w;rw[c]at this;let#[p,hp,e3]:=bK.mp ha;have z:ji (wk l) (.inr w)=W:=dX.mpr #[.inr p.1,bK.mpr #[p,hp,rfl],by simpa using e3];rw[z]at this;cases this
 |some m=>
  cases c2:m==n with
  |true=>
   have e:decide (m≠n)=J:=by simpa using c2
   refine#[λh=>aC (show(!(m==n))=W from h) (by rw[c2];decide),λ_=>#[l,#[nd,by lia],λ_ _=>rfl,?_]];show yk (ME _ _ _ _<|M (_,decide<|m≠n)) _=_;rw[e];rfl
  |false=>
   have e:decide (m≠n)=W:=by simpa using c2
   refine#[λ_=>?_,λh=>aC (show(!(m==n))=J from h) (by rw[c2];decide)];show yk (ME _ _ _ _<|M (_,decide<|m≠n)) _=_;rw[e];rfl
theorem PX(ks p q kd:D)(l:L WN):∀(m cur:L WN) (a b:aah D),lQ m->lQ cur->zl cur+zl m<60->(∀x∈m,lu cur x.1=lu l x.1)->
 (zg l m=W->forR (pG<|.b #v[.a 5,.a 6]) (b_ GH 1000 iY) (m.map nX) (ux ks p q kd cur a b)=.c .g) /\
 (zg l m=J->∃cur' a' b',(lQ cur'/\zl cur'<=zl cur+zl m)/\forR (pG<|.b #v[.a 5,.a 6]) (b_ GH 1000 iY) (m.map nX) (ux ks p q kd cur a b)=.a (ux ks p q kd cur' a' b'))
|[],cur,a,b,_,hc,_,_=>#[λh=>aC (show J=W from h) aN,λ_=>#[cur,a,b,#[hc,aM _],rfl]]
|(w,n)::r,cur,a,b,hm,hc,hl,hk=>by
 let#[h1,h2]:=ps_b ks p q kd cur hc (by simp at hl;lia) w n;have hm':=cL.mp (show(w::r.map (·.1)).Nodup from hm);have ec:uw cur (w,n)=uw l (w,n):=by unfold uw;rw[hk (w,n) aD]
 have ee:zg l ((w,n)::r)=(uw l (w,n)||zg l r):=rfl;rw[ee,bB];cases c:uw l (w,n)with
 |true=>exact#[λ_=>M9 (σ2:=ux ks p q kd cur (M<|.c w)<|M<|.a n) rfl<|h1<|ec.trans c,λh=>aC (show W=J from h)<|by decide]
 |false=>
  let#[l',#[e1,e2],e3,e4]:=h2<|ec.trans c;let#[i1,i2]:=PX ks p q kd l r l' (M<|.c w) (M<|.a n) hm'.2 e1 (by simp at hl;lia) (λx hx=>by
   rw[e3 x.1 λz=>hm'.1<|z▸bK.mpr #[x,hx,rfl],hk x<|az _ hx])
  rw[uu (σ2:=ux ks p q kd cur (M<|.c w)<|M<|.a n) rfl e4];refine#[i1,λh=>?_];let#[cur',a',b',#[f1,f2],f3]:=i2 h;exact#[cur',a',b',#[f1,by simp;lia],f3]
def afx(ks:L<|Str×Str)(a b:Str):(decide (b∈Up ks a)||decide (a∈Up ks b))=!d_ (wF ks a b)/\(wF ks a b=.g\/∃s,wF ks a b=.c s):=by
 unfold wF;by_cases c:b∈Up ks a
 .rw[aQ c,aA c];exact#[rfl,.inr #[_,rfl]]
 .rw[aE c,aK c];by_cases c2:a∈Up ks b
  .rw[aQ c2,aA c2];exact#[rfl,.inr #[_,rfl]]
  .rw[aE c2,aK c2];exact#[rfl,.inl rfl]
def Kl(ks:L<|Str×Str)(hk:u_ ks)(p q:Pt)(hp:qP ks p)(hq:qP ks q):(Cu ks p q=J->jy [.b J<|cS ks,dJ J p,dJ J q]=.c .g)/\(Cu ks p q=W->∃p':Pt,jy [.b J<|cS ks,dJ J p,dJ J q]=.c (dJ W p')):=by
 have hs:=szl;let#[_,hp2,hp3]:=hp;let#[_,hq2,hq3]:=hq;let#[pk,pl]:=p;let#[qk,ql]:=q;let#[lo1,lo2]:=afx ks pk qk;let#[g1,g2]:=PX (.b J<|cS ks) (dJ J (pk,pl)) (dJ J (qk,ql)) (wF ks pk qk) pl ql pl B B hq2 hp2 (by simp at hp3 hq3 ⊢;lia) λ_ _=>rfl;have dw:=VA hp2 J;have fl:bW (wF ks pk qk)=wF ks pk qk:=by rcases lo2 with e|⟨s,e⟩<;>rw[e]<;>rfl
 have ol:aV (wF ks pk qk)=W:=by rcases lo2 with e|⟨s,e⟩<;>rw[e]<;>rfl
 have tl:=acF ks hk pk qk;unfold Cu;dsimp only;rw[lo1];unfold jy uR A0;generalize iY=B1 at g1 g2 ⊢;generalize wF ks pk qk=aac at *;cases e:zg pl ql with
 |true=>
  refine#[λ_=>?_,λh=>aC h (by cases d_ aac<;>decide)];erw[fE,kg,xJ,Dq,tl,ol,dw,H9];rw[g1 e];erw[]
 |false=>
  let#[cur,a,b,#[h1,h2],go]:=g2 e;let#[l',s1,s2,s3]:=M5 cur h1;have hl:zl cur<64:=by simp at hp3 hq3 h2;lia
  rcases lo2 with rfl|⟨s,rfl⟩
  .refine#[λ_=>?_,λh=>aC h<|by decide];erw[fE,kg,xJ,Dq,tl,dw,H9];rw[go];erw[d_]
  .refine#[λh=>aC h (by simp[d_]),λ_=>#[(s,l'),?_]];erw[fE,kg,xJ,Dq,tl,dw,H9];rw[go];erw[d_,M6,Au,aaw J s1 hl,As,M7]
theorem EN:∀(l acc:L Int),acc.Nodup->zl (l.foldl gf acc)<=zl acc+zl l/\(zl (l.foldl gf acc)=zl acc+zl l↔(acc++l).Nodup)
|[],acc,h=>#[aM _,by rw[dS];exact#[λ_=>h,λ_=>rfl]]
|x::r,acc,h=>by
 rw[rZ];by_cases c:acc.any (·==x)=W
 .have e:gf acc x=acc:=by unfold gf;rw[aQ c]
  rw[e];let#[i1,i2]:=EN r acc h;refine#[by simp;lia,λz=>by simp at z;lia,λz=>?_];let#[y,hy,ey]:=dX.mp c;rw[jP]at ey;exact aC ey<|(cE.mp z).2.2 y hy x aD
 .have e:gf acc x=acc++[x]:=by unfold gf;rw[aE c]
  rw[e];have hn:(acc++[x]).Nodup:=cE.mpr #[h,by simp,λa ha b hb z=>c (dX.mpr #[a,ha,by rw[aL.mp hb]at z;simpa using z])];let#[i1,i2]:=EN r (acc++[x]) hn;rw[bR]at i2;simp only[aW,eY,lU]at i1 i2 ⊢;exact#[by lia,#[λz=>i2.mp<|by lia,λz=>by have:=i2.mpr z;lia]]
def Ia(l:L Int):zl (kX l)<=zl l/\(zl (kX l)=zl l↔l.Nodup):=by
 have:=EN l [] gz;simpa[kX]using this
noncomputable abbrev inR(n:Nat)(i:Int):Bool:=decide (0<=i)&&decide (i<(n:Int))
def agU(t:Th)(l:L Int):eB (pG<|.a 0) (λ_=>.c W) (pE [] eRg) (l.map D.a) [B,M<|dR t]=.c (l.map λi=>.e<|inR (zl t.ps) i):=by
 have hs:=szl;refine lK D.a (λU=>∃o,U=[o,M<|dR t]) _ l _ #[_,rfl] ?_;rintro i hi U ⟨o,rfl⟩;refine#[[M<|.a i,M<|dR t],rfl,#[_,rfl],?_];unfold dR inR;by_cases c:0<=i
 .rw[aA c];erw[fG,iL,aA c]
 .rw[aK c];erw[fG,iL,aK c]
def uU(l:L Int)(n:Nat):Bool:=decide l.Nodup&&l.all (inR n)
def aax(t:Th)(l:L Int)(hl:zl l<4000):tX [.b J<|l.map D.a,dR t]=.c (.e<|uU l<|zl t.ps):=by
 have hs:=szl;let#[d1,d2]:=Ia l;have rc:=agU t l;let#[a1,a2,a3]:=afu (inR<|zl t.ps) l;have ns:Ad (.b J<|l.map D.a)=.c (.a<|zl<|kX l):=Dl (zd l) hl;unfold tX yo D0 uU;by_cases c:l.Nodup
 .rw[aA c];have e:=d2.mpr c;erw[fN,ns,e];rw[rc];erw[a2,a3]
 .rw[aK c];have e:¬zl (kX l)=zl l:=λz=>c<|d2.mp z;have e2:(((zl (kX l):Nat):Int)==((zl l:Nat):Int))=J:=fX.mpr (by lia);erw[fN,ns,e2]
abbrev fP:=Int×Int
noncomputable abbrev cZ(s:fP):D:=.d [.a s.1,.a s.2]
def gT(l:L fP):aH (l.map cZ)=l.map cZ:=f7 cZ (λ_=>rfl) l
def Zl(l:L fP):b9 (l.map cZ)=W:=by
 induction l with
 |nil=>rfl
 |cons k r ih=>exact ih
def afy(v:Nat)(hv:v<2)(Y:L PG)(sp:L fP):eB (pG<|.b #v[.a 0,.a 1]) (λ_=>.c W) (pE Y<|.a v) (sp.map cZ) [B,B]=.c (sp.map λs=>.a (if v=0 then s.1 else s.2)):=by
 refine lK cZ (λU=>∃a b,U=[a,b]) _ sp _ #[_,_,rfl] ?_;rintro⟨i,j⟩ hi U ⟨a,b,rfl⟩;refine#[[M<|.a i,M<|.a j],rfl,#[_,_,rfl],?_]
 match v,hv with
 |0,_=>rfl
 |1,_=>rfl
noncomputable abbrev je(sp:L fP):L Int:=sp.map (·.1)
noncomputable abbrev rB(sp:L fP):L Int:=sp.map (·.2)
def agV(Y:L PG)(sp:L fP):eB (pG<|.b #v[.a 0,.a 1]) (λ_=>.c W) (pE Y<|.a 0) (sp.map cZ) [B,B]=.c ((je sp).map D.a):=by rw[afy 0<|by decide,bV];rfl
def aay(Y:L PG)(sp:L fP):eB (pG<|.b #v[.a 0,.a 1]) (λ_=>.c W) (pE Y<|.a 1) (sp.map cZ) [B,B]=.c ((rB sp).map D.a):=by rw[afy 1<|by decide,bV];rfl
def Zm(t1 t2:Th)(sp:L fP)(hl:zl sp<4000):ig [dR t1,dR t2,.b J<|sp.map cZ]=if(uU (je sp) (zl t1.ps)&&uU (rB sp) (zl t2.ps))=W then .c .g else .e (.i 239 [] []):=by
 have hs:=szl;have c0:=agV lO sp;have c1:=aay lO sp;have a1:=aax t1 (je sp) (by simpa using hl);have a2:=aax t2 (rB sp) (by simpa using hl);have z1:bW (dR t1)=dR t1:=jm J J J J t1;have z2:bW (dR t2)=dR t2:=jm J J J J t2;unfold ig oN;unfold lO at c0 c1 ⊢;generalize dR t1=d1 at *;generalize dR t2=d2 at *;generalize uU (je sp) (zl t1.ps)=b1 at *;generalize uU (rB sp) (zl t2.ps)=b2 at *;erw[gT];rw[c0];erw[gT,lP];rw[c1];erw[fN,lP,z1,z2,a1,a2];cases b1<;>cases b2
 all_goals erw[]
def M_(ps:L Pt):jI [.b J<|ps.map<|dJ J]=.c (.b W<|ps.map<|dJ W):=by
 have hs:=szl;have c:eB (pG<|.b #v[.a 0,.a 1]) (λ_=>.c W) (pE za<|.f #v[.a 0,.h .c #v[.a 1]]) (ps.map<|dJ J) [B,B]=.c (ps.map<|dJ W):=by
  refine lK (dJ J) (λU=>∃a b,U=[a,b]) _ ps _ #[_,_,rfl] ?_;rintro⟨k,l⟩ hi U ⟨a,b,rfl⟩;refine#[[M<|.c k,M<|.b J<|l.map nX],rfl,#[_,_,rfl],?_];erw[kg]
 unfold jI tF;erw[fG];rw[c];erw[]
def pW(ks:L<|Str×Str)(t1 t2:Th)(s:fP):Bool:=match fq t1.ps s.1,fq t2.ps s.2 with
|some p,M q=>Cu ks p q
|_,_=>J
def El(d:D):Prop:=d=.g\/∃p:Pt,d=dJ W p
structure Lx (n:Nat) (bad:fP->Bool) (pre:L fP) (xs:L D):Prop where
 l:zl xs=n
 e:∀d∈xs,El d
 n:∀k:Nat,xs[k]?=M .g->(k:Int)∈je pre
 b:(∃k:Nat,xs[k]?=M .g)↔pre.any bad=W
abbrev GTg:L PG:=[.a kM [],.a kN [],.a jI [],.a j0 [],.c 239,.a jy [],.a ig []]
abbrev PY(ks:L<|Str×Str)(t1 t2:Th)(sd:D)(xs:L D)(a b:aah D):a_:=[M<|.b J<|cS ks,M<|dR t1,M<|dR t2,M sd,M<|.b W xs,a,b,B,B]
section
variable{ks:L (Str×Str)} (hk:u_ ks) {t1 t2:Th} (h1:sI ks t1) (h2:sI ks t2) (sd:D)
include hk h1 h2
theorem tg_b(xs:L D)(pre:L fP)(s:fP)(hl:Lx (zl t1.ps) (λs=>!pW ks t1 t2 s) pre xs)(hn:s.1∉je pre)(i1:gm (zl t1.ps) s.1)(i2:gm (zl t2.ps) s.2):∃xs',Lx (zl t1.ps) (λs=>!pW ks t1 t2 s) (pre++[s]) xs'/\b_ GTg 1000 nu (PY ks t1 t2 sd xs (M<|.a s.1)<|M<|.a s.2)=.a (PY ks t1 t2 sd xs' (M<|.a s.1)<|M<|.a s.2):=by
 let#[i,j]:=s;let#[k,hk1,ek,ea]:=gR t1.ps i i1.1 i1.2;let#[m,hm1,em,eb]:=gR t2.ps j i2.1 i2.2;have ea':fq (t1.ps.map<|dJ J) i=M (dJ J t1.ps[k]):=by
  let#[k',hk',ek',e]:=gR (t1.ps.map<|dJ J) i i1.1 (by rw[ai];exact i1.2);rw[e,cR];have:k'=k:=by lia
  subst this;rfl
 have eb':fq (t2.ps.map<|dJ J) j=M (dJ J t2.ps[m]):=by
  let#[k',hk',ek',e]:=gR (t2.ps.map<|dJ J) j i2.1 (by rw[ai];exact i2.2);rw[e,cR];have:k'=m:=by lia
  subst this;rfl
 have ff:pW ks t1 t2 (i,j)=Cu ks t1.ps[k] t2.ps[m]:=by
  show(match fq t1.ps i,fq t2.ps j with|some p,M q=>Cu ks p q|_,_=>J)=_;rw[ea,eb]
 let#[q1,q2]:=Kl ks hk t1.ps[k] t2.ps[m] (h1.p _<|bY _)<|h2.p _<|bY _;have key:∀d:D,El d->((d=.g)↔pW ks t1 t2 (i,j)=J)->Lx (zl t1.ps) (λs=>!pW ks t1 t2 s) (pre++[(i,j)]) (xs.set k d):=λd hd hf=>by
  refine#[by rw[n5];exact hl.l,λx hx=>?_,λl hx=>?_,#[λ⟨l,hx⟩=>?_,λhx=>?_]]
  .rcases vB hx with z|z
   .exact hl.e x z
   .rw[z];exact hd
  .rw[je,be,bC];by_cases c:k=l
   .exact .inr (by rw[<-c];simp[ek])
   .rw[cX c]at hx;exact .inl<|hl.n l hx
  .rw[G7,sf];by_cases c:k=l
   .subst c;rw[l7 (by rw[hl.l];exact hk1)]at hx;refine .inr ?_;simp[hf.mp<|cA hx]
   .rw[cX c]at hx;exact .inl<|hl.b.mp #[l,hx]
  .rw[G7,sf]at hx;rcases hx with hx|hx
   .obtain⟨l,hx⟩:=hl.b.mpr hx;have c:k≠l:=λz=>by
     have:=hl.n l hx;exact hn (by rw[ek,z];exact this)
    exact#[l,by rw[cX c];exact hx]
   .have:pW ks t1 t2 (i,j)=J:=by simpa using hx
    exact#[k,by rw[l7 (by rw[hl.l];exact hk1),hf.mpr this]]
 have put:∀d:D,putIn (.b W xs) d (.a i)=M (.b W<|xs.set k d):=λd=>by
  show(nS (zl xs) i).map _=_;rw[ek,PJ (by rw[hl.l];exact hk1)];rfl
 unfold nu PY dR;generalize t1.ps[k]=p at *;generalize t2.ps[m]=q at *;cases e:Cu ks p q with
 |false=>
  refine#[xs.set k .g,key .g (.inl rfl) #[λ_=>by rw[ff,e],λ_=>rfl],?_];have q1:=q1 e;erw[fE,fG,iL,ea',eb',kg,q1];rw[ie rfl rfl<|put .g];erw[]
 |true=>
  let#[p',q2]:=q2 e;refine#[xs.set k<|dJ W p',key _ (.inr #[p',rfl]) #[λz=>(nomatch z),λz=>by rw[ff,e]at z;cases z],?_];have o:=La p';erw[fE,fG,iL,ea',eb',kg,q2,As];rw[ie rfl (by rw[o];rfl)<|put _,o];erw[]
theorem PZ:∀(r pre:L fP) (xs:L D) (a b:aah D),(je<|pre++r).Nodup->(∀s∈r,gm (zl t1.ps) s.1/\gm (zl t2.ps) s.2)->Lx (zl t1.ps) (λs=>!pW ks t1 t2 s) pre xs->
 ∃xs' a' b',Lx (zl t1.ps) (λs=>!pW ks t1 t2 s) (pre++r) xs'/\forR (pG<|.b #v[.a 5,.a 6]) (b_ GTg 1000 nu) (r.map cZ) (PY ks t1 t2 sd xs a b)=.a (PY ks t1 t2 sd xs' a' b')
|[],pre,xs,a,b,_,_,hl=>#[xs,a,b,by rw[dS];exact hl,rfl]
|s::r,pre,xs,a,b,nd,hi,hl=>by
 let#[i1,i2]:=hi s aD;have hn:s.1∉je pre:=λz=>by
  rw[je,be,bB]at nd;exact(cE.mp nd).2.2 _ z _ aD rfl
 let#[xs',l',e]:=tg_b hk h1 h2 sd xs pre s hl hn i1 i2;let#[xs2,a',b',l2,e2]:=PZ r (pre++[s]) xs' (M<|.a s.1) (M<|.a s.2) (by rw[bR];exact nd) (λx hx=>hi x<|az _ hx) l';refine#[xs2,a',b',by rw[bR]at l2;exact l2,?_];rw[bB,uu (σ2:=PY ks t1 t2 sd xs (M<|.a s.1)<|M<|.a s.2) rfl e,e2]
end
noncomputable abbrev pk(sp:L fP):L Key:=sp.map λs=>.inl s.2
noncomputable abbrev pv(sp:L fP):L D:=sp.map λs=>.a s.1
def GC(l:L fP):aH (pv l)=pv l:=f7 _ (λ_=>rfl) l
def o_pv(l:L fP):b9 (pv l)=W:=by
 induction l with
 |nil=>rfl
 |cons k r ih=>exact ih
theorem aaz:∀(sp:L fP) (q:Key),(ji (pk sp) q=J)\/(ji (pk sp) q=W/\∃v,ia (pk sp) (pv sp) q=M (.a v))
|[],_=>.inl rfl
|s::r,q=>by
 have e1:ji (pk (s::r)) q=(decide ((lF s.2:Key)=q)||ji (pk r) q):=rfl;have e2:ia (pk (s::r)) (pv (s::r)) q=if(lF s.2:Key)=q then M (.a s.1)else ia (pk r) (pv r) q:=rfl
 rw[e1,e2];by_cases c:(lF s.2:Key)=q
 .rw[aA c,aQ c];exact .inr #[rfl,_,rfl]
 .rw[aK c,aE c];exact aaz r q
noncomputable abbrev P0(s:fP):D:=.d [.a s.2,.a s.1]
theorem P_:∀l:L fP,oE (l.map P0)=M (l.map λs=>((lF s.2:Key),D.a s.1))
|[]=>rfl
|p::l=>by
 show(pairD<|P0 p).bind _=_;have:pairD (P0 p)=M ((lF p.2:Key),D.a p.1):=rfl;rw[this];rw[P_ l];rfl
def afz{l:L fP}(nd:(rB l).Nodup)(o:Bool):jR .b [.b o<|l.map P0]=.c (.f W (pk l)<|pv l):=by
 show(R.opt<|oE<|l.map P0).bind _=_;rw[P_];show R.bP (decide ((l.map λs=>((lF s.2:Key),D.a s.1)).map (·.1)).Nodup) _=_;have e:(l.map λs=>((lF s.2:Key),D.a s.1)).map (·.1)=(rB l).map lF:=by rw[bV,bV];rfl
 rw[aA (by rw[e];exact j7.mpr<|nd.imp λhne z=>hne<|Ow z)];rw[bV,bV];show R.c (D.f W (pk l)<|aH<|pv l)=_;rw[GC]
def sw_c(Y:L PG)(sp:L fP):eB (pG<|.b #v[.a 0,.a 1]) (λ_=>.c W) (pE Y<|.f #v[.a 1,.a 0]) (sp.map cZ) [B,B]=.c (sp.map P0):=by
 have hs:=szl;refine lK cZ (λU=>∃a b,U=[a,b]) _ sp _ #[_,_,rfl] ?_;rintro⟨i,j⟩ hi U ⟨a,b,rfl⟩;refine#[[M<|.a i,M<|.a j],rfl,#[_,_,rfl],?_];erw[]
abbrev Na(c:Int)(n:Nat)(sp:L fP)(l:L Int)(a:aah D):a_:=[M<|.a c,M<|.a n,M<|.b J<|sp.map cZ,M<|.f W (pk sp)<|pv sp,M<|.b W<|l.map D.a,a]
def pl_b(sp:L fP)(c:Int)(n:Nat)(l:L Int)(hl:zl l<1000)(j:Nat):∃(c' v:Int),b_ nA 1000 kF (Na c n sp l<|M<|.a j)=.a (Na c' n sp (l++[v])<|M<|.a j):=by
 have hs:=szl;unfold kF Na nA;rcases aaz sp (.inl (j:Int))with e|⟨e,v,e2⟩
 .have i1:inD (.a j) (.f J (pk sp)<|pv sp)=.c J:=by show R.c (ji (pk sp)<|.inl (j:Int))=_;rw[e]
  refine#[c+1,c,?_];erw[GC,zf i1,PN i1,be];rw[i9 (xs:=l.map D.a) rfl (by rw[ai];lia) rfl];erw[GC,PN i1,be,bB,gw];rfl
 .have i1:inD (.a j) (.f J (pk sp)<|pv sp)=.c W:=by show R.c (ji (pk sp)<|.inl (j:Int))=_;rw[e]
  have i2:t_ (.f J (pk sp)<|pv sp) (.a j)=.c (.a v):=by show(R.opt<|ia (pk sp) (pv sp)<|.inl (j:Int)).bind _=_;rw[e2];rfl
  refine#[c,v,?_];erw[GC,zf i1,PN i1,i2,be];rw[i9 (xs:=l.map D.a) rfl (by rw[ai];lia) rfl];erw[GC,PN i1,be,bB,gw]
def Zn(sp:L fP)(nd:(rB sp).Nodup)(c:Int)(n:Nat)(hn:n<1000):∃l:L Int,zl l=n/\j0 [.a c,.a n,.b J<|sp.map cZ]=.c (.b W<|l.map D.a):=by
 have hs:=szl;have sc:=sw_c nA sp;have dp:=afz nd W;have rg:-(2 ^ 62)<=(n:Int)/\(n:Int).toNat<=ao:=by lia
 let#[σ',h1,l,c',a,l1,rfl]:=j_ (g:=pG<|.a 5) (b:=b_ nA 1000 kF) n
  (λk U=>∃(l:L Int) (c':Int) (a:aah D),zl l=k/\U=Na c' n sp l a) (by
  rintro k hk U ⟨l,c',a,l1,rfl⟩;let#[c2,v,e]:=pl_b sp c' n l (by lia) k;exact#[Na c' n sp l<|M<|.a k,_,rfl,e,l++[v],c2,M<|.a k,by simp[l1],rfl]) (Na c n sp [] B) #[[],c,B,rfl,rfl]
 refine#[l,l1,?_];unfold j0 uQ;unfold Na at h1;rw[gw]at h1;generalize kF=B1 at h1 ⊢;erw[gT];rw[sc];erw[dp,o_pv];rw[show((n:Int)).toNat=n from fY n,h1];erw[]
def RL{l:L Int}{i:Int}(h:gm (zl l) i):∃v,fq (l.map D.a) i=M (.a v):=by
 let#[v,_,e]:=ze rfl h;exact#[v,e]
def js_c(Y:L PG)(l:L Int)(js:L J3)(h:∀j∈js,M3 (zl l) j):∃js':L J3,zl js'=zl js/\eB (pG<|.b #v[.a 0,.a 1,.a 2]) (λ_=>.c W) (pE Y<|.f #v[.a 0,.b (.a 3)<|.a 1,.b (.a 3)<|.a 2]) (js.map jD) [B,B,B,M<|.b J<|l.map D.a]=.c (js'.map jD):=by
 have hs:=szl;let#[ys,y1,y2,y3]:=l6 (g:=pG<|.b #v[.a 0,.a 1,.a 2]) (e:=pE Y<|.f #v[.a 0,.b (.a 3)<|.a 1,.b (.a 3)<|.a 2]) jD (λU=>∃a b c,U=[a,b,c,M<|.b J<|l.map D.a]) (λy=>∃j:J3,True/\y=jD j) js [B,B,B,M<|.b J<|l.map D.a] #[_,_,_,rfl] (by
  rintro⟨s,i,j⟩ hm U ⟨a,b,c,rfl⟩;let#[o1,o2]:=h _ hm;let#[v,e]:=RL o1;let#[w,e2]:=RL o2;refine#[[M<|.c s,M<|.a i,M<|.a j,M<|.b J<|l.map D.a],jD (s,v,w),rfl,#[_,_,_,rfl],?_,(s,v,w),trivial,rfl];erw[fN,e,e2])
 let#[js',rfl,_]:=typed y3;exact#[js',by simpa using y2,y1]
theorem Qa:∀js:L J3,tV (js.map jD)=M (js.map jK)
|[]=>rfl
|j::r=>by
 show(lX<|jD j).bind _=_;rw[show lX (jD j)=M (jK j)from rfl];rw[Qa r];rfl
def Nb(l:L Int)(js js2:L J3)(h1:zl js<=9)(h2:zl js2<=9)(h:∀j∈js2,M3 (zl l) j):kN [.b J<|js.map jD,.b J<|js2.map jD,.b J<|l.map D.a]=.c .j:=by
 have hs:=szl;let#[js',e1,e2]:=js_c wx l js2 h;have so:sortable ((js++js').map jK)=W:=yt (by simp;omega) λk hk=>by
  let#[j,_,rfl]:=bK.mp hk;exact#[by simp,λq hq=>by let#[j',_,rfl]:=bK.mp hq;rfl]
 have st:HA (.b W<|js.map jD++js'.map jD)=.c .j:=by
  rw[<-be];exact Vg (Qa _) (by rw[so,aA (by simp;omega)];rfl)
 unfold kN wj;unfold wx at e2 ⊢;erw[pD,fN];rw[e2];erw[pD,K_,st]
def ss_c(Y:L PG)(l:L Int)(st:L<|Str×Int)(h:∀s∈st,gm (zl l) s.2):∃st':L<|Str×Int,zl st'=zl st/\eB (pG<|.b #v[.a 0,.a 1]) (λ_=>.c W) (pE Y<|.f #v[.a 0,.b (.a 2)<|.a 1]) (st.map sD) [B,B,M<|.b J<|l.map D.a]=.c (st'.map sD):=by
 have hs:=szl;let#[ys,y1,y2,y3]:=l6 (g:=pG<|.b #v[.a 0,.a 1]) (e:=pE Y<|.f #v[.a 0,.b (.a 2)<|.a 1]) sD (λU=>∃a b,U=[a,b,M<|.b J<|l.map D.a]) (λy=>∃s:Str×Int,True/\y=sD s) st [B,B,M<|.b J<|l.map D.a] #[_,_,rfl] (by
  rintro⟨s,i⟩ hm U ⟨a,b,rfl⟩;let#[v,e]:=RL<|h _ hm;refine#[[M<|.c s,M<|.a i,M<|.b J<|l.map D.a],sD (s,v),rfl,#[_,_,rfl],?_,(s,v),trivial,rfl];erw[fN,e])
 let#[st',rfl,_]:=typed y3;exact#[st',by simpa using y2,y1]
def Nc(l:L Int)(st st2:L<|Str×Int)(h1:zl st<=20)(h2:zl st2<=20)(h:∀s∈st2,gm (zl l) s.2):∃d,kM [.b J<|st.map sD,.b J<|st2.map sD,.b J<|l.map D.a]=.c d/\aV d=W:=by
 have hs:=szl;let#[st',e1,e2]:=ss_c Ck l st2 h;refine#[.b W<|(st++st').map sD,?_,EM _];unfold kM wm;erw[m9,fN];rw[e2];erw[m9,EM,be]
theorem enum_zip{α:Type}(f:α->D):∀(l:L α) (n),lH n (l.map f)=(l.zipIdx n).map λp=>D.d [.a (p.2:Int),f p.1]
|[],_=>rfl
|x::l,n=>by
 show D.d [.a (n:Int),f x]::lH (n+1) (l.map f)=_;rw[enum_zip f l<|n+1];rfl
def agW(Y:L PG)(ps:L Pt)(l:L Int):∃ys:L Pt,zl ys<=zl ps/\eB (pG<|.b #v[.a 0,.a 1]) (pT Y<|.d .NotIn (.a 0)<|.a 2) (pE Y<|.a 1) (lH 0<|ps.map<|dJ J) [B,B,M<|.b W<|l.map D.a]=.c (ys.map<|dJ J):=by
 have hs:=szl;rw[enum_zip];let#[ys,y1,y2,_,_]:=Ar (g:=pG<|.b #v[.a 0,.a 1]) (c:=pT Y<|.d .NotIn (.a 0)<|.a 2) (e:=pE Y<|.a 1) (λp:Pt×Nat=>D.d [.a (p.2:Int),dJ J p.1]) (λU=>∃a b,U=[a,b,M<|.b W<|l.map D.a]) (λ_ _=>True) (λp=>dJ J p.1) (ps.zipIdx 0) [B,B,M<|.b W<|l.map D.a] #[_,_,rfl] (by
  rintro⟨p,i⟩ hm U ⟨a,b,rfl⟩;refine#[[M<|.a (i:Int),M<|dJ J p,M<|.b W<|l.map D.a],!decide ((i:Int)∈l),rfl,#[_,_,rfl],?_,trivial,?_]
  .erw[fN,PN<|afv J (i:Int) l]
  .erw[kg])
 have e:(λp:Pt×Nat=>dJ J p.1)=(dJ J)∘Zz:=rfl;rw[e,<-bV]at y1;refine#[ys.map (·.1),?_,y1];have:=y2.length_le;rw[List.length_zipIdx]at this;rw[ai];exact this
def agX(l:L WN)(n:Nat):j8 (l.map nX) (n+1)=W:=by
 induction l with
 |nil=>rfl
 |cons p r ih=>
  show(oB (nX p) (n+1)&&_)=W;rw[ih];rfl
def El.bW{d:D}(h:El d):oB (bW d) 12=W/\k_ (L3.bW d) .g=d_ d:=by
 rcases h with rfl|⟨p,rfl⟩
 .exact#[rfl,rfl]
 .rw[GA];refine#[?_,rfl];show(W&&(j8 (p.2.map nX) 10&&W))=W;rw[agX];rfl
def afA{xs:L D}(h:∀d∈xs,El d)(o:Bool):inD .g (.b o<|aH xs)=.c (xs.any d_):=by
 have key:mF (aH xs)=W/\memD .g (aH xs)=xs.any d_:=by
  induction xs with
  |nil=>exact#[rfl,rfl]
  |cons d r ih=>
   let#[i1,i2]:=ih λx hx=>h x<|az _ hx;let#[j1,j2]:=(h d aD).bW;refine#[?_,?_]
   .show(oB (L3.bW d) 12&&j8 (aH r) 12)=W;rw[j1];exact i1
   .show(k_ (L3.bW d) .g||memD .g (aH r))=(d_ d||r.any d_);rw[j2,i2]
 show R.bP (gP .g&&mF (aH xs)) (.c<|memD .g<|aH xs)=_;rw[key.1,key.2];rfl
def acG{xs:L D}:xs.any d_=W↔∃k:Nat,xs[k]?=M .g:=by
 rw[dX];constructor
 .rintro⟨d,hd,e⟩;cases d<;>first|cases e|skip
  let#[k,hk,e]:=iO hd;exact#[k,by rw[aB hk,e]]
 .rintro⟨k,e⟩;exact#[.g,jo e,rfl]
def xK(ks:L<|Str×Str)(t1 t2:Th)(sp:L fP):Bool:=(uU (je sp) (zl t1.ps)&&uU (rB sp) (zl t2.ps))&&sp.all (pW ks t1 t2)
def VB{l:L Int}{n:Nat}(h:uU l n=W):l.Nodup/\∀i∈l,gm n i:=by
 let#[h1,h2]:=band' h;refine#[ay h1,λi hi=>?_];let#[h3,h4]:=band'<|bN.mp h2 i hi;exact#[ay h3,ay h4]
def lx0(ps:L Pt)(bad:fP->Bool):Lx (zl ps) bad [] (ps.map<|dJ W):=by
 have no:∀k:Nat,(ps.map<|dJ W)[k]?≠M .g:=λk e=>by
  rw[bz]at e;let#[p,_,z]:=fj.mp e;cases z
 exact#[ai ..,λd hd=>by let#[p,_,rfl]:=bK.mp hd;exact .inr #[p,rfl],λk e=>aC e<|no k,λ⟨k,e⟩=>aC e<|no k,λz=>aC (show J=W from z) aN]
def afB(ps:L Pt):b9 (ps.map<|dJ W)=W:=by
 induction ps with
 |nil=>rfl
 |cons p r ih=>
  show(aV (dJ W p)&&b9 (r.map<|dJ W))=W;rw[ih,La];rfl
def RM(ks:L<|Str×Str)(hk:u_ ks)(t1 t2:Th)(h1:sI ks t1)(h2:sI ks t2)(sp:L fP)(hl:zl sp<1000):(xK ks t1 t2 sp=J->rV [.b J<|cS ks,dR t1,dR t2,.b J<|sp.map cZ]=.e (.i 239 [] []))/\(xK ks t1 t2 sp=W->∃xs,rV [.b J<|cS ks,dR t1,dR t2,.b J<|sp.map cZ]=.c (.d xs)):=by
 have hs:=szl;have tr:=Zm t1 t2 sp (by omega);have z1:=jm J J J J t1;have z2:=jm J J J J t2;unfold xK;unfold rV Ak Gg;cases c:(uU (je sp) (zl t1.ps)&&uU (rB sp) (zl t2.ps))with
 |false=>
  rw[c,aE aN]at tr;refine#[λ_=>?_,λz=>aC (show J=W from z) aN];erw[z1,z2,gT,tr]
 |true=>
  rw[c,aQ rfl]at tr;let#[c1,c2]:=band' c;let#[n1,i1]:=VB c1;let#[n2,i2]:=VB c2;let#[xs,a,b,hx,lp]:=PZ hk h1 h2 (.b J<|sp.map cZ) sp [] (t1.ps.map<|dJ W) B B n1 (λs hs=>#[i1 _<|bK.mpr #[s,hs,rfl],i2 _<|bK.mpr #[s,hs,rfl]])<|lx0 t1.ps _;have cp:=M_ t1.ps;have io:=afA hx.e J;have hb:=hx.b;rw[<-acG,lT]at hb;have op:=afB t1.ps;generalize nu=B1 at lp ⊢;cases e:sp.all (pW ks t1 t2)with
  |false=>
   have e2:xs.any d_=W:=hb.mpr (by
    rw[dX];let#[s,hs,es]:=List.all_eq_false.mp e;exact#[s,hs,by simpa using es])
   refine#[λ_=>?_,λz=>aC (show J=W from z) aN];rw[e2]at io;erw[z1,z2,gT,tr,iL,fG,cp,op];rw[lp];erw[z1,z2,gT,zf io]
  |true=>
   refine#[λz=>aC (show W=J from z)<|by decide,λ_=>?_];have e2:xs.any d_=J:=by
    cases q:xs.any d_ with
    |false=>rfl
    |true=>
     let#[s,hs,es]:=dX.mp<|hb.mp q;have:=bN.mp e s hs;rw[this]at es;cases es
   rw[e2]at io;let#[l,ll,pl]:=Zn sp n2 (zl t1.ps) (zl t2.ps) (by have:=h2.p7;omega);have cp2:=M_ t2.ps;have op2:=afB t2.ps;let#[ys,yl,yc]:=agW [PG.a kM [],PG.a kN [],PG.a jI [],PG.a j0 [],PG.c 239,PG.a jy [],PG.a ig []] t2.ps<|rB sp;have sc:=aay [PG.a kM [],PG.a kN [],PG.a jI [],PG.a j0 [],PG.c 239,PG.a jy [],PG.a ig []] sp;have j1:=Nb l t1.js t2.js (by have:=h1.j6;omega) (by have:=h2.j6;omega) (by rw[ll];exact h2.js);let#[ds,s1,s2]:=Nc l t1.st t2.st (by have:=h1.s10;omega) (by have:=h2.s10;omega) (by rw[ll];exact h2.st);have xl:=hx.l;have p1:=h1.p7;have p2:=h2.p7;erw[z1,z2,gT,tr,iL,fG,cp,op];rw[lp];erw[z1,z2,gT,zf io,iL,fG,pl,lP];rw[sc];erw[z1,z2,gT,iL,fG,cp2,lP];rw[yc];erw[];rw[uc (xs:=xs) rfl (by rw[ai];omega) (by cases aV (.b W<|ys.map<|dJ J)<;>rfl)];refine#[[.b J<|aH<|xs++ys.map (dJ J),.j,ds],?_];cases ob:aV (.b W<|ys.map<|dJ J)
   .erw[z1,z2,pD,m9,K8,K9,fN,j1,s1];rfl
   .erw[z1,z2,pD,m9,K8,K9,fN,j1,s1];rfl
abbrev Qc:L PG:=[.a kL []]
def aaA(v:Nat)(hv:v<2)(Y:L PG)(sp:L fP):eB (pG<|.a 0) (λ_=>.c W) (pE Y<|.b (.a 0)<|.e<|.b v) (sp.map cZ) [B]=.c ((sp.map λs=>if v=0 then s.1 else s.2).map D.a):=by
 have:=lK (g:=pG<|.a 0) (e:=pE Y<|.b (.a 0)<|.e<|.b v) cZ (λU=>∃a,U=[a]) (λs=>D.a (if v=0 then s.1 else s.2)) sp [B] #[_,rfl] (by
  rintro⟨i,j⟩ hi U ⟨a,rfl⟩;refine#[[M<|cZ (i,j)],rfl,#[_,rfl],?_]
  match v,hv with
  |0,_=>rfl
  |1,_=>rfl)
 rw[bV];exact this
def afC(Y:L PG)(sp:L fP):eB (pG<|.a 0) (λ_=>.c W) (pE Y<|.b (.a 0)<|.e<|.b 0) (sp.map cZ) [B]=.c ((je sp).map D.a):=aaA 0 (by decide) Y sp
def spx1(Y:L PG)(sp:L fP):eB (pG<|.a 0) (λ_=>.c W) (pE Y<|.b (.a 0)<|.e<|.b 1) (sp.map cZ) [B]=.c ((rB sp).map D.a):=aaA 1 (by decide) Y sp
def JP(ks:L<|Str×Str)(t1 t2:Th)(s:fP):Bool:=(inR (zl t1.ps) s.1&&inR (zl t2.ps) s.2)&&pW ks t1 t2 s
abbrev GD(ks:L<|Str×Str)(t1 t2:Th)(sd:D)(a b:aah D):a_:=[M<|.b J<|cS ks,M<|dR t1,M<|dR t2,M sd,a,b]
def acH(d:D):d_ (bW d)=d_ d:=by cases d<;>rfl
section
variable{ks:L (Str×Str)} (hk:u_ ks) {t1 t2:Th} (h1:sI ks t1) (h2:sI ks t2) (sd:D)
include hk h1 h2
theorem st_b(s:fP):b_ Qc 1000 lE (GD ks t1 t2 sd (M<|.a s.1)<|M<|.a s.2)=if JP ks t1 t2 s=W then .a (GD ks t1 t2 sd (M<|.a s.1)<|M<|.a s.2)else .c (.e J):=by
 have hs:=szl;let#[i,j]:=s;unfold lE GD JP inR;dsimp only;have z1:=jm J J J J t1;have z2:=jm J J J J t2;by_cases a1:0<=i
 .by_cases a2:i<(zl t1.ps:Int)
  .by_cases b1:0<=j
   .by_cases b2:j<(zl t2.ps:Int)
    .obtain⟨k,hk1,ek,ea⟩:=gR t1.ps i a1 a2;let#[m,hm1,em,eb]:=gR t2.ps j b1 b2;have ea':fq (t1.ps.map<|dJ J) i=M (dJ J t1.ps[k]):=by
      let#[k',hk',ek',e]:=gR (t1.ps.map<|dJ J) i a1 (by rw[ai];exact a2);rw[e,cR];have:k'=k:=by lia
      subst this;rfl
     have eb':fq (t2.ps.map<|dJ J) j=M (dJ J t2.ps[m]):=by
      let#[k',hk',ek',e]:=gR (t2.ps.map<|dJ J) j b1 (by rw[ai];exact b2);rw[e,cR];have:k'=m:=by lia
      subst this;rfl
     have ff:pW ks t1 t2 (i,j)=Cu ks t1.ps[k] t2.ps[m]:=by
      show(match fq t1.ps i,fq t2.ps j with|some p,M q=>Cu ks p q|_,_=>J)=_;rw[ea,eb]
     let#[d,q1,q2]:=GB ks hk t1.ps[k] t2.ps[m] (h1.p _<|bY _)<|h2.p _<|bY _;rw[<-ff]at q2;generalize t1.ps[k]=p at *;generalize t2.ps[m]=q at *;have e1:=aA a1;have e2:=aA a2;have e3:=aA b1;have e4:=aA b2;rw[e1,e2,e3,e4];unfold dJ at q1 ea' eb';unfold dR dJ;rw[acH]at q2;cases e:pW ks t1 t2 (i,j)with
     |true=>
      rw[e]at q2;erw[fE,fG,iL,e1,e2,e3,e4,ea',eb',kg,q1,q2]
     |false=>
      rw[e]at q2;erw[fE,fG,iL,e1,e2,e3,e4,ea',eb',kg,q1,q2]
    .rw[aA a1,aA a2,aA b1,aK b2];unfold dR;erw[fG,iL,aA a1,aA a2,aA b1,aK b2]
   .rw[aA a1,aA a2,aK b1];unfold dR;erw[fG,iL,aA a1,aA a2,aK b1]
  .rw[aA a1,aK a2];unfold dR;erw[fG,iL,aA a1,aK a2]
 .rw[aK a1];unfold dR;erw[fG,iL,aK a1]
theorem Qd:∀(r:L fP) (a b:aah D),(r.all (JP ks t1 t2)=W->∃a' b',forR (pG<|.b #v[.a 4,.a 5]) (b_ Qc 1000 lE) (r.map cZ) (GD ks t1 t2 sd a b)=.a (GD ks t1 t2 sd a' b'))/\(r.all (JP ks t1 t2)=J->forR (pG<|.b #v[.a 4,.a 5]) (b_ Qc 1000 lE) (r.map cZ) (GD ks t1 t2 sd a b)=.c (.e J))
|[],a,b=>#[λ_=>#[a,b,rfl],λz=>aC (show W=J from z)<|by decide]
|s::r,a,b=>by
 have e:=st_b hk h1 h2 sd s;rw[iU,bB];cases c:JP ks t1 t2 s with
 |false=>
  rw[c,aE aN]at e;exact#[λz=>aC (show J=W from z) aN,λ_=>M9 (σ2:=GD ks t1 t2 sd (M<|.a s.1)<|M<|.a s.2) rfl e]
 |true=>
  rw[c,aQ rfl]at e;rw[uu (σ2:=GD ks t1 t2 sd (M<|.a s.1)<|M<|.a s.2) rfl e];exact Qd r _ _
theorem agY(sp:L fP):xK ks t1 t2 sp=((decide (je sp).Nodup&&decide (rB sp).Nodup)&&sp.all (JP ks t1 t2)):=by
 unfold xK uU JP;rw[wW,wW];have key:∀l:L fP,l.all (λs=>(inR (zl t1.ps) s.1&&inR (zl t2.ps) s.2)&&pW ks t1 t2 s)=((l.all (inR (zl t1.ps)∘λx=>x.1)&&l.all (inR (zl t2.ps)∘λx=>x.2))&&l.all (pW ks t1 t2)):=by
  intro l;induction l with
  |nil=>rfl
  |cons s r ih=>
   rw[iU,ih,iU,iU,iU];show _=(((inR (zl t1.ps) s.1&&_)&&(inR (zl t2.ps) s.2&&_))&&_);cases inR (zl t1.ps) s.1<;>cases inR (zl t2.ps) s.2<;>cases pW ks t1 t2 s<;>simp
 have e:=key sp;rw[e];cases decide (je sp).Nodup<;>cases decide (rB sp).Nodup<;>simp[Bool.and_assoc]
theorem Zo(sp:L fP)(hl:zl sp<1000):rR [.b J<|cS ks,dR t1,dR t2,.b J<|sp.map cZ]=.c (.e<|xK ks t1 t2 sp):=by
 have hs:=szl;rw[agY hk h1 h2];have c1:=afC Qc sp;have c2:=spx1 Qc sp;let#[d1,e1]:=Ia<|je sp;let#[d2,e2]:=Ia<|rB sp;have n1:Ad (.b W<|(je sp).map D.a)=.c (.a<|zl<|kX<|je sp):=Dl (zd _) (by rw[ai];lia);have n2:Ad (.b W<|(rB sp).map D.a)=.c (.a<|zl<|kX<|rB sp):=Dl (zd _) (by rw[ai];lia);rw[ai]at d1 e1 d2 e2;have z1:=jm J J J J t1;have z2:=jm J J J J t2;let#[l1,l2]:=Qd hk h1 h2 (.b J<|sp.map cZ) sp B B;have k1:decide (((zl (kX<|je sp):Nat):Int)<((zl sp:Nat):Int))=!decide (je sp).Nodup:=by
  by_cases c:(je sp).Nodup
  .rw[aA c];have:=e1.mpr c;exact aK<|by lia
  .rw[aK c];have:¬_:=λz=>c<|e1.mp z;exact aA<|by lia
 have k2:decide (((zl (kX<|rB sp):Nat):Int)<((zl sp:Nat):Int))=!decide (rB sp).Nodup:=by
  by_cases c:(rB sp).Nodup
  .rw[aA c];have:=e2.mpr c;exact aK<|by lia
  .rw[aK c];have:¬_:=λz=>c<|e2.mp z;exact aA<|by lia
 unfold rR Ao Gd;unfold GD at l1 l2;unfold Qc at c1 c2 l1 l2;generalize lE=B1 at l1 l2 ⊢;erw[gT,z1,z2];rw[c1,c2];cases a1:decide (je sp).Nodup with
 |false=>
  rw[a1]at k1;erw[n1,k1,pP]
 |true=>
  rw[a1]at k1;cases a2:decide (rB sp).Nodup with
  |false=>
   rw[a2]at k2;erw[n1,n2,k1,k2,pP,lG]
  |true=>
   rw[a2]at k2;cases e:sp.all (JP ks t1 t2)with
   |true=>
    let#[a',b',l1]:=l1 e;erw[n1,n2,k1,k2,pP,lG,gT];rw[l1];erw[]
   |false=>
    erw[n1,n2,k1,k2,pP,lG,gT];rw[l2 e];erw[]
end
noncomputable abbrev Nd:D:=.i 239 [] []
def Zp:tY [Nd]=.c (.e J):=by kernel_rfl
abbrev VC:L PG:=[.d iV,.e,.b 251 iV,.b 263 iV,.b 227 iV,.b 239 iV,.f iV Ru,.a tY []]
def acI(k a b c d f:aah D):b_ VC 1000 ldH [k,a,b,c,d,f,M Nd]=.a [k,a,b,c,M<|.e J,f,M Nd]:=by
 have o:=Zp;have x1:yi VC [5] Nd=.c W:=by kernel_rfl
 have x2:yj VC 6 Nd=.c W:=by kernel_rfl
 have x3:yi VC [2,3,4] Nd=.c J:=by kernel_rfl
 erw[x1,x2,x3,o]
def afD{ks:L<|Str×Str}(hk:u_ ks){t1 t2:Th}(h1:sI ks t1)(h2:sI ks t2)(sp:L fP)(hl:zl sp<1000):wy [.b J<|cS ks,dR t1,dR t2,.b J<|sp.map cZ]=.c (.e<|xK ks t1 t2 sp):=by
 have z1:=jm J J J J t1;have z2:=jm J J J J t2;let#[tf,tt]:=RM ks hk t1 t2 h1 h2 sp hl;unfold wy EK;cases e:xK ks t1 t2 sp with
 |true=>
  let#[xs,q]:=tt e;unfold EL;erw[fE,gT,z1,z2,q];unfold taK;cases o:aV (D.d xs)with
  |true=>
   erw[];rw[B6 (Cs:=iV) rfl];erw[]
  |false=>
   erw[];rw[B6 (Cs:=iV) rfl];erw[]
 |false=>
  have q:=tf e;unfold EL;erw[fE,gT,z1,z2,q];rw[Jy (Cs:=iV) rfl (by decide) rfl];show uO (yk (yX 6<|b_ VC 1000 ldH [M<|D.b J<|cS ks,M<|dR t1,M<|dR t2,M<|D.b J<|NK cZ sp,M D.g,B,M Nd]) _)=_;rw[acI];erw[]
abbrev VD:L PG:=[.a kL [],.a iB []]
def agZ(k:Nat)(U:a_)(fr:L Int)(j:Int)(h:j∈fr):Q8 k U (M<|M<|.b W<|fr.map D.a) (M<|M<|.a j)=.a (U.set k<|M<|.b W<|(fr.eraseIdx<|fr.idxOf j).map D.a):=by
 show oG (kY<|fr.map D.a) _=_;rw[zd];show(if decide (j∈fr)=W then _ else _)=_;rw[aA h];rfl
abbrev spS(sc:D)(at_:Int)(ks:L<|Str×Str)(t1 t2:Th)(m:Int)(sp:L fP)(fr:L Int)(a b c d:aah D):a_:=
 [M sc,M<|.a at_,M<|.b J<|cS ks,M<|dR t1,M<|dR t2,M<|.a m,M<|.b W<|sp.map cZ,M<|.b W<|fr.map D.a,a,b,c,d]
def ag0(n:Nat):(bg n).map (λ(k:Nat)=>D.a (k:Int))=((bg n).map λ(k:Nat)=>(k:Int)).map D.a:=by rw[bV];rfl
theorem VE:∀(l:L Int) (a:Int),l.eraseIdx (l.idxOf a)=l.erase a
|[],_=>rfl
|x::r,a=>by
 rw[List.erase_cons,List.idxOf_cons];cases c:x==a with
 |true=>rfl
 |false=>
  rw[aE aN];show x::r.eraseIdx (r.idxOf a)=x::r.erase a;rw[VE r a]
section
variable{ks:L (Str×Str)} (hk:u_ ks) {t1 t2:Th} (h1:sI ks t1) (h2:sI ks t2) (sc:D) (at_ m:Int) (m0:0<=m)
include hk h1 h2 m0
theorem ag1(sp:L fP)(hl:zl sp<=3)(fr:L Int)(a d:aah D)(i j:Int)(hi:gm (zl t1.ps) i)(hj:gm (zl t2.ps) j)(hf:j∈fr):∃(sp':L fP) (fr':L Int) (d':aah D),zl sp'<=3/\(fr'=fr\/fr'=fr.erase j) /\
  b_ VD 1000 oO (spS sc at_ ks t1 t2 m sp fr a (M<|.a i) (M<|.a j) d)=.a (spS sc at_ ks t1 t2 m sp' fr' a (M<|.a i) (M<|.a j) d'):=by
 have hs:=szl;let#[k,hk1,ek,ea]:=gR (t1.ps.map<|dJ J) i hi.1 (by rw[ai];exact hi.2);let#[k2,hk2,ek2,eb]:=gR (t2.ps.map<|dJ J) j hj.1 (by rw[ai];exact hj.2);rw[ai]at hk1 hk2;rw[cR]at ea eb;let#[dd,q1,_]:=GB ks hk t1.ps[k] t2.ps[k2] (h1.p _<|bY _)<|h2.p _<|bY _;generalize t1.ps[k]=p at *;generalize t2.ps[k2]=q at *;have rm:=λU=>agZ 7 U fr j hf;have cm:=afC VD sp;have ni:=PN<|afv W i<|je sp;have ee:=VE fr j;rw[ee]at rm;unfold oO spS dR;cases c1:d_ dd with
 |true=>
  refine#[sp,fr,M<|.e J,hl,.inl rfl,?_];erw[fE,fG,iL,ea,eb,kg,q1,c1]
 |false=>
  by_cases c2:(zl sp:Int)<m / 8%4
  .have e2:=aA c2;by_cases c3:i∈je sp
   .rw[aA c3]at ni;refine#[sp,fr,M<|.e W,hl,.inl rfl,?_];erw[fE,fG,iL,ea,eb,kg,q1,c1,gT,e2];rw[cm];erw[ni]
   .rw[aK c3]at ni;refine#[sp++[(i,j)],fr.erase j,M<|.e W,by rw[aW];simp only[eY,lU];lia,.inr rfl,?_];erw[fE,fG,iL,ea,eb,kg,q1,c1,gT,e2];rw[cm];erw[ni];rw[i9 (xs:=sp.map cZ) rfl (by rw[ai];lia) rfl];erw[];rw[rm];erw[be,bB,gw]
  .have e2:=aK c2;refine#[sp,fr,M<|.e W,hl,.inl rfl,?_];erw[fE,fG,iL,ea,eb,kg,q1,c1,gT,e2]
theorem aaB:∀(js:L Int) (sp:L fP) (fr:L Int) (a c d:aah D) (i:Int),zl sp<=3->gm (zl t1.ps) i->js.Nodup->(∀j∈js,gm (zl t2.ps) j/\j∈fr)->fr.Nodup->(∀j∈fr,gm (zl t2.ps) j)->∃(sp':L fP) (fr':L Int) (c' d':aah D),zl sp'<=3/\fr'.Nodup/\(∀j∈fr',gm (zl t2.ps) j)/\zl fr'<=zl fr /\
 forR (pG<|.a 10) (b_ VD 1000 oO) (js.map D.a) (spS sc at_ ks t1 t2 m sp fr a (M<|.a i) c d)=.a (spS sc at_ ks t1 t2 m sp' fr' a (M<|.a i) c' d')
|[],sp,fr,a,c,d,i,l,_,_,_,nf,fi=>#[sp,fr,c,d,l,nf,fi,aM _,rfl]
|j::r,sp,fr,a,c,d,i,l,hi,nd,hj,nf,fi=>by
 let#[nj,nr]:=cL.mp nd;let#[j1,j2]:=hj j aD;let#[sp',fr',d',e1,e2,e3]:=ag1 hk h1 h2 sc at_ m m0 sp l fr a d i j hi j1 j2;have ff:fr'.Nodup/\(∀x∈fr',gm (zl t2.ps) x)/\(∀x∈r,x∈fr')/\zl fr'<=zl fr:=by
  rcases e2 with rfl|rfl
  .exact#[nf,fi,λx hx=>(hj x<|az _ hx).2,aM _]
  .exact#[nf.erase j,λx hx=>fi x<|List.mem_of_mem_erase hx,λx hx=>(AJ λz=>nj (by rw[<-z];exact hx)).mpr (hj x<|az _ hx).2,List.length_erase_le ..]
 let#[f1,f2,f3,f4]:=ff;let#[sp2,fr2,c2,d2,g1,g2,g3,g4,g5]:=aaB r sp' fr' a (M<|.a j) d' i e1 hi nr (λx hx=>#[(hj x<|az _ hx).1,f3 x hx]) f1 f2;refine#[sp2,fr2,c2,d2,g1,g2,g3,by lia,?_];rw[bB,uu (σ2:=spS sc at_ ks t1 t2 m sp fr a (M<|.a i) (M<|.a j) d) rfl e3,g5]
theorem ag2(sp:L fP)(hl:zl sp<=3)(fr:L Int)(nf:fr.Nodup)(fi:∀j∈fr,gm (zl t2.ps) j)(f15:zl fr<=15)(b c d:aah D)(k:Nat)(hk1:k<zl t1.ps):∃(sp':L fP) (fr':L Int) (b' c' d':aah D),zl sp'<=3/\fr'.Nodup/\(∀j∈fr',gm (zl t2.ps) j)/\zl fr'<=15 /\
  b_ VD 1000 oQ (spS sc at_ ks t1 t2 m sp fr (M<|.a k) b c d)=.a (spS sc at_ ks t1 t2 m sp' fr' (M<|.a k) b' c' d'):=by
 have hs:=szl;have bb:=c_ (m+(k:Int)) (b:=(zl t1.ps:Int)) (by lia);let#[sp',fr',c',d',e1,e2,e3,e4,e5]:=aaB hk h1 h2 sc at_ m m0 fr sp fr (M<|.a k) c d ((m+(k:Int))%(zl t1.ps:Int)) hl bb nf (λj hj=>#[fi j hj,hj]) nf fi;refine#[sp',fr',M<|.a<|(m+(k:Int))%(zl t1.ps:Int),c',d',e1,e2,e3,by lia,?_];have p1:=h1.p7;unfold oQ;unfold spS at e5 ⊢;have z1:=jm J J J J t1;generalize oO=B1 at e5 ⊢;erw[fG,iL,fN,lP];rw[e5];erw[]
omit m0 in
theorem acJ(ns:L Int)(ha:0<=at_/\at_<=900):∃sp:L fP,zl sp<=3/\ug [bA ns,.a at_,.b J<|cS ks,dR t1,dR t2]=.c (.b W<|sp.map cZ):=by
 have hs:=szl;let#[m,m0,m1,qm]:=m8 ns at_ (by lia);have p1:=h1.p7;have p2:=h2.p7;have fr0:((bg<|zl t2.ps).map λ(k:Nat)=>(k:Int)).Nodup:=j7.mpr (w_.imp λh z=>h<|by lia);let#[σ',lp,sp,fr,a,b,c,d,l1,l2,l3,l4,rfl]:=j_ (g:=pG<|.a 8) (b:=b_ VD 1000 oQ) (zl t1.ps)
  (λk U=>∃(sp:L fP) (fr:L Int) (a b c d:aah D),zl sp<=3/\fr.Nodup/\(∀j∈fr,gm (zl t2.ps) j)/\zl fr<=15/\U=spS (bA ns) at_ ks t1 t2 m sp fr a b c d) (by
  rintro k hk' U ⟨sp,fr,a,b,c,d,l1,l2,l3,l4,rfl⟩;let#[sp',fr',b',c',d',e1,e2,e3,e4,e5]:=ag2 hk h1 h2 (bA ns) at_ m m0 sp l1 fr l2 l3 l4 b c d k hk';exact#[spS (bA ns) at_ ks t1 t2 m sp fr (M<|.a k) b c d,_,rfl,e5,sp',fr',_,b',c',d',e1,e2,e3,e4,rfl])
  (spS (bA ns) at_ ks t1 t2 m [] ((bg<|zl t2.ps).map λ(k:Nat)=>(k:Int)) B B B B) #[[],_,B,B,B,B,by simp,fr0,λj hj=>by
   let#[k,hk',rfl]:=bK.mp hj;have:=fO.mp hk';exact#[by lia,by lia],by simp;lia,rfl]
 refine#[sp,l1,?_];have z1:=jm J J J J t1;have z2:=jm J J J J t2;have rg:-(2 ^ 62)<=((zl t1.ps:Nat):Int)/\(((zl t1.ps:Nat):Int)).toNat<=ao:=by lia
 have lg:HC (.a ((zl t2.ps:Nat):Int))=.c (.b W<|((bg<|zl t2.ps).map λ(k:Nat)=>(k:Int)).map D.a):=by
  rw[Vh<|by lia,fY,ag0]
 unfold ug Ci JG;unfold spS at lp;rw[gw]at lp;generalize oQ=B2 at lp ⊢;generalize((bg<|zl t2.ps).map λ(k:Nat)=>(k:Int))=FR at *;erw[cN,qm,fG,iL,lg,lP,fY];rw[lp];erw[]
end
def acK{α β:Type}(f:α->β)(l)(lo hi):cut (l.map f) lo hi=(cut l lo hi).map f:=by
 unfold cut;rw[ai,nE,nF]
def Zq{α:Type}(l:L α)(k:Nat):cut l B (M<|k)=l.take k:=by
 unfold cut;rw[HT.OJ,HT.Ly,Im,Nat.sub_zero];by_cases h:k<=zl l
 .simp
 .simp
def Zr{α:Type}(l:L α)(k:Nat):cut l (M<|k) B=l.drop k:=by
 unfold cut;rw[HT.OJ,HT.Ly];by_cases h:k<=zl l
 .rw[xS h,gD<|by simp]
 .rw[E2<|by lia,CU,List.take_zero,l_<|by lia]
def c30:sU 10 30:=by unfold sU;decide
def afE(a b c d i:Int)(h:0<=i/\i<4):∃v:Int,fq [D.a a,D.a b,D.a c,D.a d] i=M (.a v):=by
 let#[v,_,e]:=ze (n:=4) (l:=[a,b,c,d]) rfl (show gm 4 i from h);exact#[v,e]
def ag3{l:L fP}{i:Int}(h0:0<=i)(h1:i<zl l):∃s:fP,fq (l.map cZ) i=M (cZ s):=by
 let#[k,hk,_,e]:=gR (l.map cZ) i h0 (by rw[ai];exact h1);rw[cR]at e;exact#[_,e]
def afF(l:L fP):gY .NotEq (.b J<|l.map cZ) (.b W [])=.c (.e !l.isEmpty):=by
 have e:gP (.b J<|l.map cZ)=W:=by
  induction l with
  |nil=>rfl
  |cons s r ih=>exact ih
 show R.bP (gP (.b J<|l.map cZ)&&gP (.b W [])) _=_;rw[e];cases l<;>rfl
abbrev GM:L PG:=[.a iB []]
abbrev JQ(sc:D)(at_:Int)(t1 t2:Th)(sp:L fP)(n i j:Int):a_:=[M sc,M<|.a at_,M<|dR t1,M<|dR t2,M<|.b J<|sp.map cZ,M<|.a n,M<|.a i,M<|.a j,B]
theorem ag4:EJ=.cons (.c (.a 5)<|.c 0 #v[.a 0,.a 1]) (.cons s2_<|.cons s3_<|.cons s4_<|.cons s5_<|.cons s6_ moR):=rfl
section
variable(sc:D) (at_:Int) {ks:L (Str×Str)}{t1 t2:Th} (h1:sI ks t1) (h2:sI ks t2) (sp:L fP) (n:Int) (n0:0<=n)
include h1 h2 n0
theorem mo_2:∃i,pS GM 1000 s2_ [M sc,M<|.a at_,M<|dR t1,M<|dR t2,M<|.b J<|sp.map cZ,M<|.a n,B,B,B]=.a [M sc,M<|.a at_,M<|dR t1,M<|dR t2,M<|.b J<|sp.map cZ,M<|.a n,M<|.a i,B,B]:=by
 have hs:=szl;generalize hM:(if((zl t1.ps:Nat):Int)>1 then((zl t1.ps:Nat):Int)else 1)=aab;have hM0:0<aab:=by rw[<-hM];split<;>lia
 refine#[n%aab,?_];erw[fG,iL,hM]
theorem mo_3(i:Int):∃j,pS GM 1000 s3_ [M sc,M<|.a at_,M<|dR t1,M<|dR t2,M<|.b J<|sp.map cZ,M<|.a n,M<|.a i,B,B]=.a (JQ sc at_ t1 t2 sp n i j):=by
 have hs:=szl;generalize hM:(if((zl t2.ps:Nat):Int)>1 then((zl t2.ps:Nat):Int)else 1)=aab;have hM0:0<aab:=by rw[<-hM];split<;>lia
 refine#[n / 8%aab,?_];erw[fG,iL,hM]
theorem mo_4(i j:Int):∃i',pS GM 1000 s4_ (JQ sc at_ t1 t2 sp n i j)=.a (JQ sc at_ t1 t2 sp n i' j):=by
 have hs:=szl;have b:=c_ (n / 256) (b:=4) (by decide);obtain⟨T,bp⟩:∃T,mY .Pow (.a 10) (.a 30)=.c (.a T):=#[_,EH c30];let#[v,ev]:=afE (-1) (zl t1.ps:Int) T (-(zl t1.ps:Int)) (n / 256%4) b;cases c:(n / 64%4==1)with
 |true=>
  refine#[v,?_];erw[c,fG,iL,bp,ev]
 |false=>exact#[i,by erw[c]]
theorem mo_5(i j:Int):∃j',pS GM 1000 s5_ (JQ sc at_ t1 t2 sp n i j)=.a (JQ sc at_ t1 t2 sp n i j'):=by
 have hs:=szl;have b:=c_ (n / 256) (b:=4) (by decide);obtain⟨T,bp⟩:∃T,mY .Pow (.a 10) (.a 30)=.c (.a T):=#[_,EH c30];let#[v,ev]:=afE (-1) (zl t2.ps:Int) (-T) (-(zl t2.ps:Int)) (n / 256%4) b;cases c:(n / 64%4==2)with
 |true=>
  refine#[v,?_];erw[c,fG,iL,bp,ev]
 |false=>exact#[j,by erw[c]]
theorem mo_6(i j:Int)(hl:zl sp<=3):∃i',pS GM 1000 s6_ (JQ sc at_ t1 t2 sp n i j)=.a (JQ sc at_ t1 t2 sp n i' j):=by
 have hs:=szl;have cm:=afF sp;generalize dR t1=d1;generalize dR t2=d2;cases c:(n / 64%4==3)with
 |false=>exact#[i,by erw[c]]
 |true=>
  cases c2:sp.isEmpty with
  |true=>
   rw[c2]at cm;exact#[i,by erw[c,gT,cm]]
  |false=>
   rw[c2]at cm;have hp:0<(zl sp:Int):=by
    cases sp with
    |nil=>cases c2
    |cons s r=>simp
   have b:=c_ (n / 256) hp;let#[s,es]:=ag3 (l:=sp) b.1 b.2;refine#[s.1,?_];erw[c,gT,cm,es,xJ]
theorem mo_7(i j:Int)(hl:zl sp<=3):∃sp':L fP,zl sp'=zl sp+1/\b_ GM 1000 moR (JQ sc at_ t1 t2 sp n i j)=.c (.b W<|sp'.map cZ):=by
 have hs:=szl;have b:=c_ (n / 1024) (b:=(zl sp:Int)+1) (by lia);obtain⟨k,ek⟩:∃k:Nat,n / 1024%((zl sp:Int)+1)=(k:Int):=#[(n / 1024%((zl sp:Int)+1)).toNat,by lia];refine#[sp.take k++(i,j)::sp.drop k,by simp;lia,?_];generalize dR t1=d1;generalize dR t2=d2;have e1:aH (List.take k<|NK cZ sp)=(sp.take k).map cZ:=by rw[<-nE,gT]
 have e2:aH (List.drop k<|NK cZ sp)=(sp.drop k).map cZ:=by rw[<-nF,gT]
 have a1:mY .Add (.b W<|(sp.take k).map cZ) (.b W [D.d [.a i,.a j]])=.c (.b W<|(sp.take k++[(i,j)]).map cZ):=by
  rw[BZ (by simp;lia),gT,be];rfl
 have a2:mY .Add (.b W<|(sp.take k++[(i,j)]).map cZ) (.b W<|(sp.drop k).map cZ)=.c (.b W<|(sp.take k++(i,j)::sp.drop k).map cZ):=by
  rw[BZ (by simp;lia),gT,gT,<-be,bR];rfl
 erw[gT,ek,acK,Zq,Zr,e1,e2,a1,a2]
end
def afG(ns:L Int)(at_:Int)(ha:0<=at_/\at_<=900){ks:L<|Str×Str}{t1 t2:Th}(h1:sI ks t1)(h2:sI ks t2)(sp:L fP)(hl:zl sp<=3):∃sp':L fP,zl sp'=zl sp+1/\wz [bA ns,.a at_,dR t1,dR t2,.b J<|sp.map cZ]=.c (.b W<|sp'.map cZ):=by
 let#[n,n0,n1,qn]:=m8 ns at_ (by lia);let#[i,e2]:=mo_2 (bA ns) at_ h1 h2 sp n n0;let#[j,e3]:=mo_3 (bA ns) at_ h1 h2 sp n n0 i;let#[i2,e4]:=mo_4 (bA ns) at_ h1 h2 sp n n0 i j;let#[j2,e5]:=mo_5 (bA ns) at_ h1 h2 sp n n0 i2 j;let#[i3,e6]:=mo_6 (bA ns) at_ h1 h2 sp n n0 i2 j2 hl;let#[sp',l,e7]:=mo_7 (bA ns) at_ h1 h2 sp n n0 i3 j2 hl;refine#[sp',l,?_];unfold wz MO;rw[ag4];have z1:=jm J J J J t1;have z2:=jm J J J J t2;have z3:=gT sp;generalize s2_=S2 at *;generalize s3_=S3 at *;generalize s4_=S4 at *;generalize s5_=S5 at *;generalize s6_=S6 at *;generalize moR=R at *;erw[cN,qn,z1,z2,z3];rw[e2];show uO (b_ GM 1000 (.cons S3<|.cons S4<|.cons S5<|.cons S6 R) _)=_;rw[iA,e3];show uO (b_ GM 1000 (.cons S4<|.cons S5<|.cons S6 R) _)=_;rw[iA,e4];show uO (b_ GM 1000 (.cons S5<|.cons S6 R) _)=_;rw[iA,e5];show uO (b_ GM 1000 (.cons S6 R) _)=_;rw[iA,e6];show uO (b_ GM 1000 R _)=_;rw[e7];rfl
end K3
end
section
namespace K3
open PySem L2 L3 Tr
abbrev GF:L PG:=[.a rR [],.a wy [],.a wz [],.a ug [],.a nB [],.a qe [],.a uh [],.a um []]
def ag5(l:L fP):gY .NotEq (.b J<|l.map cZ) (.b J<|l.map cZ)=.c (.e J):=by
 have e:gP (.b J<|l.map cZ)=W/\nL (l.map cZ) (l.map cZ)=W:=by
  constructor
  .induction l with
   |nil=>rfl
   |cons s r ih=>exact ih
  .induction l with
   |nil=>rfl
   |cons s r ih=>
    show(k_ (cZ s) (cZ s)&&nL (r.map cZ) (r.map cZ))=W;rw[ih];show(((s.1==s.1)&&((s.2==s.2)&&W))&&W)=W;simp
 show R.bP (gP (.b J<|l.map cZ)&&gP (.b J<|l.map cZ)) (.c<|D.e !(nL (l.map cZ)<|l.map cZ))=_;rw[e.1,e.2];rfl
section
variable(ns:L Int) {ks:L (Str×Str)} (hk:u_ ks) {t1 t2:Th} (h1:sI ks t1) (h2:sI ks t2) (sc kt wt rt d1 d2:D) (fs:bW sc=bA ns) (fk:bW kt=.b J (cS ks)) (f1:bW d1=dR t1) (f2:bW d2=dR t2)
include hk h1 h2 fs fk f1 f2
theorem la_f(k:D)(b c:aah D)(sp':L fP)(hl:zl sp'<1000):b_ GF 1000 #v[.c (.a 8)<|.h .c #v[.a 7],.c (.a 9)<|.c 1 #v[.a 1,.a 4,.a 5,.a 8],.b (.o (.d .NotEq (.a 9)<|.c 0 #v[.a 1,.a 4,.a 5,.a 7])<|.d .NotEq (.a 8)<|.a 7) #v[.a<|.e<|.c J] .nil] [M sc,M kt,M wt,M rt,M d1,M d2,M k,M<|.b W<|sp'.map cZ,b,c]=.a [M sc,M kt,M wt,M rt,M d1,M d2,M k,M<|.b W<|sp'.map cZ,M<|.b W<|sp'.map cZ,M<|.e<|xK ks t1 t2 sp']:=by
 have hs:=szl;have q2:=afD hk h1 h2 sp' hl;have q3:=Zo hk h1 h2 sp' hl;have q4:=ag5 sp';have q5:gY .NotEq (.e<|xK ks t1 t2 sp') (.e<|xK ks t1 t2 sp')=.c (.e J):=by
  cases xK ks t1 t2 sp'<;>rfl
 have z1:bW (dR t1)=dR t1:=jm J J J J t1;have z2:bW (dR t2)=dR t2:=jm J J J J t2;generalize dR t1=x1 at *;generalize dR t2=x2 at *;erw[fs,fk,f1,f2,gT,Zl,fE,z1,z2,q2,q3,q4,q5]
omit hk h1 h2 fs fk f1 f2 in
theorem ag6:tG=.cons (.c (.a 7)<|.c 3 #v[.a 0,.g .Add (.e<|.b 80)<|.a 6,.a 1,.a 4,.a 5])
 (.cons (.b (.d .Gt (.a 6)<|.e<|.b 0)
  #v[.c (.a 7)<|.c 2 #v[.a 0,.g .Add (.e<|.b 100)<|.a 6,.a 4,.a 5,.a 7]] .nil) Py):=rfl
theorem la_b(k:Nat)(hk10:k<10)(a b c:aah D):∃a' b' c',b_ GF 1000 tG [M sc,M kt,M wt,M rt,M d1,M d2,M<|.a k,a,b,c]=.a [M sc,M kt,M wt,M rt,M d1,M d2,M<|.a k,a',b',c']:=by
 have hs:=szl;let#[sp,l3,q1]:=acJ hk h1 h2 (80+(k:Int)) ns (by lia);have z1:bW (dR t1)=dR t1:=jm J J J J t1;have z2:bW (dR t2)=dR t2:=jm J J J J t2;have z3:=cN ns;rw[ag6];have fin:=la_f ns hk h1 h2 sc kt wt rt d1 d2 fs fk f1 f2<|.a k;by_cases c0:(k:Int)>0
 .obtain⟨sp',l4,q2⟩:=afG ns (100+(k:Int)) (by lia) h1 h2 sp l3;have fin:=λb c=>fin b c sp' (by lia);refine#[_,_,_,(?_:_=Fl.a [M sc,M kt,M wt,M rt,M d1,M d2,M<|.a k,M<|.b W<|sp'.map cZ,M<|.b W<|sp'.map cZ,M<|.e<|xK ks t1 t2 sp'])];have e0:=aA c0;change ∀b c,b_ GF 1000 Py _=_ at fin;generalize Py=R at fin ⊢;generalize dR t1=x1 at *;generalize dR t2=x2 at *;generalize bA ns=x0 at *;erw[fs,fk,f1,f2,gT,Zl,fE,z1,z2,z3,q1,e0,q2,fin]
 .have fin:=λb c=>fin b c sp (by lia);refine#[_,_,_,(?_:_=Fl.a [M sc,M kt,M wt,M rt,M d1,M d2,M<|.a k,M<|.b W<|sp.map cZ,M<|.b W<|sp.map cZ,M<|.e<|xK ks t1 t2 sp])];have e0:=aK c0;change ∀b c,b_ GF 1000 Py _=_ at fin;generalize Py=R at fin ⊢;generalize dR t1=x1 at *;generalize dR t2=x2 at *;generalize bA ns=x0 at *;erw[fs,fk,f1,f2,gT,Zl,fE,z1,z2,z3,q1,e0,fin]
theorem la_t:b_ GF 1000 #v[.d (.a 6) (.b #v[.e<|.b 10]) tG,.a<|.e<|.c W] [M sc,M kt,M wt,M rt,M d1,M d2,B,B,B,B]=.c (.e W):=by
 have hs:=szl;let#[σ',lp,k',a,b,c,rfl]:=j_ (g:=pG<|.a 6) (b:=b_ GF 1000 tG) 10
  (λ_ U=>∃k' a b c,U=[M sc,M kt,M wt,M rt,M d1,M d2,k',a,b,c]) (by
  rintro k hk10 U ⟨k',a,b,c,rfl⟩;let#[a',b',c',e]:=la_b ns hk h1 h2 sc kt wt rt d1 d2 fs fk f1 f2 k hk10 a b c;exact#[_,_,rfl,e,_,a',b',c',rfl]) [M sc,M kt,M wt,M rt,M d1,M d2,B,B,B,B] #[_,_,_,_,rfl]
 generalize tG=aaf at lp ⊢;erw[];have lp:forR (pG<|.a 6) (b_ GF 1000 aaf) (gj 0<|C2 10) _=_:=lp;rw[lp];erw[]
end
theorem ag7:Rt=.cons (.c (.a 1)<|.c 7 #v[.a 0]) (.cons (.c (.a 2)<|.c 6 #v[.a 0])
 (.cons (.c (.a 3)<|.c 5 #v[.a 0,.e<|.b 20,.a 1,.a 2,.e<|.c J])
 (.cons (.c (.a 4)<|.c 4 #v[.a 0,.e<|.b 40,.a 1,.a 3,.a 2])
 (.cons (.c (.a 5)<|.c 4 #v[.a 0,.e<|.b 60,.a 1,.a 3,.a 2]) lwT)))):=rfl
theorem afH(d):G5 bW (M d)=M (bW d):=rfl
def aaC(o)(r):bW (wB o r)=wB J r:=by
 show D.d [.b J<|aH _,.b J<|aH _,.b J<|aH _,.b J<|aH _,.b J<|aH _]=_;rw[kc,xH,pD,xG,m9]
def ag8(ns:L Int):K6 [bA ns]=.c (.e W):=by
 have hs:=szl;let#[ks,hk,qk]:=acw ns;let#[wa,wb,wc,la,lb,lc,_,_,_,qw]:=acv ns;have fsc:=cN ns;have fk1:bW (.b W<|cS ks)=.b J (cS ks):=by show D.b J (aH _)=_;rw[fE]
 have fk2:bW (.b J<|cS ks)=.b J (cS ks):=by show D.b J (aH _)=_;rw[fE]
 have ok1:aV (.b W<|cS ks)=W:=by show(W&&b9 _)=W;rw[o_ks];rfl
 have fw:bW (.d [.b W<|wa.map D.c,.b W<|wb.map D.c,.b W<|wc.map D.c])=wD wa wb wc:=by show D.d [.b J<|aH _,.b J<|aH _,.b J<|aH _]=_;rw[cO,cO,cO]
 have fw2:bW (wD wa wb wc)=wD wa wb wc:=by show D.d [.b J<|aH _,.b J<|aH _,.b J<|aH _]=_;rw[cO,cO,cO]
 have ow:aV (.d [.b W<|wa.map D.c,.b W<|wb.map D.c,.b W<|wc.map D.c])=W:=by
  show((W&&b9 _)&&((W&&b9 _)&&((W&&b9 _)&&W)))=W;rw[kP,kP,kP];rfl
 let#[r,hr,qr]:=Vu ns 20 (by lia) ks hk.l8 hk.l3 hk.ho wa wb wc la lb lc J;let#[d1,t1,g1,g2,g3,_]:=PK ns 40 (by lia) ks hk wa wb wc la lb lc r hr;let#[d2,t2,g4,g5,g6,_]:=PK ns 60 (by lia) ks hk wa wb wc la lb lc r hr;have fr1:=aaC W r;have fr2:=aaC J r;have la:=λsc kt wt rt d1 d2 a b c d=>la_t ns hk g3 g6 sc kt wt rt d1 d2 a b c d;unfold K6;rw[ag7,show aao=GF from rfl];change ∀sc kt wt rt d1 d2,_->_->_->_->b_ GF 1000 lwT _=_ at la;generalize lwT=R at la ⊢;generalize bA ns=sc at *;generalize D.d [.b W<|wa.map D.c,.b W<|wb.map D.c,.b W<|wc.map D.c]=wt0 at *;generalize wD wa wb wc=wt1 at *;generalize D.b W (cS ks)=kt0 at *;generalize D.b J (cS ks)=kt1 at *;generalize wB W r=rt0 at *;generalize wB J r=rt1 at *;have z1:bW (dR t1)=dR t1:=jm J J J J t1;have z2:bW (dR t2)=dR t2:=jm J J J J t2;cases o0:aV rt0<;>cases o1:aV d1<;>cases o2:aV d2
 all_goals
  erw[fsc,fk1,fk2,fw,fw2,qk,ok1,qw,ow,qr,fr1,fr2,o0,g1,g4,o1,o2,afH]
 all_goals
  rw[la _ _ _ _ _ _ (by simp only[fsc]) (by simp only[fk1,fk2]) (by simp only[g2,z1])<|by simp only[g5,z2]];rfl
end K3
namespace K2
open PySem L2 L3 Tr
def fin(ns)(_:zl ns<=63):K6 [bA ns]=.c (.e W):=K3.ag8 ns
end K2
end
namespace Fin
open PySem L2 L3 Tr
section
variable{P:br}{w:bE}{K:ak}{mg:Str->aah Z}
structure Hy (P:br) (w:bE) (K:ak) (mg:Str->aah Z):Prop where
 z:∀x∈BN,mg x=B
 D_law:DI K mg xF
 D_l_stands:DI K mg Gk
 D_l_one_part:DI K mg Cn
 D_l_uppers:DI K mg Gj
 D_l_told:DI K mg MS
 D_together:DI K mg Gp
 D_steps_laid:DI K mg Co
 D_joins_laid:DI K mg Cp
 D_parts_copied:DI K mg zb
 D_places_laid:DI K mg A2
 D_part_shared:DI K mg A3
 D_lower_of:DI K mg Gn
 D_is_under:DI K mg Gm
 D_uppers_of:DI K mg D4
 D_refuse_bad_spots:DI K mg uo
 D_are_parts:DI K mg D5
 D_l_others:DI K mg Gq
 D_l_more:DI K mg MT
 D_l_mix:DI K mg Pz
 D_l_spots:DI K mg JK
 D_l_thing_for:DI K mg A4
 D_l_part_for:DI K mg Cr
 D_l_lowers:DI K mg Gr
 D_l_reading:DI K mg D6
 D_l_bounds:DI K mg Gs
 D_l_groups:DI K mg Gu
 D_l_words:DI K mg JM
 D_l_names:DI K mg JL
 D_l_kinds:DI K mg JN
 C_NoFit:mg "NoFit"=M (.ref 239)/\IP K 239
 I_NoChange:mg "NoChange"=M (.ref 251)/\jM K 251 iV
 I_NotOwn:mg "NotOwn"=M (.ref 263)/\jM K 263 iV
 I_TooMany:mg "TooMany"=M (.ref 227)/\jM K 227 iV
 I_NoFit:mg "NoFit"=M (.ref 239)/\jM K 239 iV
 I_NoRange:mg "NoRange"=M (.ref 177)/\jM K 177 iV
 I_NotUnder:mg "NotUnder"=M (.ref 158)/\jM K 158 iV
 I_TooBig:mg "TooBig"=M (.ref 139)/\jM K 139 iV
 I_Twice:mg "Twice"=M (.ref 63)/\jM K 63 iV
 I_TwoGrounds:mg "TwoGrounds"=M (.ref 215)/\jM K 215 iV
 I_BadRow:mg "BadRow"=M (.ref 44)/\jM K 44 iV
 I_NoClaim:mg "NoClaim"=M (.ref 101)/\jM K 101 iV
 I_NoGround:mg "NoGround"=M (.ref 196)/\jM K 196 iV
 I_NoKind:mg "NoKind"=M (.ref 120)/\jM K 120 iV
 I_NoPart:mg "NoPart"=M (.ref 82)/\jM K 82 iV
 X_0:z7 K iV Ru
 B_ClaimError:ExI K mg "ClaimError" 24 iV
variable{base:Heap} (aag:Hy P w K mg)
include aag
theorem yu:lq P w K mg base 1 "_law_uppers" jl:=fD (k:=0) aag.D_l_uppers Rw aag.z gN
theorem A5:lq P w K mg base 2 "_law_one_part" kL:=fD (k:=1) aag.D_l_one_part MP aag.z<|gF (yu aag) gN
theorem Of:lq P w K mg base 3 "_law_stands" rR:=fD (k:=2) aag.D_l_stands Rx aag.z<|gF (A5 aag) gN
theorem Km:lq P w K mg base 1 "steps_laid" kM:=fD (k:=0) aag.D_steps_laid MQ aag.z gN
theorem Kn:lq P w K mg base 1 "joins_laid" kN:=fD (k:=0) aag.D_joins_laid MR aag.z gN
theorem GI:lq P w K mg base 1 "parts_copied" jI:=fD (k:=0) aag.D_parts_copied HS aag.z gN
theorem Ib:lq P w K mg base 1 "places_laid" j0:=fD (k:=0) aag.D_places_laid Kf aag.z gN
theorem Nf:lq P w K mg base 1 "uppers_of" tW:=fD (k:=0) aag.D_uppers_of N6 aag.z gN
theorem Og:lq P w K mg base 2 "is_under" vt:=fD (k:=1) aag.D_is_under Ry aag.z<|gF (Nf aag) gN
theorem Oh:lq P w K mg base 3 "lower_of" rT:=fD (k:=2) aag.D_lower_of Rz aag.z<|gF (Og aag) gN
theorem Ic:lq P w K mg base 4 "part_shared" jy:=fD (k:=3) aag.D_part_shared Kg aag.z<|gF (Oh aag) gN
theorem Ng:lq P w K mg base 1 "are_parts" tX:=fD (k:=0) aag.D_are_parts N7 aag.z gN
theorem Ba:lq P w K mg base 2 "refuse_bad_spots" ig:=fD (k:=1) aag.D_refuse_bad_spots Cq aag.z<|gF (Ng aag)<|gNo aag.C_NoFit gN
theorem Oi:lq P w K mg base 5 "together" rV:=fD (k:=4) aag.D_together RA aag.z<|gF (Km aag)<|gF (Kn aag)<|gF (GI aag)<|gF (Ib aag)<|gNo aag.C_NoFit<|gF (Ic aag)<|gF (Ba aag) gN
theorem Nh:OkN P w K mg base 1 "_law_others" tY:=fDN (k:=0) aag.D_l_others N8 aag.z<|gI aag.I_NoRange<|gI aag.I_NotUnder<|gI aag.I_TooBig<|gI aag.I_Twice<|gI aag.I_TwoGrounds<|gI aag.I_BadRow<|gI aag.I_NoClaim<|gI aag.I_NoGround<|gI aag.I_NoKind<|gI aag.I_NoPart gN
theorem VF:lq P w K mg base 6 "_law_told" wy:=fD (k:=5) aag.D_l_told Ze aag.z<|gB aag.B_ClaimError<|gF (Oi aag)<|gI aag.I_NoChange<|gI aag.I_NotOwn<|gI aag.I_TooMany<|gI aag.I_NoFit<|gX aag.X_0<|gFo (Nh aag) gN
theorem oR:lq P w K mg base 1 "_law_mix" iB:=fD (k:=0) aag.D_l_mix acu aag.z gN
theorem VG:lq P w K mg base 2 "_law_more" wz:=fD (k:=1) aag.D_l_more Zf aag.z<|gF (oR aag) gN
theorem RN:lq P w K mg base 3 "_law_spots" ug:=fD (k:=2) aag.D_l_spots Vm aag.z<|gF (A5 aag)<|gF (oR aag) gN
theorem D9:lq P w K mg base 2 "_law_lowers" m7:=fD (k:=1) aag.D_l_lowers RB aag.z<|gF (yu aag) gN
theorem Ko:lq P w K mg base 3 "_law_part_for" kO:=fD (k:=2) aag.D_l_part_for MU aag.z<|gF (D9 aag)<|gF (oR aag) gN
theorem Ie:lq P w K mg base 4 "_law_thing_for" nB:=fD (k:=3) aag.D_l_thing_for Kh aag.z<|gF (oR aag)<|gF (Ko aag) gN
theorem Oj:lq P w K mg base 1 "_law_bounds" pB:=fD (k:=0) aag.D_l_bounds RC aag.z gN
theorem Om:lq P w K mg base 2 "_law_groups" rW:=fD (k:=1) aag.D_l_groups RD aag.z<|gF (oR aag)<|gF (yu aag) gN
theorem Ni:lq P w K mg base 3 "_law_reading" qe:=fD (k:=2) aag.D_l_reading N9 aag.z<|gF (D9 aag)<|gF (oR aag)<|gF (Oj aag)<|gF (Om aag) gN
theorem GJ:lq P w K mg base 2 "_law_names" rq:=fD (k:=1) aag.D_l_names Vn aag.z<|gF (oR aag) gN
theorem RO:lq P w K mg base 3 "_law_words" uh:=fD (k:=2) aag.D_l_words Vo aag.z<|gF (GJ aag) gN
theorem RP:lq P w K mg base 3 "_law_kinds" um:=fD (k:=2) aag.D_l_kinds Vp aag.z<|gF (oR aag)<|gF (GJ aag) gN
theorem afI{f:Addr}{fd:eS}(F:vO K "law" "law" xF.s f fd):jG P w K mg base (nT P w) 7 f fd xF.ps (cZ K K6):=fF (d:=xF) F agF aag.z<|gF (Of aag)<|gF (VF aag)<|gF (VG aag)<|gF (RN aag)<|gF (Ie aag)<|gF (Ni aag)<|gF (RO aag)<|gF (RP aag) gN
end
def walk{l:GX}{q:br}{loose:L Str}{XP:(Str->aah Z)->Heap->Prop}{YP:bE->Heap->Prop}{d:DefRec}{K:VQ->ak}(hn:l.most=M 63)(hdf:d.params.defaults=[])(hdn:d.name="law")(hY:∀(w:bE) (h:Heap),YP w h->(K w.params).In h)(nk:∀p:VQ,((K p).all λx=>!Xp x.2.cls)=W)(F:∀(w:bE) (mg:Str->aah Z) (h:Heap),(K w.params).In h->h.Ns d8 mg->Hy l.prog w (K w.params) mg)(bd:∀(kV doc pm:Z) (an:aah Addr) (cdv ct:Z) (u:Z),Ay (gv "law" "law" (o9 xF.s) (jr xF.s) (cQ xF.s) .none kV doc pm an cdv ct) #[[u],[]]=pure [(("_law_script":Str),u)]):Ky q loose XP YP l.row.toRowW d [] (λf vs=>GW f vs):=
 L2.aa2 (n:=63) (k:=7) (x:="_law_script") (CX:=λ_=>IM) (sp:=λw=>(λvs H Q E=>∃(a:Addr) (ns:L Int),vs=[.a a]/\Rd H a (.a<|ns.map V.b)/\zl ns<=63/\∀H',Q (.c W) H')) hn (by decide) hdf #[rfl,by decide,by decide] hY (λw mg fa h X G hfa=>by
  obtain aag:=F w mg h X G;rw[hdn]at hfa;let#[f,fd,aac,hm,hb]:=aag.D_law;have e:=hfa.symm.trans hm;cases e;let#[_,_,kV,doc,pm,an,cdv,ct,_,rfl,_]:=aac.ex;exact#[_,λs v=>.of_eq<|bd _ _ _ _ _ _ v,λbase _ _=>aeY (afI aag aac) K2.fin]) (λw _ a ns hl _ hS=>#[a,ns,rfl,agE (nk w.params) hS,hl,λ_=>rfl]) λ_ _ _ _ _ z=>z
end Fin
namespace PySem.W.Fast
def tw14214457334962222168 :=0
def tw13934693381456488985 :=0
def tw16298241908037705863 :=0
def tw6241055881297859988 :=0
def tw13164354727430801712 :=0
def tw17993809796701919253 :=0
def tw17102972603524099285 :=0
def tw13911979880941004530 :=0
def tw13892502304236706294 :=0
def tw10644879540670188975 :=0
def tw17292258356254799261 :=0
def tw135511953577692088 :=0
def tw12300954234331750122 :=0
def tw11772673505084688104 :=0
def tw3474980872955584624 :=0
def tw17567118633303676734 :=0
def tw10812599093235877926 :=0
def tw3037704558784036592 :=0
def tw13044879652803520516 :=0
def tw11958686110933601661 :=0
def tw1400513356007962618 :=0
def tw8951584318812494143 :=0
def tw4077702410297976934 :=0
def tw17079573101771602036 :=0
def tw12366749147352798731 :=0
def tw5789274174680580250 :=0
def tw17749591225080389107 :=0
def tw14318691889400157816 :=0
def tw13204206227032209076 :=0
def tw16090622501314545651 :=0
def tw11054388600745908346 :=0
def tw9040708785778172489 :=0
def tw6608471911914123136 :=0
def tw15595176699992962325 :=0
def tw17701942349439322513 :=0
def tw1250882095320696232 :=0
def tw14859300329493917621 :=0
def tw11397115767273084081 :=0
def tw14253313126857109193 :=0
def tw11379287783360146585 :=0
def tw15523701920143542246 :=0
def tw7931178284730311 :=0
def tw8112123504062030188 :=0
def tw7099863211346209631 :=0
def tw3445918167790001177 :=0
def tw5558769677516729756 :=0
def tw14088802524138724991 :=0
def tw6973737713048856065 :=0
def tw7694081674899812268 :=0
def tw14044129194521590329 :=0
def tw7381290592157384900 :=0
def tw8595251186323208868 :=0
def tw1175785909304387167 :=0
def tw5645912708205653 :=0
def tw3464899540808566651 :=0
def tw14920261327581189173 :=0
def tw7084924493051305852 :=0
def tw17170519630916276380 :=0
def tw8963882295865486183 :=0
def tw14354484586555819636 :=0
def tw1213076679660140601 :=0
def tw17248989283452229346 :=0
def tw166576642821267707 :=0
def tw11967564094213938768 :=0
def tw10077975423797741780 :=0
def tw15556891639917950565 :=0
def tw9477969422134832624 :=0
def tw3998191868847516229 :=0
def tw12095388250832424329 :=0
def tw7496009140002859194 :=0
def tw15508918836694714365 :=0
def tw1684081310345748126 :=0
def tw3571224936699568347 :=0
def tw1523714503357199718 :=0
def tw5330460464274899889 :=0
def tw89980023559387374 :=0
def tw549103595593463345 :=0
def tw8142946096040561635 :=0
end PySem.W.Fast
open PySem PySem.W PyProof.Rows
set_option maxRecDepth 100000 in
set_option maxHeartbeats 0 in
open L3 Tr in
theorem PySem.Challenge.cw_claimwise_k30_spots_that_do_not_fit_holds : PySem.Challenge.rw_claimwise_k30_spots_that_do_not_fit.Holds := by
 w_on;o_law;k_head;(case hw=>w_witness2)
 k_fill
 refine Fin.walk (l:=PySem.Challenge.rw_claimwise_k30_spots_that_do_not_fit) rfl rfl rfl (λw h aja=>by first|exact PySem.W.kIn_of aja|exact ZD aja) ?nk ?F ?b
 case nk=>intro p;first|rfl|decide +kernel|k_is|simp[L3.Xp]
 case b=>intros;rfl
 case F=>
  intro w mg h KX G;have HX:=hXI (Cs:=iV) (as:=Ru) KX;have HB:=bI (aaf:=24) KX;exact#[zI KX G,
   dI KX G,
   dI KX G,
   dI KX G,
   dI KX G,
   dI KX G,
   dI KX G,
   dI KX G,
   dI KX G,
   dI KX G,
   dI KX G,
   dI KX G,
   dI KX G,
   dI KX G,
   dI KX G,
   dI KX G,
   dI KX G,
   dI KX G,
   dI KX G,
   dI KX G,
   dI KX G,
   dI KX G,
   dI KX G,
   dI KX G,
   dI KX G,
   dI KX G,
   dI KX G,
   dI KX G,
   dI KX G,
   dI KX G,
   nIo KX G HB,
   #[iI KX G,lM HX (by kernel_rfl) (by kernel_rfl)],
   #[iI KX G,lM HX (by kernel_rfl) (by kernel_rfl)],
   #[iI KX G,lM HX (by kernel_rfl) (by kernel_rfl)],
   #[iI KX G,lM HX (by kernel_rfl) (by kernel_rfl)],
   #[iI KX G,lM HX (by kernel_rfl) (by kernel_rfl)],
   #[iI KX G,lM HX (by kernel_rfl) (by kernel_rfl)],
   #[iI KX G,lM HX (by kernel_rfl) (by kernel_rfl)],
   #[iI KX G,lM HX (by kernel_rfl) (by kernel_rfl)],
   #[iI KX G,lM HX (by kernel_rfl) (by kernel_rfl)],
   #[iI KX G,lM HX (by kernel_rfl) (by kernel_rfl)],
   #[iI KX G,lM HX (by kernel_rfl) (by kernel_rfl)],
   #[iI KX G,lM HX (by kernel_rfl) (by kernel_rfl)],
   #[iI KX G,lM HX (by kernel_rfl) (by kernel_rfl)],
   #[iI KX G,lM HX (by kernel_rfl) (by kernel_rfl)],
   afc HX (by kernel_rfl) (by kernel_rfl),
   eI KX G]
