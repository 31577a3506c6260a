import PyProof.Rows.All
import Wide.All
import OpenK.AllK
import Wide.FinOn
import Lean
import KE.KDictOf
import PyProof.TupleIter
import PyProof.CollectWalk
import PyProof.AttrMissHeap
import PyProof.EqAt
import PyProof.EqKinds
import PyProof.TupleCall
import KE.KSortTup
import KE.KDictSum
import PyProof.DictIter
import PyProof.ConsumeS
import PyProof.Rows.SetFrom
import PyProof.SetRoads
import PyProof.Rows.CountFlat
import PyProof.StationsW
import PyProof.ExcInit
import PyProof.ExcClass2
import PyProof.ExcBaseAll.ValueError
import PyProof.ExcAttrAll.ValueError
import KE.KIsAll
import PyProof.RulesAs
import PyProof.RulesDel
import PyProof.NeKinds
import KE.KDictList
import KE.KRevIter
import PyProof.EnumMake
import KE.KNestM
import PyProof.ListRange
import PyProof.TupleOfGen
import KE.KMinBuiltin
import PyProof.Rows.CallKwBuiltin
import PyProof.FString
import PyProof.ZipIter
import PyProof.Rows.ZipGen
import PyProof.Rows.FactsT2
import KE.KLam
import KE.KSortKey
import PyProof.DictWalks
import KE.KItemsList
import PySem.Challenge.RW_claimwise_k18_the_first_reading
open List renaming length_map->aa,mem_cons_of_mem->ao,getElem?_eq_getElem->aq,mem_cons_self->aB,not_mem_nil->aD,mem_append_right->aJ,mem_singleton->aQ,replicate->aR,size_toArray->aV,getD_eq_getElem?_getD->aZ,mem_cons->be,length_append->bf,getElem?_map->bg,mem_append->bw,all_eq_true->bz,mem_append_left->bC,map_append->bE,map_cons->bJ,map_map->bK,range->bM,getElem?_eq_some_iff->bN,nodup_cons->bX,mem_map->ck,getElem_mem->cz,getElem?_append_left->cI,length_cons->cL,length_take->cR,nodup_append->cT,getElem_map->dc,length_drop->dz,lookup_cons->dB,append_assoc->dF,getElem?_append_right->dJ,append_nil->d_,replicate_succ->eB,getElem?_set_ne->fQ,mem_of_getElem?->fT,take_of_length_le->fV,length_singleton->f_,mem_range->gc,map_nil->gi,nodup_nil->gA,flatten_cons->gC,getElem_of_mem->gI,map_congr_left->gJ,reverse_cons->ic,length_range->ig,find?_cons->iz,drop_eq_getElem_cons->iO,eq_nil_of_length_eq_zero->jr,length_pos_iff->jx,drop_of_length_le->jC,length_replicate->jR,length_set->jS,length_nil->jU,getElem?_set->j_,ext_getElem->kX,any_eq_true->kZ,getElem?_replicate->lA,map_take->lE,map_drop->lF,lookup->l_,filterMap_cons->oA,length_reverse->oB,getElem?_range->oE,nil_append->oW,getElem?_set_self->qO,mem_filter->tO,any_map->tU,mem_of_mem_take->tY,length->uK,mem_filterMap->u_,map_singleton->ve,any_cons->vB,extract_eq_take_drop->vX,mem_take_iff_getElem->vY,idxOf_lt_length_iff->xm,filterMap_cons_some->xx,filterMap_cons_none->xy,getElem?_cons_succ->xG,of_mem_zip->yf,all_append->ym,range'->yR,length_filter_le->zG,getElem?_of_mem->Av,range_eq_range'->Az,mem_of_mem_drop->AA,all_cons->AV,map_eq_nil_iff->A6,map_set->CQ,map_replicate->CT,any_eq_false->Dp,pairwise_map->Dy,drop_length->EZ,getElem_inj->E3,map_snd_zip->Fc,range'_succ->Fj,map_reverse->Fk,foldl->G2,foldl_cons->G3,map_const'->Hg,drop_zero->IC,all_map->M3
open PySem renaming wpAny_bind->ai,sizeLine->aj,Shared->ay,wpAny_pure->aL,wpAny->aT,model->aW,World->bL,Program->bO,sizeLine_eq->bY,Around->cQ,Spec->cV,mem_of_lookup->dO,cLine->eS,mainGlobals->eU,FuncData->fc,tupleKind->fy,Scope->fH,wpAny_holding->fK,wpAny_Call_Name_kw->fR,cellsFrom->gp,starEach->gH,codeAny_builtin->gQ,wpAny_mono->gZ,wpAny_newObj_type->ie,sysModules->iC,NameKind->je,plainId_quiet->jn,wpAny_typeNameOfWhole_keyiter->jq,binaryOp->jA,wpAny_of_eq->jB,tupleKind_room_in1->jN,wpAny_passesOwn->jQ,assignEach->kj,codeAny->kE,codeAny_mono->kU,wpAny_call_entry->kY,compareOp->lU,foldedSetIterable->mH,wpAny_truthy_bool->mK,call_meets->nI,IsTupleKey->nK,wpAny_typeOf->pq,bindArgs->pB,builtinsNs->pZ,relabel->p_,wpAny_pyIter_list->ql,wpAny_pyNext_list_item->qM,wpAny_pyIter_rangeiter->qP,wpAny_newList->rB,wpAny_pyNext_list_end->r9,wpAny_notOrdered_dict->r_,Arguments->sd,storedH->sj,ItemsOf->su,IsRange->sy,rawInt->tN,bootBuiltins->tP,letOwnedTupleGo->tQ,call_meetsIn->tR,wpAny_specialOf->tT,wpAny_ite_split->tW,callType_codes->uB,recursionLimit->uD,sliceBounds->uL,codeAmong->u7,swapsWith->u9,DictEntry->vc,swapsWithSole->vA,wpAny_dictEntries->vK,wpAny_load->vV,valueAt->v8,callerA->v9,Keyword->v_,backTo->w_,pyIter->xf,seqIndex_neg->xj,wpAny_comprehension_free->xu,wpAny_callSpecial?_slot->xF,wpAny_Call_method0_late->xH,wpAny_execs_nil->x_,PassesOwn->yc,atKey->yg,wpAny_dictEpoch->yi,pushCells_keeps->yk,wpAny_pyNext_range_end->yH,seqIndex_of->yK,wpAny_getItem_list_neg->yM,Builtin->zq,stored->zu,wpAny_seqItems->zw,holding->zx,getItem->zy,pyNext->zz,wpAny_isOneOf_keyiter->zC,newFunctionEnv->zE,typeLookup->Al,wpAny_rule->Am,wpAny_loadName_local->An,Operator->Ao,wpAny_pyIter_keyiter->As,wpAny_pyIter_revIter->Ax,wpAny_standAt->AO,rangeSize_one->AQ,behindInMarks->AR,wpAny_attempt->AU,wpAny_loadName_cell->A1,evalArgs_none->A3,Result->Cj,getattributeRaised->Ck,TriplesOk->Cp,Within->Cq,isTrue->Cs,assign->Ct,inplaceOp->Cu,Fin->CA,call_reversed_list->CK,call_range_1->CL,BindsTo->Df,bindL->Dg,bindC->Dh,collect->Dj,wpAny_assign_Name->Dn,slot_list_getitem->Dq,list_append->Dr,wpAny_pyIter_enum->Du,IsRangeIter->Eb,subscripted->Ed,wpAny_field->Eh,kt_code_dict_new->E1,wpAny_eqBool_int->E2,noFill_tuple_add->E5,wpAny_Dict_empty->E_,wpAny_isInstance->Fd,checkBuiltinCall->Fg,wpAny_Name->GY,wpAny_call->GZ,typeIs_str->G0,typeIs_int->G1,call->G4,codeAny_of_tree->G_,wpAny_tryCatch->Io,setItem->Ip,standAt->Iq,wpAny_newTuple->Ir,wpAny_fieldsOf->Iw,wpAny_setField->Iz,wpAny_runValue->IA,fitsIndex_both->IB,storeName->JT,small_one->JU,swappedStores->Kn,intBits_le_64->Ko,attributeBase->Kp,seq_tuple_add->Kq,evalPart_none->Kr,call_list_seq->Ku,Builtin->Ky,CmpOp->K4,truthy->MX,concat_meets->MZ,interactive->NK,wpAny_letGo->NQ,getAttr->OO,entryOfKey->QL,sliceRange->QX,closureFor->QY,IsPart->Uj,Params->Uo,cellOf->Uq
open PySem.W renaming Frag->ak,keepIn->fL,findIn->gh,fnOf->gy,emptyDict->gB,instObj->i9,kas_sort->mq,codeIn->m6,kla_obj->oX,hasDictIn->qv,plainGet->rO,codeHdIn->rR,nsIn->tX,codeHd_of_K->ua,plainOver->vI,takerIn->yd,makesIn->ye,cellsFrom_some->yI,lookIn->zA,mg_of->AX,callWith_K0->A2,callWith_K->Cw,envX->CM,handedIn->E4,km_in_of->Fo,OpenLaw->G5,kia_one->G8,kitOne->ID,kla_makeFunctionHit->JW,WalkO->Kw,isFn->MY,kla_makeFunction->M6,OpenLaw->OP,kas_ask->OQ,hideAll_size->QM,hideAll_none->QN,looks_findIn->QR,pre_splitW->QT,kla_callFunE->QZ,kla_codeExpr->Q2,hideAll_get->Q5,plainGet_of->Q6,findObj_own->Q7,looks_clsIn->Q8,of_hideAll->Ug,codeRec_of->Ui,ki_setBack->Ul,kitx_tuple->Up,mg_none_of->Uu,km_tabs_of->Uv,methodObj->Uw,get_value->Ux,set_plain->Uy,make_core->UA,osa_open->XQ,any_some->XR,InitBack->XS,makes_of->XT,ki_setAt->XU,kitx_int->XY,kla_eval->XZ,hideAll->Y0,bind_fn->Y3
open PySem.Heap renaming get?_push_of_some->az,lt_size->aO,get?_push_size->aS,size_push->g8,SameBut->jM,get?_update_ne->k_,get?_update_other->mh,get?_update_self->se
open False renaming elim->aC
open _root_ renaming of_decide_eq_true->aE,if_pos->aF,if_neg->aG,absurd->aH,decide_eq_true->a_,False->bu,decide_eq_false->bW,decide_eq_true_eq->eF,DecidableEq->eT,beq_eq_false_iff_ne->fi,if_false->iF,congrArg->jc,if_true->jT,beq_iff_eq->lV,decide_false->pJ,bne_self_eq_false->Dt,Inhabited->JV,Decidable->JZ,decide_true->NS
open Nat renaming le_refl->aK,ne_of_lt->bG,lt_of_lt_of_le->bT,le_trans->cH,lt_irrefl->c8,zero_le->dg,le_of_lt->fP,lt_succ_self->iE,ne_of_gt->ja,lt_trans->kW,not_lt_zero->oU,sub_self->pH,lt_succ_of_lt->qx,le_succ->qN,le_add_right->rP,le_of_eq->xg,zero_add->xq,min_eq_right->Ff,min_eq_left->G7,mul_succ->M9,add_comm->M_,sub_zero->Nb,not_lt->Q3
open PySem.Value renaming ref->bR,none->eN,builtin->AN,int->Cn,str->Co,bool->GX,isStrOf->Km,isInt->NH,bytes->NI,float->NJ
open Bool renaming false_ne_true->bU,and_eq_true->cu,not_eq_true->dD,not_false->eX,not_true->e_,false_eq_true->gq,and_eq_true_iff->nL,and_true->nY,or_eq_true_iff->oF,and_false->p8,false_and->uF,true_and->vE,not_eq_true'->vL,eq_iff_iff->yj,or_false->AS,false_or->Kv,true_or->M0
open Option.some renaming inj->cB
open PyProof.Rows renaming callWith_type1->cJ,seqObj->cO,callWith_builtin1->lX,listUpdate_at->nX,get?_update_seq->oV,AllBare->p6,envOfC->qQ,entry_list_sort->yh,subscriptTail_builtinR->yL,seqEpoch_at->yQ,slot_list_sort->zB,failedOf->Ar,entry_proto_collect'->Au,Call_->Ay,boot_reversed->AW,slot_tuple_getitem->Cy,listItems_at->CC,plain_sorted->CD,entry_sorted->CF,IntsAre->Di,kind_sorted->Ef,slot_str_getitem->E6,entry_list_iadd'->Fe,arrOf->G6,args_list_sort->Iu,subscriptTail->Ks,args_sorted1->M1,isTrue_and->QO,Subscript_->QS
open PySem.Obj renaming mapSeq->c_,data_mapFields->CH
open PySem.NameKind renaming free->dM,cell->dN
open Sum renaming inr->d9,inl->uC
open Array renaming length_toList->ee,getElem?_toList->iN,getElem?_eq_getElem->kq,toList_append->lu,getElem?_eq_none->qL,toArray_toList->tV,toList_extract->Aw,append_assoc->Cr,toList_inj->Fb,getD->QV,ext'->QW
open PySem.Around renaming under_plainId->eL,frames_deeper->Aq
open PySem.Calls renaming spliced_cons->eV,spliced_nil->fY,callWith_builtin->qR,Name_function_global->vz,call_function_entry->vW
open PySem.Builtin.Str renaming strSliceIndices->fB,tooLong->Q9
open PySem.Builtin.Range renaming rangeFitsLong->fC,rangeSize->g9,small->t_
open Int renaming toNat_natCast->fE,eq_ofNat_of_zero_le->ju,zero_add->CP,toNat->J0,mul_one->NN
open Ne renaming symm->gf
open PySem.Expr.Name renaming elim->gj
open PySem.Str renaming length->iD,ofString->pF,empty->Cv
open PySem.Stmt.Assign renaming elim->k8
open PySem.Heap.SameBut renaming update->lq
open PySem.Builtin.Dict renaming updateFrom->ly,selfAndRest->w9,dictSlotNone->K0,showsAll->OR
open PySem.F renaming plain_list_iadd->lB,entry_dict_get->mj,slot_dict_get->m8,plain_proto_collect->vd,args_tuple_add_2->xh,entry_tuple_add->xB,args_dict_get_2->xC,args_dict_get_3->xD,slot_dict_items->xJ,slot_tuple_add->yJ,args_list_index_2->K1,slot_dict_getitem->K6,plain_extend_loop->K7,args_dict_items_1->K8,entry_list_index->M2,args_list_init_2->M7,entry_dict_items->M8,slot_list_index->Nc,typeCall_list_1->Nd,entry_list_init->Nf,plainAttrs_dict->Ng,type_dict_items->Nh,called_list->Q_
open ForInStep renaming yield->lW
open PySem.Expr.Call renaming elim->m9
open True renaming intro->nJ
open PySem.Expr.Subscript renaming elim->oG
open PySem.Builtin.List renaming listTooLong->pD,listFitsIndex->vD,listSameRef->xw,listUpdate->xE,listLengthHint->JX,listExtendWith->JY,listItems->NR
open Eq renaming trans->rQ
open PySem.Builtin.Dict_items renaming ownsTuple->uE
open PySem.W.Looks renaming of_pure->vC,here->Uh
open Option renaming isSome_map->vJ,map_eq_some_iff->yN,isSome_some->Cz,getD_none->E7,map_some->Hf,map->Q4
open PySem.SeqAt renaming EqAt->xo,notIn_tupleAt->K5,notIn_listAt->M4,in_tupleAt->NP,in_listAt->OT
open PySem.Stmt.Return renaming elim->xA
open PySem.Expr.Tuple renaming elim->yl
open Sum.inr renaming inj->yO
open PySem.Heap.IsRevIter renaming typeIs->zF
open PySem.Expr.Attribute renaming elim->A4
open PySem.Stmt.AugAssign renaming elim->A5
open PySem.AutoListH renaming list_insert_list_int_val_1->CJ,list___mul___list_int_3->Eg
open PySem.Expr.ListComp renaming elim->CN
open Iff renaming rfl->Dk
open PySem.Expr.UnaryOp renaming elim->Dv
open List.Sublist renaming refl->Dw,append->Ra
open PySem.IsRange renaming new->Ec
open PySem.IsL renaming update->E8
open PySem.AutoSeq1 renaming list_extend_list_list_0->E9
open PySem.Expr.BoolOp renaming elim->Fi
open PySem.Heap.DictOf renaming new->GW
open PySem.PassesOwn renaming never->G9
open PySem.Builtin.Tuple renaming tupleExact->M5
open List.Pairwise renaming imp_of_mem->Na,nil->UC
open Classical renaming axiomOfChoice->Ni
open PySem.Walks renaming range->NL
open PyProof renaming noPylong_small->NO
open PySem.Txt renaming mul->OS
open PySem.W.WShape renaming has->QU
open PySem.SeqAt.EqAt renaming int_str->Ud,str_int->Ue
open PySem.Heap.IsSliceOf renaming new->Uk
open PySem.W.WData renaming int->Um
open PySem.Expr.Constant renaming elim->Ur
open PySem.ScopeKind renaming function->Us
open PySem.Stmt.Continue renaming elim->Ut
open PySem.Within renaming cons->Uz
open PySem.Heap.Ns1 renaming of_empty->UB
open PySem.Expr.Compare renaming elim->UD
open PySem.DictEntry renaming refKey->XO
open PySem.Heap.DictOfH renaming new->XW
open PySem.P renaming add_list->XX
open Array.Perm renaming refl->Y4
open PySem.Expr.BinOp renaming elim->Y5
open PySem.Expr.IfExp renaming elim->Y6
open PySem.Expr.Slice renaming elim->Y7
open PySem.Stmt.Break renaming elim->Y8
open List.cons renaming injEq->Y9,inj->abu
open PySem.Expr.List renaming elim->abn
open PySem.Expr.Dict renaming elim->abo
open PySem.Stmt.Expr renaming elim->abp
open List renaming length->zl
open Option renaming some->L,none->S
open _root_ renaming List->M,Int->J,Option->abM
open Bool renaming false->B,true->W
open PySem renaming Value->Z
local macro_rules|`(#[$a,$b,*])=>`(⟨$a,$b,*⟩)
def Zq7:Nat->Lean.Syntax->Lean.MacroM (Lean.TSyntax `rcasesPat)
|n+1,s=>match s with
 |`(#[$a,*])=>do let p<-a.getElems.mapM λx=>Zq7 n x.raw;`(rcasesPat|⟨$[$p:rcasesPat],*⟩)
 |`($x:ident)=>`(rcasesPat|$x:ident)
 |_=>`(rcasesPat|_)
|_,_=>`(rcasesPat|_)
local macro_rules|`(tactic|let $p:term:=$e)=>do `(tactic|obtain $(<-Zq7 50 p):rcasesPat:=$e)
noncomputable section
set_option Elab.async false
set_option linter.all false
set_option maxRecDepth 100000
set_option maxHeartbeats 4000000
set_option bootstrap.genMatcherCode false
set_option compiler.extract_closed false
set_option genSizeOf false
set_option genInjectivity false
set_option tactic.hygienic false
section
namespace PySem
namespace F
def qS:entryFor table "dict.update.loop"=L zq.«dict.update.loop»:=entryFor_of_fast (by kernel_rfl)
def jg:plainId "dict.update.loop"=W:=by decide +kernel
end F
section
variable{prog:bO}{w:bL}{K:Type} [eT K] {knd:KeyKind prog w K}{A:cQ}{s:ay}{R:Cj->ay->Prop}
def yS(knd:KeyKind prog w K)(h:Heap)(items:Array Z)(ps:M (K×Z)):Prop:=
 items.size=zl ps/\∀(i:Nat) (k:K) (v:Z),ps[i]?=L (k,v)->∃t kv,items[i]?=L (.ref t)/\h.IsTuple t (List.toArray [kv,v])/\knd.is k kv=W
def yS.keep(x:yS knd h items ps)(hk:∀t xs,h.IsTuple t xs->h'.IsTuple t xs):yS knd h' items ps:=
 #[x.1,λi k v e=>let⟨t,kv,h1,h2,h3⟩:=x.2 i k v e;#[t,kv,h1,hk t _ h2,h3]]
def qT{h:Heap}(a:h.IsTuple t xs)(b:h.IsListIter it l i):t≠it:=by
 rintro rfl;let#[o,h1,h2,_]:=a;let#[o',h3,h4,_]:=b;rw[h1]at h3;cases h3;rw[h2]at h4;exact aH h4 (by decide)
def A7{h:Heap}(a:h.IsList t xs)(b:h.IsListIter it l i):t≠it:=by
 rintro rfl;let#[o,h1,h2,_]:=a;let#[o',h3,h4,_]:=b;rw[h1]at h3;cases h3;rw[h2]at h4;exact aH h4 (by decide)
def J4{h:Heap}(a:h.IsTuple t xs)(b:h.DictOf knd d kvs):t≠d:=by
 rintro rfl;let#[o,h1,h2,n,h5]:=a;let#[o',es,ep,h3,hc,hd,_]:=b;rw[h1]at h3;cases h3;rw[h5]at hd;cases hd
def K9{h:Heap}(a:h.IsList t xs)(b:h.DictOf knd d kvs):t≠d:=by
 rintro rfl;let#[o,h1,h2,n,h5]:=a;let#[o',es,ep,h3,hc,hd,_]:=b;rw[h1]at h3;cases h3;rw[h5]at hd;cases hd
def we{h:Heap}(a:h.IsListIter it l i)(b:h.DictOf knd d kvs):it≠d:=by
 rintro rfl;let#[o,h1,h2,h5]:=a;let#[o',es,ep,h3,hc,hd,_]:=b;rw[h1]at h3;cases h3;rw[h5]at hd;cases hd
def IsTuple.sameBut(x:h.IsTuple t xs)(hs:jM b h h')(hn:t≠b):h'.IsTuple t xs:=
 let⟨o,ho,r⟩:=x;#[o,(hs.2 t hn).trans ho,r]
def IsList.sameBut(x:h.IsList t xs)(hs:jM b h h')(hn:t≠b):h'.IsList t xs:=
 let⟨o,ho,r⟩:=x;#[o,(hs.2 t hn).trans ho,r]
def IsListIter.sameBut(x:h.IsListIter t l i)(hs:jM b h h')(hn:t≠b):h'.IsListIter t l i:=
 let⟨o,ho,r⟩:=x;#[o,(hs.2 t hn).trans ho,r]
def DictOf.sameBut'(x:h.DictOf knd d kvs)(hs:jM b h h')(hn:d≠b):h'.DictOf knd d kvs:=
 let⟨o,es,ep,ho,r⟩:=x;#[o,es,ep,(hs.2 d hn).trans ho,r]
noncomputable def IE(acc:M (K×Z))(ps:M (K×Z)):M (K×Z):=ps.foldl (λa p=>zu a p.1 p.2) acc
def Ei(hh:A.in1.handled=S)(res:Z)(hsz:zl ps<=aj):∀(k i:Nat) (s:ay) (acc:M (K×Z)),zl ps-i=k->i<=zl ps->zl acc<=i->s.heap.IsListIter it l i->s.heap.IsList l items->yS knd s.heap items ps->s.heap.DictOf knd d acc->
  (∀(h':Heap) (tk:Nat),s.toks<=tk->h'.DictOf knd d (IE acc (ps.drop i))->(∀b o,b≠d->b≠it->s.heap.get? b=L o->h'.get? b=L o)->R (.ok (.ret res)) { s with heap:=h',toks:=tk })->
  kE (aW prog w) A (.builtin "dict.update.loop" #[[.ref d,.ref it,tN (i:J),res],[]]) R s:=by
 intro k;induction k with
 |zero=>
  intro i s acc hk hi hacc hit hl hp hd hR;have hin:i=zl ps:=by lia
  subst hin;refine gQ F.qS ?_;rw[eL F.jg _];refine ai (r9 hh hit hl (by rw[qL];rw[hp.1];exact aK _) λh' hs=>?_);have:=hR h' s.toks (aK _) (by
   rw[EZ];exact hd.extBut hs (we hit hd).symm) (λb o _ hb e=>hs b o hb e)
  exact ai (aL (aL this))
 |succ k ih=>
  intro i s acc hk hi hacc hit hl hp hd hR;have hlt:i<zl ps:=by omega
  let#[t,kv,e1,ht,hkey]:=hp.2 i ps[i].1 ps[i].2 (aq hlt);refine gQ F.qS ?_;rw[eL F.jg _];refine ai (qM hit hl e1 λh' hit' hs=>?_);have ht':=IsTuple.sameBut ht hs (qT ht hit);have hl':=IsList.sameBut hl hs (A7 hl hit);have hd':=DictOf.sameBut' hd hs (we hit hd).symm;have hp':=hp.keep λt xs a=>IsTuple.sameBut a hs (qT a hit);refine ai (fK ?_);refine ai (Io ?_);let#[o,ho,hc,n,hdat]:=ht';refine ai (pq #[o,ho,hc] ?_);rw[aF (by decide)];refine ai (zw ho hdat (aL ?_));refine fK ?_;refine wpAny_dictSet_pairs hkey hd' λh2 hd2 hs2=>?_;have hit2:=IsListIter.sameBut hit' hs2 (we hit' hd');have hl2:=IsList.sameBut hl' hs2 (K9 hl' hd');have hp2:=hp'.keep λt xs a=>IsTuple.sameBut a hs2 (J4 a hd');have hlen:zl (zu acc ps[i].1 ps[i].2)<=i+1:=by
   unfold zu;split
   .rw[aa];lia
   .rw[bf,f_];lia
  have q:=ih (i+1) { s with heap:=h2,toks:=s.toks+1 } (zu acc ps[i].1 ps[i].2) (by omega) hlt hlen hit2 hl2 hp2 hd2 (λh3 tk htk hd3 hk3=>by
   refine hR h3 tk (cH (qN _) htk) ?_ ?_
   .rw[iO hlt];exact hd3
   .intro b o hb1 hb2 e;exact hk3 b o hb1 hb2 ((hs2.2 b hb1).trans ((hs.2 b hb2).trans e)))
  exact aL #[jn F.jg _,q]
end
end PySem
end
section
namespace PySem
namespace F
theorem K_:Al (.type "list") "keys"=pure S:=by rfl
end F
section
variable{prog:bO}{w:bL}{A:cQ}{E:Z->ay->Prop}{s:ay}{a:Addr}{o:Obj}
def A8{Q:abM Z->ay->Prop}(hx:s.heap.get? a=L o)(hc:o.cls=.type "list")(hdat:o.data=.seq xs k)(hd:o.dict=S)(hA:A.handled=S)(h:∀h' tk,(∀b o,s.heap.get? b=L o->h'.get? b=L o)->Q S { s with heap:=h',toks:=tk }):aT (aW prog w) A (getAttr? (.ref a) "keys") Q E s:=by
 let#[c,dct,dat,sl]:=o;simp only at hc hdat hd;subst hc hdat hd;let#[mem,gn,dr,cnt,sys]:=s;have isL:∀c',(⟨mem,gn,dr,c',sys⟩:ay).TypeIs (.ref a) "list":=λ_=>#[_,hx,rfl];have lk:=F.K_;have sub:=sub_AttributeError;have ga:=F.slot_list_getattribute;have gl:=ga.lookup;have gb:=ga.bind (.ref a);have no:=am_list_getattr_none
 delta getAttr? getAttrBy? getAttrBy
 repeat (any_goals (first|assumption|exact isL _|((with_reducible show aT _ _ (call (AN "list.__getattribute__") _ _) _ _ _);refine nI F.slot_list_getattribute (isL _) am_entry_list_getattribute (F.args_list_getattribute_2 _ _) (meets_getattribute_miss_list a xs k sl "keys" _ lk (by decide) (by size_fits)) #[hx,hA,λh' tk' e hx'=>?_])|wp_step))
 let#[x1,x2,there]:=hx'.there;change aT _ _ (Ck _ _ _ _ _ _ _) _ _ _;delta Ck
 repeat (any_goals (first|wp_step|assumption))
 exact h _ _ hx'.keeps
end
section
variable{prog:bO}{w:bL}{K:Type} [eT K] {knd:KeyKind prog w K}{A:cQ}{E:Z->ay->Prop}{s:ay}
def IsTuple.keep{h h':Heap}(x:h.IsTuple t xs)(hk:∀b o,h.get? b=L o->h'.get? b=L o):h'.IsTuple t xs:=
 let⟨o,ho,r⟩:=x;#[o,hk _ _ ho,r]
def IsList.keep{h h':Heap}(x:h.IsList t xs)(hk:∀b o,h.get? b=L o->h'.get? b=L o):h'.IsList t xs:=
 let⟨o,ho,r⟩:=x;#[o,hk _ _ ho,r]
def DictOf.keep'{h h':Heap}(x:h.DictOf knd d kvs)(hk:∀b o,h.get? b=L o->h'.get? b=L o):h'.DictOf knd d kvs:=
 let⟨o,es,ep,ho,r⟩:=x;#[o,es,ep,hk _ _ ho,r]
def Fp{l:Addr}{Q:Z->ay->Prop}(hA:A.handled=S)(ho:s.heap.get? l=L o)(hc:o.cls=.type "list")(hdat:o.data=.seq items n)(hno:o.dict=S)(hp:yS knd s.heap items ps)(hsz:zl ps<=aj)(h:∀(h':Heap) (tk:Nat),h'.DictOf knd s.heap.objs.size (IE [] ps)->(∀b o,s.heap.get? b=L o->h'.get? b=L o)->Q (.ref s.heap.objs.size) { s with heap:=h',toks:=tk }):aT (aW prog w) A (call (.type "dict") [.ref l]) Q E s:=by
 refine uB (Q₁:=λmade st=>made=.ref s.heap.objs.size/\st={ s with heap:=s.heap.push { cls:=.type "dict",data:=.dict #[] } }) F.kt_called_dict (F.kt_typeCall_dict_1 _) F.entry_dict_init (E1 _ #[rfl,rfl]) ?_;rintro made st ⟨rfl,rfl⟩;have void:(s.heap.push { cls:=.type "dict",data:=.dict #[] }).DictOf knd s.heap.objs.size []:=GW s.heap;have hl1:(s.heap.push { cls:=.type "dict",data:=.dict #[] }).get? l=L o:=az _ ho;have hT1:({ s with heap:=s.heap.push { cls:=.type "dict",data:=.dict #[] } }:ay).TypeIs (.ref l) "list":=#[o,hl1,hc];refine#[void.typeIs,F.args_dict_init_2 _ _,?_]
 delta zq.«dict.__init__»;refine ai ?_;delta w9
 refine ai (r_ void.typeIs ?_);change aT _ _ (pure (s.heap.objs.size,[bR l])) _ _ _;refine aL ?_;show aT _ _ (ly "dict.__init__" s.heap.objs.size (.ref l) [] .none) _ _ _
 delta ly
 refine ai (pq hT1 ?_);rw[aF (by decide)];have hA2:A.in1.in1.handled=S:=hA;refine ai (A8 hl1 hc hdat hno hA2 λh2 tk2 hk2=>?_);show aT _ _ (rule _ >>= _) _ _ _;refine ai (Am ?_);have hl2:h2.IsList l items:=#[o,hk2 _ _ hl1,hc,n,hdat];refine ai (ql hl2 ?_);have hk1:∀b o,s.heap.get? b=L o->h2.get? b=L o:=λb o e=>hk2 b o (az _ e);have hk3:∀b o,h2.get? b=L o->(h2.push { cls:=.type "list_iterator",data:=.fields (List.toArray [.ref l,.int 0 0]) }).get? b=L o:=λb o e=>az _ e;have hd2:h2.DictOf knd s.heap.objs.size []:=DictOf.keep' void hk2;refine aL #[jn F.jg _,Ei hA2 .none hsz (zl ps) 0 _ [] rfl (dg _) (aK _)
  #[_,aS _ rfl,rfl,rfl] (IsList.keep hl2 hk3) (hp.keep λt xs a=>IsTuple.keep (IsTuple.keep a hk1) hk3) (DictOf.keep' hd2 hk3) λh4 tk4 _ hd4 hk4=>?_]
 refine#[rfl,h h4 tk4 hd4 λb o e=>hk4 b o ?_ ?_ (hk3 _ _ (hk1 _ _ e))]
 .rintro rfl;exact aH (aO e) (c8 _)
 .rintro rfl;exact aH (aO (hk1 _ _ e)) (c8 _)
end
end PySem
end
section
namespace L2
open PySem PySem.Spec PyProof.Rows
abbrev Key:=Sum J Str
noncomputable def CU:Key->Z->Bool
|.inl k,v=>NH k v
|.inr x,v=>Km x v
noncomputable def keyH(w:bL):Key->J
|.inl k=>hashInt k
|.inr x=>hashStr w x
def iT:∀{k:Key}{v:Z},CU k v=W->(∃i t,k=uC i/\v=Cn i t)\/(∃x t,k=d9 x/\v=Co x t)
|.inl i,v,h=>by
 let#[t,e]:=Value.isInt_shape (k:=i) (v:=v) h;exact .inl #[i,t,rfl,e]
|.inr x,v,h=>by
 let#[t,e]:=Value.isStrOf_shape (x:=x) (v:=v) h;exact .inr #[x,t,rfl,e]
def Rb(i:J)(t:Tok):CU (.inl i) (.int i t)=W:=by simp[CU,NH]
def Rc(x:Str)(t:Tok):CU (.inr x) (.str x t)=W:=by simp[CU,Km]
def abv(a b:J):decide ((uC a:Key)=uC b)=(a==b):=by lia
def abw(a b:Str):decide ((d9 a:Key)=d9 b)=decide (a=b):=by simp
def abx(a:J)(b:Str):decide ((uC a:Key)=d9 b)=B:=bW (λq=>nomatch q)
def aby(a:Str)(b:J):decide ((d9 a:Key)=uC b)=B:=bW (λq=>nomatch q)
def fq(prog:bO)(w:bL):PySem.KeyKind prog w Key where
 is:=CU
 hash:=keyH w
 inj:=λv a b ha hb=>by
  rcases iT ha with⟨i,t,rfl,rfl⟩|⟨x,t,rfl,rfl⟩
  .rcases iT hb with⟨j,u,rfl,e⟩|⟨y,u,rfl,e⟩
   .injection e with e1 _;rw[e1]
   .exact nomatch e
  .rcases iT hb with⟨j,u,rfl,e⟩|⟨y,u,rfl,e⟩
   .exact nomatch e
   .injection e with e1 _;rw[e1]
 byValue:=λk v h=>by
  rcases iT h with⟨i,t,rfl,rfl⟩|⟨x,t,rfl,rfl⟩<;>rfl
 pyHash:=λhv h=>by
  rcases iT hv with⟨i,t,rfl,rfl⟩|⟨x,t,rfl,rfl⟩
  .exact wpAny_pyHash_int h
  .exact wpAny_pyHash_str h
 eqBool:=λhu hv h=>by
  rcases iT hu with⟨i,t,rfl,rfl⟩|⟨x,t,rfl,rfl⟩
  .rcases iT hv with⟨j,u,rfl,rfl⟩|⟨y,u,rfl,rfl⟩
   .rw[abv]at h;exact E2 h
   .rw[abx]at h;exact Ud i t y u _ _ _ _ h
  .rcases iT hv with⟨j,u,rfl,rfl⟩|⟨y,u,rfl,rfl⟩
   .rw[aby]at h;exact Ue x t j u _ _ _ _ h
   .rw[abw]at h;exact wpAny_eqBool_str h
 «strs»:=λk x t v h=>by
  rcases iT h with⟨i,u,rfl,e⟩|⟨y,u,rfl,e⟩
  .exact nomatch e
  .injection e with e1 _;subst e1;cases v<;>rfl
def Dz(prog:bO)(w:bL)(i:J)(t:Tok):(fq prog w).is (.inl i) (.int i t)=W:=Rb i t
def DA(prog:bO)(w:bL)(x:Str)(t:Tok):(fq prog w).is (.inr x) (.str x t)=W:=Rc x t
end L2
namespace L2
open PySem PySem.Spec PyProof.Rows
inductive V where
 |non|bl (b:Bool)|int (i:J)|str (x:Str)|byt (b:Array UInt8)|flt (b:UInt64)|ref (a:Addr)|ty (n:String)
 deriving eT
def RelV:V->Z->Prop
|.non,u=>u=eN
|.bl b,u=>u=GX b
|.int i,u=>∃t,u=Cn i t
|.str x,u=>∃t,u=Co x t
|.byt b,u=>∃t,u=NI b t
|.flt b,u=>∃t,u=NJ b t
|.ref a,u=>u=bR a
|.ty n,u=>u=Value.type n
abbrev bP:M V->M Z->Prop:=Paired RelV
def bP.length{xs:M V}{us:M Z}(r:bP xs us):zl xs=zl us:=Paired.length r
theorem bP.get:∀{xs:M V}{us:M Z}{i:Nat}{x:V},bP xs us->xs[i]?=L x->∃u,us[i]?=L u/\RelV x u
|_,_,_,_,.nil,e=>by simp at e
|_,_,0,_,.cons r _,e=>by simp at e;subst e;exact#[_,rfl,r]
|_,_,i+1,x,.cons _ t,e=>by
 let#[u,h1,h2]:=bP.get (i:=i) (x:=x) t (by simpa using e);exact#[u,by simpa using h1,h2]
theorem bP.set(r:RelV x u):∀{xs:M V}{us:M Z} (i:Nat),bP xs us->bP (xs.set i x) (us.set i u)
|_,_,_,.nil=>.nil
|_,_,0,.cons _ t=>.cons r t
|_,_,i+1,.cons q t=>.cons q (bP.set r i t)
theorem bP.append:∀{xs ys:M V}{us ws:M Z},bP xs us->bP ys ws->bP (xs++ys) (us++ws)
|_,_,_,_,.nil,s=>s
|_,_,_,_,.cons r t,s=>.cons r (bP.append t s)
theorem bP.take:∀{xs:M V}{us:M Z} (n:Nat),bP xs us->bP (xs.take n) (us.take n)
|_,_,0,_=>.nil
|_,_,_+1,.nil=>.nil
|_,_,n+1,.cons r t=>.cons r (bP.take n t)
theorem bP.drop:∀{xs:M V}{us:M Z} (n:Nat),bP xs us->bP (xs.drop n) (us.drop n)
|_,_,0,r=>r
|_,_,_+1,.nil=>.nil
|_,_,n+1,.cons _ t=>bP.drop n t
def sA:abM V->abM Z->Prop
|some v,L u=>RelV v u
|none,S=>True
|_,_=>bu
def KV{κ:Type}:M (κ×V)->M (κ×Z)->Prop:=Paired λ(p:κ×V) (q:κ×Z)=>p.1=q.1/\RelV p.2 q.2
noncomputable def kV:Key->V
|.inl i=>.int i
|.inr x=>.str x
inductive HO where
|lst (xs:M V)
|tup (xs:M V)
|dK (kvs:M (Key×V))|dT (kvs:M (M Key×V))
|set (abr:J->Bool) (n:Nat)
|ins (C dx:Addr) (fs:M (Str×V))
|own (x:Addr)
|xd (fs:M (Str×V))
|met (f x:Addr)
|rng (lo hi:J)
|bq (o:Obj) (u:HO)
|tbl (ps:Array Z)
|ext (φ:Heap->Prop)
abbrev Hp:=Addr->abM HO
noncomputable def upd(H:Hp)(a:Addr)(o:HO):Hp:=λb=>if b=a then L o else H b
def bQ:upd H a o a=L o:=by unfold upd;rw[aF rfl]
def aY(h:b≠a):upd H a o b=H b:=by unfold upd;rw[aG h]
def OU{H:Hp}(h:H a=L o)(h':H b=L u)(d:o≠u):a≠b:=by lia
def bZ{H:Hp}(h:H a=L o)(h':H b=S):a≠b:=by lia
noncomputable def OV(ps:Array Z):Str:=match ps.toList with
|.str q _::_=>q
|_=>""
def X3(H:Hp)(h:Heap)(a:Addr)(ps:Array Z):Prop:=∃qs,h.get? a=L { cls:=.none,data:=.fields qs }/\Cp qs.toList/\∀pos cv,u7 pos qs.toList=L cv->∃c' oc vs tq,cv=.ref c'/\H c'=L (.bq oc (.own a))/\oc.data=.fields vs/\vs[1]?=L (.str (OV ps) tq)
section
variable(P:bO) (w:bL)
def fX(H:Hp)(h:Heap)(a:Addr):HO->Prop
|.lst xs=>zl xs<=aj/\∃(its:M Z) (n:Nat),bP xs its/\h.get? a=L { cls:=.type "list",data:=.seq its.toArray n }
|.tup xs=>zl xs<=aj/\∃its:M Z,bP xs its/\IsTup h a its.toArray
|.dK kvs=>zl kvs<=aj/\(a==iC)=B/\∃vs,KV kvs vs/\h.DictOf (fq P w) a vs
|.dT kvs=>zl kvs<=aj/\(a==iC)=B/\∃xs:M (M Key×Addr×Z),
  Paired (λ(p:M Key×V) (q:M Key×Addr×Z)=>p.1=q.1/\H q.2.1=L (.tup (p.1.map kV))/\RelV p.2 q.2.2) kvs xs /\
  ∃o es ep,h.get? a=L o/\o.ExactDict/\o.data=.dict es ep/\es.toList=xs.map (QL (fy (fq P w)))/\(xs.map (·.1)).Nodup
|.set abr n=>h.SetOf (intKind P w) a abr n
|.ins C dx fs=>H dx=L (.own a)/\zl fs<=1000/\dx≠a/\h.get? a=L (i9 C dx) /\
  ∃mA,h.Ns1 dx mA/\(∀f,sA (fs.lookup f) (mA f))/\Cq mA (fs.map (·.1))
|.own _=>∃o,h.get? a=L o
|.xd fs=>∃mA,h.Ns1 a mA/\∀f,sA (fs.lookup f) (mA f)
|.rng lo hi=>∃t u v,h.get? a=L { cls:=.type "range",data:=.fields (List.toArray [.int lo t,.int hi u,.int 1 v]) }
|.bq o u=>h.get? a=L o/\fX H h a u
|.tbl ps=>X3 H h a ps
|.met f x=>h.get? a=L (Uw (.ref f) (.ref x))
|.ext φ=>φ h/\(∃o,h.get? a=L o)/\∀h1 h2:Heap,φ h1->(∀o,h1.get? a=L o->h2.get? a=L o)->φ h2
def gR(H:Hp)(h:Heap):Prop:=∀a o,H a=L o->fX P w H h a o
end
section
variable{P:bO}{w:bL}{H H':Hp}{h h':Heap}{a:Addr}{o:HO}
def fX.lt(x:fX P w H h a o):a<h.objs.size:=by
 cases o with
 |lst xs=>let#[_,_,_,_,e]:=x;exact aO e
 |tup xs=>let#[_,_,_,p]:=x;exact p.lt
 |dK kvs=>let#[_,_,_,_,o,_,_,e,_]:=x;exact aO e
 |dT kvs=>let#[_,_,_,_,o,_,_,e,_]:=x;exact aO e
 |set abr n=>let#[o,_,_,_,e,_]:=x;exact aO e
 |ins C dx fs=>let#[_,_,_,e,_]:=x;exact aO e
 |own y=>let#[_,e]:=x;exact aO e
 |xd fs=>let#[_,#[_,_,_,e,_],_]:=x;exact aO e
 |rng lo hi=>let#[_,_,_,e]:=x;exact aO e
 |bq ob u=>let#[e,_]:=x;exact aO e
 |tbl ps=>let#[_,e,_]:=x;exact aO e
 |met f y=>exact aO (show h.get? a=L _ from x)
 |ext φ=>let#[_,#[_,e],_]:=x;exact aO e
theorem Paired.Hh{α β:Type}{F G:α->β->Prop}:∀{ahA:M α}{ahB:M β},Paired F ahA ahB->(∀a b,F a b->G a b)->Paired G ahA ahB
|_,_,.nil,_=>.nil
|_,_,.cons r t,f=>.cons (f _ _ r) (Paired.Hh t f)
def Paired.imp'{α β:Type}{F G:α->β->Prop}(f:∀a b,F a b->G a b){ahA:M α}{ahB:M β}(r:Paired F ahA ahB):Paired G ahA ahB:=Paired.Hh r f
def fX.stay(x:fX P w H h a o)(k:∀b u,(b=a\/H b=L (.own a))->h.get? b=L u->h'.get? b=L u)(ho:∀b,H b=L (.own a)->H' b=L (.own a))(ht:∀b xs,H b=L (.tup xs)->H' b=L (.tup xs))(hf:∀b o u,H b=L (.bq o u)->H' b=L (.bq o u)):fX P w H' h' a o:=by
 induction o with
 |lst xs=>let#[z,its,n,r,e]:=x;exact#[z,its,n,r,k _ _ (.inl rfl) e]
 |tup xs=>let#[z,its,r,ob,e,c]:=x;exact#[z,its,r,ob,k _ _ (.inl rfl) e,c]
 |dK kvs=>let#[z,y,vs,r,ob,es,ep,e,c]:=x;exact#[z,y,vs,r,ob,es,ep,k _ _ (.inl rfl) e,c]
 |dT kvs=>
  let#[z,y,xs,r,ob,es,ep,e,c]:=x;exact#[z,y,xs,Paired.Hh r λp q z=>#[z.1,ht _ _ z.2.1,z.2.2],ob,es,ep,k _ _ (.inl rfl) e,c]
 |set abr n=>let#[ob,es,ep,t,e,c]:=x;exact#[ob,es,ep,t,k _ _ (.inl rfl) e,c]
 |ins C dx fs=>
  let#[d,z,ne,e,mA,#[od,es,ep,e2,c],r]:=x;exact#[ho _ d,z,ne,k _ _ (.inl rfl) e,mA,#[od,es,ep,k _ _ (.inr d) e2,c],r]
 |own y=>let#[ob,e]:=x;exact#[ob,k _ _ (.inl rfl) e]
 |xd fs=>let#[mA,#[od,es,ep,e,c],r]:=x;exact#[mA,#[od,es,ep,k _ _ (.inl rfl) e,c],r]
 |rng lo hi=>let#[t,u,v,e]:=x;exact#[t,u,v,k _ _ (.inl rfl) e]
 |bq ob u ih=>let#[e,q]:=x;exact#[k _ _ (.inl rfl) e,ih q]
 |tbl ps=>
  let#[qs,e,t,c]:=x;refine#[qs,k _ _ (.inl rfl) e,t,λpos cv q=>?_];let#[c',oc,vs,tq,rfl,e2,z]:=c pos cv q;exact#[c',oc,vs,tq,rfl,hf _ _ _ e2,z]
 |met f y=>
  have e:=x;exact k a _ (.inl rfl) e
 |ext φ=>let#[p,#[o,e],st]:=x;exact#[st _ _ p λo q=>k _ _ (.inl rfl) q,#[o,k _ _ (.inl rfl) e],st]
def gR.lt(x:gR P w H h)(e:H a=L o):a<h.objs.size:=(x a o e).lt
def gR.fresh(x:gR P w H h)(e:h.objs.size<=a):H a=S:=by
 cases q:H a with
 |none=>rfl
 |some u=>exact aH (bT (x.lt q) e) (c8 _)
def gR.kept(x:gR P w H h)(k:∀b u,h.get? b=L u->h'.get? b=L u):gR P w H h':=λa o e=>
 (x a o e).stay (λb u _ q=>k b u q) (λ_ q=>q) (λ_ _ q=>q) λ_ _ _ q=>q
def gR.laid(x:gR P w H h)(k:∀b u,h.get? b=L u->h'.get? b=L u)(hp:h.objs.size<=a)(new:fX P w (upd H a o) h' a o):gR P w (upd H a o) h':=λb u e=>by
 have hn:=x.fresh hp;by_cases hb:b=a
 .subst hb;rw[bQ]at e;cases e;exact new
 .rw[aY hb]at e;exact(x b u e).stay (λc v _ q=>k c v q) (λc q=>by rw[aY (bZ q hn)];exact q) (λc xs q=>by rw[aY (bZ q hn)];exact q) λc ob xs q=>by rw[aY (bZ q hn)];exact q
end
def Rd(H:Hp)(a:Addr)(u:HO):Prop:=H a=L u\/∃o,H a=L (.bq o u)
def Rd.ok(r:Rd H a u)(x:gR P w H h):fX P w H h a u:=by
 rcases r with r|⟨o,r⟩
 .exact x a u r
 .obtain⟨_,q⟩:=x a _ r;exact q
def Rf:abM HO->Prop
|some (.lst _)=>True
|some (.dK _)=>True
|some (.dT _)=>True
|some (.set _ _)=>True
|some (.ins _ _ _)=>True
|some (.ext _)=>True
|_=>bu
section
variable{P:bO}{w:bL}{H:Hp}{h h':Heap}{x e:Addr}{o':HO}
def gR.write(ok:gR P w H h)(mu:Rf (H x))(he:e=x\/H e=L (.own x))(k:∀b u,b≠e->h.get? b=L u->h'.get? b=L u)(heo:∃u,h'.get? e=L u)(new:fX P w (upd H x o') h' x o'):gR P w (upd H x o') h':=λb u q=>by
 have nown:∀c y,H c=L (.own y)->c≠x:=λc y r z=>by subst z;rw[r]at mu;exact mu
 have ntup:∀c xs,H c=L (.tup xs)->c≠x:=λc xs r z=>by subst z;rw[r]at mu;exact mu
 by_cases hb:b=x
 .subst hb;rw[bQ]at q;cases q;exact new
 .rw[aY hb]at q;by_cases hbe:b=e
  .have q':H b=L (.own x):=by
    rcases he with z|z
    .exact aH (hbe.trans z) hb
    .rw[hbe];exact z
   rw[q]at q';cases q';let#[v,hv]:=heo;exact#[v,by rw[hbe];exact hv]
  .refine(ok b u q).stay (λc v hc r=>k c v ?_ r) (λc r=>by rw[aY (nown c b r)];exact r) (λc xs r=>by rw[aY (ntup c xs r)];exact r) λc ob xs r=>by rw[aY λz=>by subst z;rw[r]at mu;exact mu];exact r
   rcases hc with rfl|hc
   .exact hbe
   .rintro rfl;rcases he with z|z
    .exact nown c b hc z
    .rw[hc]at z;cases z;exact hb rfl
end
structure Un (fs ex:M Addr) (H H':Hp) (h h':Heap):Prop where
 keep:∀b o,h.get? b=L o->H b=S->b∉fs->b∉ex->h'.get? b=L o
 slot:∀b o,h.get? b=L o->H b=S->b∈fs->b∉ex->∃sl,h'.get? b=L { o with slots:=sl }
 free:∀b o,h.get? b=L o->H b=S->b∉ex->H' b=S
 there:∀b o,h.get? b=L o->b∉ex->∃o',h'.get? b=L o'
 tups:∀b xs,H b=L (.tup xs)->H' b=L (.tup xs)
 aA:∀b o u,H b=L (.bq o u)->H' b=L (.bq o u)
 tbls:∀b ps,H b=L (.tbl ps)->∃more,H' b=L (.tbl (ps++more))
section
variable{fs fs' ex ex':M Addr}{H H1 H2:Hp}{h h1 h2 h':Heap}{a x e:Addr}{o:HO}
def Un.any(u:Un fs ex H H1 h h1)(q:h.get? b=L ob)(n:H b=S)(hx:b∉ex):∃sl,h1.get? b=L { ob with slots:=sl }:=by
 by_cases hb:b∈fs
 .exact u.slot b ob q n hb hx
 .exact#[ob.slots,u.keep b ob q n hb hx]
def Un.kept(k:∀b u,h.get? b=L u->h'.get? b=L u):Un fs ex H H h h':=
 #[λb ob q _ _ _=>k b ob q,λb ob q _ _ _=>#[ob.slots,k b ob q],λ_ _ _ n _=>n,λb ob q _=>#[ob,k b ob q],λ_ _ q=>q,λ_ _ _ q=>q,λ_ ps q=>#[#[],by rw[q];simp]]
def Un.refl:Un fs ex H H h h:=Un.kept λ_ _ q=>q
def Un.laid(k:∀b u,h.get? b=L u->h'.get? b=L u)(hp:h.objs.size<=a)(hn:H a=S):Un fs ex H (upd H a o) h h' where
 keep:=λb u q _ _ _=>k b u q
 slot:=λb u q _ _ _=>#[u.slots,k b u q]
 free:=λb u q n _=>by rw[aY (bG (bT (aO q) hp))];exact n
 there:=λb u q _=>#[u,k b u q]
 tups:=λb xs q=>by rw[aY (bZ q hn)];exact q
 aA:=λb u xs q=>by rw[aY (bZ q hn)];exact q
 tbls:=λb ps q=>#[#[],by rw[aY (bZ q hn),q];simp]
def Un.write(mu:Rf (H x))(he:e=x\/H e=L (.own x))(k:∀b u,b≠e->h.get? b=L u->h'.get? b=L u)(heo:∃u,h'.get? e=L u):Un fs ex H (upd H x o) h h':=by
 have hx:∀b,H b=S->b≠x:=λb n z=>by subst z;rw[n]at mu;exact mu
 have hb:∀b,H b=S->b≠e:=λb n z=>by
  subst z;rcases he with r|r
  .exact hx b n r
  .rw[n]at r;cases r
 have hm:∀b u,H b=L u->¬Rf (L u)->b≠x:=λb u q nm z=>by subst z;rw[q]at mu;exact nm mu
 refine#[λb u q n _ _=>k b u (hb b n) q,λb u q n _ _=>#[u.slots,k b u (hb b n) q],λb u q n _=>by rw[aY (hx b n)];exact n,λb u q _=>?_,
  λb xs q=>by rw[aY (hm b _ q λz=>z)];exact q,λb u xs q=>by rw[aY (hm b _ q λz=>z)];exact q,λb ps q=>#[#[],by rw[aY (hm b _ q λz=>z),q];simp]]
 by_cases hbe:b=e
 .subst hbe;exact heo
 .exact#[u,k b u hbe q]
end
noncomputable def X4(h:Heap)(H:Hp):M Addr:=(bM h.objs.size).filter λa=>(H a).isSome
def zH(h:Heap)(H:Hp):Heap:=Y0 h (X4 h H)
def Rg(h:Heap)(H:Hp):(zH h H).objs.size=h.objs.size:=QM _ _
def UE(e:h.get? b=L o)(n:H b=S):(zH h H).get? b=L o:=
 Q5 _ e λhm=>by
  have q:=(tO.mp hm).2;rw[n]at q;simp at q
def Y_(e:(zH h H).get? b=L o):h.get? b=L o/\H b=S:=by
 have e':=Ug (X4 h H) e;refine#[e',?_];cases q:H b with
 |none=>rfl
 |some x=>
  have hm:b∈X4 h H:=tO.mpr #[gc.mpr (aO e'),by simp[q]];have z:(zH h H).get? b=S:=QN (X4 h H) hm;rw[z]at e;cases e
noncomputable def Za(g h:Heap)(abk:Addr):M (Addr×Obj):=(bM h.objs.size).filterMap λa=>if a=abk\/(g.get? a).isSome=W then S else(h.get? a).map λo=>(a,o)
def rest(g h:Heap)(abk d:Addr):M (Addr×Obj):=(Za g h abk).filter λp=>decide (p.1≠d)
end L2
namespace L2
open PySem PySem.Spec PyProof.Rows
structure Mod (K:ak) (mg:Str->abM Z) (base:Heap):Prop where
 kin:K.In base
 glob:base.Ns eU mg
 blt:∃mb,base.Ns pZ mb/\∀x:Str,x≠"__name__"->mb x=tP x
 nolimit:base.NoLimit
 bmain:∃bm o,mg "__builtins__"=L (.ref bm)/\bm≠pZ/\base.get? bm=L o/\o.cls=.type "module"/\o.dict=L pZ/\o.data=.plain
structure Cx where
 prog:bO
 w:bL
 K:ak
 mg:Str->abM Z
 base:Heap
 A:cQ
 N:M Str
 aho:ay
 ahy:Hp
 env:Env
 outer:M Env
 stack:M Env
 ex:M Addr
 fn:Str->Bool
 calm:Bool
 pn:M (Addr×Obj)
 xe:Z->ay->Prop
noncomputable def frs(l:M Env):M Addr:=l.filterMap (·.frame)
abbrev Cx.fs(X:Cx):M Addr:=frs X.outer
noncomputable def oY:M (Addr×Str):=[(100,"some_finding.<locals>.<lambda>")]
def Tb(H:Hp):Prop:=∀p∈oY,∃more,H p.1=L (.tbl (#[.str p.2 0]++more))
def Tb.mono(t:Tb H)(h:∀b ps,H b=L (.tbl ps)->∃more,H' b=L (.tbl (ps++more))):Tb H':=λp hp=>by
 let#[m,e]:=t p hp;let#[m',e']:=h _ _ e;exact#[m++m',by rw[e',Cr]]
def Rh(sc:fH)(x:Str):Prop:=sc.names.lookup x=L .local\/sc.names.lookup x=L .cell\/sc.names.lookup x=L .free
def Loc(sc:fH)(x:Str):Prop:=sc.names.lookup x=L .local\/sc.names.lookup x=L .cell
def Look(env:Env)(h:Heap)(m:Str->abM Z)(x:Str)(u:Z):Prop:=
 (env.kindOf x=L .local/\m x=L u)\/((env.kindOf x=L .cell\/env.kindOf x=L .free)/\∃c,env.cells.lookup x=L c/\h.IsCell c (L u))
structure Cx.Ok (X:Cx):Prop where
 mod:Mod X.K X.mg X.base
 kind:X.env.scope.kind=.function
 glob:X.env.globals=eU
 blt:X.env.builtins=pZ
 above:X.aho.heap.objs.size<=X.env.locals
 inj:∀x y c,X.env.cells.lookup x=L c->X.env.cells.lookup y=L c->x=y
 has:∀x,(X.env.kindOf x=L .cell\/X.env.kindOf x=L .free)->∃c,X.env.cells.lookup x=L c
 cab:∀x c,X.fn x=W->X.env.cells.lookup x=L c->X.aho.heap.objs.size<=c
 hd:X.calm=W->X.A.handled=S
 frames:X.A.frames=L X.stack
 stk:X.stack=X.outer\/(X.stack=X.env::X.outer/\X.env.frame=L X.env.locals)
 exf:∀b∈X.ex,b≠X.env.locals/\∀x c,X.env.cells.lookup x=L c->c≠b
 bs:∀b o,X.base.get? b=L o->X.aho.heap.get? b=L o/\X.ahy b=S
 bsz:X.base.objs.size<=X.aho.heap.objs.size
 noex:∀b o,X.base.get? b=L o->b∉X.ex
 exfs:∀b∈X.ex,b∉X.fs
 uc:X.aho.heap.FunFrames X.base X.outer
 frf:(∀b∈X.fs,X.ahy b=S)/\Tb X.ahy
structure Inv (X:Cx) (pins:M (Addr×Obj)) (U:M (abM V)) (H:Hp) (s:ay):Prop where
 ok:X.Ok
 os:s.os=X.aho.os
 bare:p6 s.gens
 base:Un X.fs X.ex X.ahy H X.aho.heap s.heap
 loc:∃m,s.heap.Ns X.env.locals m/\∀(i:Nat) (x:Str) (v:V),X.N[i]?=L x->U[i]?=L (L v)->Rh X.env.scope x->∃u,RelV v u/\Look X.env s.heap m x u
 cell:∀x c,X.env.cells.lookup x=L c->∃v,s.heap.IsCell c v
 free:H X.env.locals=S
 freeC:∀x c,X.env.cells.lookup x=L c->H c=S
 pin:∀p∈X.pn++pins,s.heap.get? p.1=L p.2/\H p.1=S/\p.1≠X.env.locals/\p.1∉X.fs/\∀v,p.2.data≠.cell v
 hok:gR X.prog X.w H s.heap
 len:zl U=zl X.N
section
variable{X:Cx}{pins:M (Addr×Obj)}{U:M (abM V)}{H H':Hp}{s:ay}{h':Heap}
def Cx.Ok.nofr(ok:X.Ok)(e:X.base.get? b=L o):b∉X.fs:=λhb=>by
 have:=(ok.uc.mem hb).1;rw[e]at this;cases this
def Inv.bs(I:Inv X pins U H s):∀b o,X.base.get? b=L o->s.heap.get? b=L o/\H b=S:=λb o e=>
 #[I.base.keep b o (I.ok.bs b o e).1 (I.ok.bs b o e).2 (I.ok.nofr e) (I.ok.noex b o e),I.base.free b o (I.ok.bs b o e).1 (I.ok.bs b o e).2 (I.ok.noex b o e)]
def Inv.bk(I:Inv X pins U H s):∀b o,X.base.get? b=L o->s.heap.get? b=L o:=λb o e=>(I.bs b o e).1
def Inv.mod(I:Inv X pins U H s):Mod X.K X.mg X.base:=I.ok.mod
def Inv.uM(I:Inv X pins U H s):X.K.In s.heap:=I.ok.mod.kin.keeps I.bk
def Inv.nolimit(I:Inv X pins U H s):s.heap.NoLimit:=I.ok.mod.nolimit.keeps I.bk
def Inv.lt(I:Inv X pins U H s):X.env.locals<s.heap.objs.size:=let⟨_,hn,_⟩:=I.loc;hn.lt
def Inv.sz(I:Inv X pins U H s):X.aho.heap.objs.size<=s.heap.objs.size:=cH I.ok.above (fP I.lt)
def Inv.nofs(I:Inv X pins U H s)(h:s.heap.objs.size<=a):a∉X.fs:=λhb=>by
 let#[_,o,ho,_]:=I.ok.uc.mem hb;exact aH (bT (aO ho) (cH I.sz h)) (c8 _)
def Inv.La(I:Inv X pins U H s):∀x c,X.env.cells.lookup x=L c->c≠X.env.locals:=λx c e z=>by
 let#[v,o,ho,hd]:=I.cell x c e;let#[m,#[o',es,ep,ho',hd',_],_]:=I.loc;rw[z,ho']at ho;cases ho;rw[hd']at hd;cases hd
def Inv.uc(I:Inv X pins U H s):s.heap.FunFrames X.base X.outer:=by
 have all:∀(l:M Env),(∀b∈frs l,b∈X.fs)->X.aho.heap.FunFrames X.base l->s.heap.FunFrames X.base l:=by
  intro l;induction l with
  |nil=>intro _ _;trivial
  |cons env r ih=>
   intro hs hl;let#[hk,#[abk,o,hf,hn,ho,hd],hr]:=hl;have hL:=hs abk (by unfold frs;rw[oA,hf];exact aB);let#[sl,e]:=I.base.slot abk o ho (I.ok.frf.1 abk hL) hL λz=>I.ok.exfs abk z hL;exact#[hk,#[abk,_,hf,hn,e,hd],ih (λb hb=>hs b (by unfold frs;rw[oA,hf];exact ao _ hb)) hr]
 exact all X.outer (λ_ hb=>hb) I.ok.uc
def Inv.stack(I:Inv X pins U H s):s.heap.FunFrames X.base X.stack:=by
 rcases I.ok.stk with e|⟨e,hf⟩
 .rw[e];exact I.uc
 .rw[e];let#[m,hn,_]:=I.loc;refine .cons (by rw[I.ok.kind];decide) hf hn ?_ I.uc;exact Heap.get?_none_of_le (cH I.ok.bsz I.ok.above)
def Inv.A9(I:Inv X pins U H s):∀b∈frs X.stack,b∈X.env.locals::X.fs:=λb hb=>by
 rcases I.ok.stk with e|⟨e,hf⟩
 .rw[e]at hb;exact ao _ hb
 .rw[e]at hb;unfold frs at hb;rw[oA,hf]at hb;exact hb
def Inv.tb(I:Inv X pins U H s):Tb H:=I.ok.frf.2.mono I.base.tbls
def Inv.Hi(I:Inv X pins U H s):∀b∈frs X.stack,H b=S:=λb hb=>by
 rcases be.mp (I.A9 b hb)with e|hb
 .rw[e];exact I.free
 .obtain⟨_,o,ho,_⟩:=I.ok.uc.mem hb;exact I.base.free b o ho (I.ok.frf.1 b hb) λz=>I.ok.exfs b z hb
def Inv.step{g':Array GenState}{t':Nat}{d':Drawn}{ch:M Addr}(I:Inv X pins U H s)(hch:∀b∈ch,(b∈X.ex\/X.aho.heap.objs.size<=b)/\b≠X.env.locals/\(∀x c,X.env.cells.lookup x=L c->c≠b)/\∀p∈X.pn++pins,p.1≠b)(keep:∀b o,b≠X.env.locals->b∉X.fs->b∉ch->s.heap.get? b=L o->H b=S->h'.get? b=L o)(slot:∀b o,b≠X.env.locals->b∈X.fs->b∉ch->s.heap.get? b=L o->H b=S->∃sl,h'.get? b=L { o with slots:=sl })(free:∀b o,b∉ch->s.heap.get? b=L o->H b=S->H' b=S)(there:∀b o,b∉ch->s.heap.get? b=L o->∃o',h'.get? b=L o')(tups:∀b xs,H b=L (.tup xs)->H' b=L (.tup xs))(aA:∀b o u,H b=L (.bq o u)->H' b=L (.bq o u))(tbls:∀b ps,H b=L (.tbl ps)->∃more,H' b=L (.tbl (ps++more)))(ns:∀m,s.heap.Ns X.env.locals m->h'.Ns X.env.locals m)(hok:gR X.prog X.w H' h')(hg:p6 g'):Inv X pins U H' { s with heap:=h',gens:=g',drawn:=d',toks:=t' }:=by
 have neL:∀b o,X.aho.heap.get? b=L o->b≠X.env.locals:=λb o e=>bG (bT (aO e) I.ok.above);have neC:∀b o,X.aho.heap.get? b=L o->b∉X.ex->b∉ch:=λb o e hx hb=>by
  rcases(hch b hb).1 with z|z
  .exact hx z
  .exact aH (bT (aO e) z) (c8 _)
 have cellK:∀x c,X.env.cells.lookup x=L c->∀v,s.heap.IsCell c v->h'.IsCell c v:=λx c e v ⟨o,ho,hd⟩=>by
  have nch:=λz=>(hch c z).2.2.1 x c e rfl;by_cases hc:c∈X.fs
  .obtain⟨sl,q⟩:=slot c o (I.La x c e) hc nch ho (I.freeC x c e);exact#[_,q,hd]
  .exact#[o,keep c o (I.La x c e) hc nch ho (I.freeC x c e),hd]
 refine#[I.ok,I.os,hg,#[λb o e n hb hx=>?_,λb o e n hb hx=>?_,λb o e n hx=>?_,λb o e hx=>?_,λb xs e=>tups b xs (I.base.tups b xs e),λb o xs e=>aA b o xs (I.base.aA b o xs e),λb ps e=>?_],?_,λx c e=>?_,?_,λx c e=>?_,λp hp=>?_,hok,I.len]
 .exact keep b o (neL b o e) hb (neC b o e hx) (I.base.keep b o e n hb hx) (I.base.free b o e n hx)
 .obtain⟨sl,e1⟩:=I.base.slot b o e n hb hx;let#[sl',e2]:=slot b _ (neL b o e) hb (neC b o e hx) e1 (I.base.free b o e n hx);exact#[sl',e2]
 .obtain⟨o',e1⟩:=I.base.there b o e hx;exact free b o' (neC b o e hx) e1 (I.base.free b o e n hx)
 .obtain⟨o',e1⟩:=I.base.there b o e hx;exact there b o' (neC b o e hx) e1
 .obtain⟨m1,e1⟩:=I.base.tbls b ps e;let#[m2,e2]:=tbls b _ e1;exact#[m1++m2,by rw[e2,Cr]]
 .obtain⟨m,hn,hl⟩:=I.loc;refine#[m,ns m hn,λi x v e1 e2 e3=>?_];let#[u,r,l]:=hl i x v e1 e2 e3;refine#[u,r,?_];rcases l with l|⟨k,c,e,z⟩
  .exact .inl l
  .exact .inr #[k,c,e,cellK x c e _ z]
 .obtain⟨v,z⟩:=I.cell x c e;exact#[v,cellK x c e v z]
 .obtain⟨m,⟨o,_,_,ho,_⟩,_⟩:=I.loc;exact free _ o (λz=>(hch _ z).2.1 rfl) ho I.free
 .obtain⟨v,o,ho,hd⟩:=I.cell x c e;exact free c o (λz=>(hch c z).2.2.1 x c e rfl) ho (I.freeC x c e)
 .obtain⟨e,n,ne,nf,d⟩:=I.pin p hp;have nch:=λz=>(hch p.1 z).2.2.2 p hp rfl;exact#[keep p.1 p.2 ne nf nch e n,free p.1 p.2 nch e n,ne,nf,d]
def Inv.un{t':Nat}(I:Inv X pins U H s)(u:Un X.fs [] H H' s.heap h')(hok:gR X.prog X.w H' h'):Inv X pins U H' { s with heap:=h',toks:=t' }:=by
 let#[m,#[o,es,ep,ho,r],_]:=id I.loc;let#[sl,hL]:=u.any ho I.free (by simp);exact I.step (g':=s.gens) (d':=s.drawn) (ch:=[]) (λ_ z=>nomatch z) (λb o _ hb _ e n=>u.keep b o e n hb (by simp)) (λb o _ hb _ e n=>u.slot b o e n hb (by simp)) (λb o _ e n=>u.free b o e n (by simp)) (λb o _ e=>u.there b o e (by simp)) u.tups u.aA u.tbls (λm' hm=>by
  let#[o',es',ep',ho',r']:=hm;rw[ho]at ho';cases ho';exact#[_,es',ep',hL,r']) hok I.bare
def Inv.call{g':Array GenState}{t':Nat}{d':Drawn}{ch:M Addr}(I:Inv X pins U H s)(u:Un (frs X.stack) ch H H' s.heap h')(hok:gR X.prog X.w H' h')(hg:p6 g')(hch:∀b∈ch,(b∈X.ex\/X.aho.heap.objs.size<=b)/\b≠X.env.locals/\(∀x c,X.env.cells.lookup x=L c->c≠b)/\∀p∈X.pn++pins,p.1≠b):Inv X pins U H' { s with heap:=h',gens:=g',drawn:=d',toks:=t' }:=by
 let#[m,#[o,es,ep,ho,r],_]:=id I.loc;let#[sl,hL]:=u.any ho I.free λz=>(hch _ z).2.1 rfl;exact I.step (ch:=ch) hch (λb o hL hb hc e n=>u.keep b o e n (λz=>(be.mp (I.A9 b z)).elim hL hb) hc) (λb o _ _ hc e n=>u.any e n hc) (λb o hc e n=>u.free b o e n hc) (λb o hc e=>u.there b o e hc) u.tups u.aA u.tbls (λm' hm=>by
  let#[o',es',ep',ho',r']:=hm;rw[ho]at ho';cases ho';exact#[_,es',ep',hL,r']) hok hg
def Inv.turned{t':Nat}{it:Addr}(I:Inv X pins U H s)(k:∀b o,b≠it->s.heap.get? b=L o->h'.get? b=L o)(hn:H it=S)(hL:it≠X.env.locals)(h1:it∈X.ex\/X.aho.heap.objs.size<=it)(h2:∀x c,X.env.cells.lookup x=L c->c≠it)(h3:∀p∈X.pn++pins,p.1≠it):Inv X pins U H { s with heap:=h',toks:=t' }:=by
 have nit:∀b u,H b=L u->b≠it:=λb u e z=>by lia
 refine I.step (g':=s.gens) (d':=s.drawn) (ch:=[it]) (λb hb=>?_) (λb o _ _ hc e _=>k b o (λz=>hc (by simp[z])) e) (λb o _ _ hc e _=>#[o.slots,k b o (λz=>hc (by simp[z])) e]) (λ_ _ _ _ n=>n)
  (λb o hc e=>#[o,k b o (λz=>hc (by simp[z])) e]) (λ_ _ e=>e) (λ_ _ _ e=>e) (λb ps e=>#[#[],by rw[e];simp]) (λm hm=>?_) (λb u e=>?_) I.bare
 .have e:b=it:=by simpa using hb
  subst e;exact#[h1,hL,h2,h3]
 .obtain⟨o,es,ep,ho,r⟩:=hm;exact#[o,es,ep,k _ o (gf hL) ho,r]
 .refine(I.hok b u e).stay (λc v hc q=>k c v ?_ q) (λ_ q=>q) (λ_ _ q=>q) λ_ _ _ q=>q;rcases hc with z|z
  .rw[z];exact nit b u e
  .exact nit c _ z
def Inv.tok(I:Inv X pins U H s)(t:Nat):Inv X pins U H { s with toks:=t }:=I.un (h':=s.heap) (t':=t) Un.refl I.hok
def Inv.kept{t':Nat}(I:Inv X pins U H s)(k:∀b u,s.heap.get? b=L u->h'.get? b=L u):Inv X pins U H { s with heap:=h',toks:=t' }:=I.un (Un.kept k) (I.hok.kept k)
def Inv.laid{t':Nat}(I:Inv X pins U H s)(k:∀b u,s.heap.get? b=L u->h'.get? b=L u)(hp:s.heap.objs.size<=a)(new:fX X.prog X.w (upd H a o) h' a o):Inv X pins U (upd H a o) { s with heap:=h',toks:=t' }:=I.un (Un.laid k hp (I.hok.fresh hp)) (I.hok.laid k hp new)
def Inv.write{t':Nat}(I:Inv X pins U H s)(mu:Rf (H x))(he:e=x\/H e=L (.own x))(k:∀b u,b≠e->s.heap.get? b=L u->h'.get? b=L u)(heo:∃u,h'.get? e=L u)(new:fX X.prog X.w (upd H x o) h' x o):Inv X pins U (upd H x o) { s with heap:=h',toks:=t' }:=I.un (Un.write mu he k heo) (I.hok.write mu he k heo new)
def Inv.vZ(I:Inv X pins U H s)(h:∀p∈pins',s.heap.get? p.1=L p.2/\H p.1=S/\p.1≠X.env.locals/\p.1∉X.fs/\∀v,p.2.data≠.cell v):Inv X pins' U H s:=
 #[I.ok,I.os,I.bare,I.base,I.loc,I.cell,I.free,I.freeC,λp hp=>(bw.mp hp).elim (λz=>I.pin p (bC _ z)) (h p),I.hok,I.len]
def Lb{N:M Str}(hN:N.Nodup){i j:Nat}{x:Str}(a:N[i]?=L x)(b:N[j]?=L x):i=j:=by
 let#[h1,e1]:=bN.mp a;let#[h2,e2]:=bN.mp b;exact(E3 hN).mp (e1.trans e2.symm)
def IF{abl:Model}{A:cQ}{E:Z->ay->Prop}{i:Nat}{x:Str}{v:V}{u:Z}{Q:Unit->ay->Prop}(I:Inv X pins U H s)(hN:X.N.Nodup)(hi:X.N[i]?=L x)(hx:Loc X.env.scope x)(r:RelV v u)(h:∀s',Inv X pins (U.set i (L v)) H s'->(∃a,jM a s.heap s'.heap/\(a=X.env.locals\/X.env.cells.lookup x=L a))->Q () s')(hf:X.fn x=W\/X.env.scope.names.lookup x=L .local:=by first|exact .inl rfl|exact .inr rfl|assumption):aT abl A (JT X.env x u) Q E s:=by
 let#[m,hn,hl]:=id I.loc;have hcls:(X.env.scope.kind==.class||(X.env.scope.kind==.module&&X.env.locals != X.env.globals))=B:=by rw[I.ok.kind];rfl
 have ahN:i<zl U:=by rw[I.len];exact(bN.mp hi).1
 have La:=I.La;have tracked:∀{a:Addr}{h':Heap},(∃o,s.heap.get? a=L o/\H a=S)->jM a s.heap h'->gR X.prog X.w H h':=λ{a h'} ha hs b ob e=>by
  let#[_,_,hfree]:=ha;refine(I.hok b ob e).stay (λc w' hc q=>(hs.2 c ?_).trans q) (λ_ q=>q) (λ_ _ q=>q) λ_ _ _ q=>q;rintro rfl;rcases hc with rfl|hc
  .rw[hfree]at e;cases e
  .rw[hfree]at hc;cases hc
 rcases hx with hk|hk
 .refine wpAny_storeName_local hk hn (λh' hn' hs=>?_) hcls;let#[oL,_,_,hoL,_]:=id hn;refine h _ #[I.ok,I.os,I.bare,#[λb o e n hb hx=>?_,λb o e n hb hx=>?_,I.base.free,λb o e hx=>?_,I.base.tups,I.base.aA,I.base.tbls],#[_,hn',λj y v' e1 e2 e3=>?_],λy c e=>?_,I.free,I.freeC,λp hp=>?_,tracked #[oL,hoL,I.free] hs,by simpa using I.len] #[_,hs,.inl rfl]
  .exact(hs.2 b (bG (bT (aO e) I.ok.above))).trans (I.base.keep b o e n hb hx)
  .obtain⟨sl,e1⟩:=I.base.slot b o e n hb hx;exact#[sl,(hs.2 b (bG (bT (aO e) I.ok.above))).trans e1]
  .obtain⟨o',e1⟩:=I.base.there b o e hx;exact#[o',(hs.2 b (bG (bT (aO e) I.ok.above))).trans e1]
  .by_cases hj:j=i
   .subst hj;rw[hi]at e1;cases e1;rw[qO ahN]at e2;cases e2;exact#[u,r,.inl #[hk,by simp]]
   .rw[fQ (gf hj)]at e2;let#[u',r',q]:=hl j y v' e1 e2 e3;refine#[u',r',?_];rcases q with⟨k,e⟩|⟨k,c,e,z⟩
    .refine .inl #[k,?_];have:y≠x:=λe=>hj (Lb hN e1 (e▸hi));simp[this,e]
    .exact .inr #[k,c,e,z.sameBut hs (La y c e)]
  .obtain⟨w',z⟩:=I.cell y c e;exact#[w',z.sameBut hs (La y c e)]
  .obtain⟨e,n,ne,nf,d⟩:=I.pin p hp;exact#[(hs.2 p.1 ne).trans e,n,ne,nf,d]
 .have hfn:X.fn x=W:=by
   rcases hf with z|z
   .exact z
   .rw[z]at hk;cases hk
  let#[c,hc]:=I.ok.has x (.inl hk);let#[w',z]:=I.cell x c hc;refine wpAny_storeName_cell I.ok.kind hk hc z (λh' hc' hs=>?_);let#[oc,hoc,hocd]:=id z;refine h { s with heap:=h' } #[I.ok,I.os,I.bare,#[λb o e n hb hx=>?_,λb o e n hb hx=>?_,I.base.free,λb o e hx=>?_,I.base.tups,I.base.aA,I.base.tbls],#[m,hn.sameBut hs (gf (La x c hc)),λj y v' e1 e2 e3=>?_],λy c' e=>?_,I.free,I.freeC,λp hp=>?_,tracked #[oc,hoc,I.freeC x c hc] hs,by simpa using I.len] #[c,hs,.inr hc]
  .exact(hs.2 b (bG (bT (aO e) (I.ok.cab x c hfn hc)))).trans (I.base.keep b o e n hb hx)
  .obtain⟨sl,e1⟩:=I.base.slot b o e n hb hx;exact#[sl,(hs.2 b (bG (bT (aO e) (I.ok.cab x c hfn hc)))).trans e1]
  .obtain⟨o',e1⟩:=I.base.there b o e hx;exact#[o',(hs.2 b (bG (bT (aO e) (I.ok.cab x c hfn hc)))).trans e1]
  .by_cases hj:j=i
   .subst hj;rw[hi]at e1;cases e1;rw[qO ahN]at e2;cases e2;exact#[u,r,.inr #[.inl hk,c,hc,hc']]
   .rw[fQ (gf hj)]at e2;let#[u',r',q]:=hl j y v' e1 e2 e3;refine#[u',r',?_];rcases q with q|⟨k,c',e,z'⟩
    .exact .inl q
    .refine .inr #[k,c',e,z'.sameBut hs ?_];rintro rfl;exact hj (Lb hN e1 (I.ok.inj _ _ _ e hc▸hi))
  .by_cases hcc:c'=c
   .subst hcc;exact#[_,hc']
   .obtain⟨w2,z2⟩:=I.cell y c' e;exact#[w2,z2.sameBut hs hcc]
  .obtain⟨e,n,ne,nf,d⟩:=I.pin p hp;refine#[(hs.2 p.1 ?_).trans e,n,ne,nf,d];intro q;rw[q,hoc]at e;have q':=cB e;exact d w' (by rw[<-q'];exact hocd)
def Lc{E:Z->ay->Prop}{Q:Unit->ay->Prop}(I:Inv X pins U H s)(hN:X.N.Nodup)(hi:X.N[i]?=L x)(hx:Loc X.env.scope x)(r:RelV v u)(h:∀s',Inv X pins (U.set i (L v)) H s'->Q () s')(hf:X.fn x=W\/X.env.scope.names.lookup x=L .local:=by first|exact .inl rfl|exact .inr rfl|assumption):aT abl A (JT X.env x u) Q E s:=
 IF I hN hi hx r (λs' I' _=>h s' I') hf
def Inv.call'(I:Inv X pins U H s)(ho:s'.os=s.os)(u:Un (frs X.stack) ch H H' s.heap s'.heap)(hok:gR X.prog X.w H' s'.heap)(hg:p6 s'.gens)(hch:∀b∈ch,(b∈X.ex\/X.aho.heap.objs.size<=b)/\b≠X.env.locals/\(∀x c,X.env.cells.lookup x=L c->c≠b)/\∀p∈X.pn++pins,p.1≠b):Inv X pins U H' s':=by
 let#[h',g',d',t',o']:=s';have e:=ho;subst e;exact I.call (g':=g') (t':=t') (d':=d') u hok hg hch
end
abbrev XK:=Z->abM Addr->Hp->Prop
abbrev St:=M (abM V)
abbrev VK:=V->Hp->Prop
abbrev TE:=St->Hp->VK->Prop
abbrev TT:=St->Hp->(Bool->Hp->Prop)->Prop
abbrev TA:=St->Hp->(M V->Hp->Prop)->Prop
structure Ends where
 nx:St->Hp->Prop
 rt:VK
 bk:St->Hp->Prop:=λ_ _=>bu
 ct:St->Hp->Prop:=λ_ _=>bu
abbrev TS:=Ends->St->Hp->Prop
def EP(X:Cx)(pins:M (Addr×Obj))(U:St)(Q:VK)(u:Z)(s':ay):Prop:=∃v H',Inv X pins U H' s'/\RelV v u/\Q v H'
def TP(X:Cx)(pins:M (Addr×Obj))(U:St)(Q:Bool->Hp->Prop)(b:Bool)(s':ay):Prop:=∃H',Inv X pins U H' s'/\Q b H'
def AP(X:Cx)(pins:M (Addr×Obj))(U:St)(Q:M V->Hp->Prop)(us:M Z)(s':ay):Prop:=∃vs H',Inv X pins U H' s'/\bP vs us/\Q vs H'
def SP(X:Cx)(pins:M (Addr×Obj))(D:Ends)(f:Flow)(s':ay):Prop:=
 match f with
 |.next=>∃σ' H',Inv X pins σ' H' s'/\D.nx σ' H'
 |.brk=>∃σ' H',Inv X pins σ' H' s'/\D.bk σ' H'
 |.cont=>∃σ' H',Inv X pins σ' H' s'/\D.ct σ' H'
 |.ret u=>∃v σ' H',Inv X pins σ' H' s'/\RelV v u/\D.rt v H'
def PE(X:Cx)(e:Expr)(t:TE):Prop:=
 ∀(pins:M (Addr×Obj)) (s:ay) (U:St) (H:Hp) (Q:VK),Inv X pins U H s->t U H Q->aT (aW X.prog X.w) X.A (eval e X.env) (EP X pins U Q) X.xe s
def PT(X:Cx)(e:Expr)(t:TT):Prop:=
 ∀(pins:M (Addr×Obj)) (s:ay) (U:St) (H:Hp) (Q:Bool->Hp->Prop),Inv X pins U H s->t U H Q->aT (aW X.prog X.w) X.A (Cs e X.env (eval e X.env)) (TP X pins U Q) X.xe s
def PW(X:Cx)(e:Expr)(t:TT):Prop:=
 ∀(whole:Sem Z) (pins:M (Addr×Obj)) (s:ay) (U:St) (H:Hp) (Q:Bool->Hp->Prop),Inv X pins U H s->t U H Q->aT (aW X.prog X.w) X.A (Cs e X.env whole) (TP X pins U Q) X.xe s
def PW.pt(h:PW X e t):PT X e t:=h _
def PA(X:Cx)(es:M Expr)(t:TA):Prop:=
 ∀(pos:Pos) (pins:M (Addr×Obj)) (s:ay) (U:St) (H:Hp) (Q:M V->Hp->Prop),Inv X pins U H s->t U H Q->aT (aW X.prog X.w) X.A (spliced (w_ pos (gH es X.env))) (AP X pins U Q) X.xe s
def PS(X:Cx)(st:Stmt)(t:TS):Prop:=
 ∀(pins:M (Addr×Obj)) (s:ay) (U:St) (H:Hp) (D:Ends),Inv X pins U H s->t D U H->aT (aW X.prog X.w) X.A (exec st X.env) (SP X pins D) X.xe s
def yT(X:Cx)(st:M Stmt)(t:TS):Prop:=
 ∀(pins:M (Addr×Obj)) (s:ay) (U:St) (H:Hp) (D:Ends),Inv X pins U H s->t D U H->aT (aW X.prog X.w) X.A (execs st X.env) (SP X pins D) X.xe s
def bA{α:Type}{t:Sem α}{Q Q':α->ay->Prop}{E:Z->ay->Prop}(h:aT abl A t Q E s)(hQ:∀a s,Q a s->Q' a s):aT abl A t Q' E s:=gZ h hQ λ_ _ x=>x
end L2
namespace L2
open PySem PySem.Spec PyProof.Rows
section
variable{X:Cx}
def bin{a b:Expr}(ha:PE X a ta)(hb:PE X b tb){R:V->V->Hp->Prop}(I:Inv X pins U H s)(h:ta U H λx H1=>tb U H1 λy H2=>R x y H2){α:Type}{Q:α->ay->Prop}{f:Z->Z->Sem α}(hf:∀v u s2 x y H2,Inv X pins U H2 s2->RelV x v->RelV y u->R x y H2->aT (aW X.prog X.w) X.A (f v u) Q X.xe s2):aT (aW X.prog X.w) X.A (eval a X.env) (λv ahq=>aT (aW X.prog X.w) X.A (eval b X.env) (λu ahr=>aT (aW X.prog X.w) X.A (f v u) Q X.xe ahr) X.xe ahq) X.xe s:=by
 refine bA (ha pins s U H _ I h) λv s1 ⟨x,H1,I1,r1,q1⟩=>?_;refine bA (hb pins s1 U H1 _ I1 q1) λu s2 ⟨y,H2,I2,r2,q2⟩=>?_;exact hf v u s2 x y H2 I2 r1 r2 q2
def tVar(i:Nat):TE:=λU H Q=>∃v,U[i]?=L (L v)/\Q v H
def tC(v:V):TE:=λ_ H Q=>Q v H
def abz(hN:X.N[i]?=L x)(hv:Rh X.env.scope x)(hd:(x==("__debug__":Str))=B:=by decide)(hcd:(x==("__classdict__":Str))=B:=by decide):PE X (.Name x pos) (tVar i):=by
 intro pins s U H Q I h;let#[v,e,h]:=h;let#[m,hn,hl]:=I.loc;let#[u,r,l]:=hl i x v hN e hv;have fin:EP X pins U Q u s:=#[v,H,I,r,h];rcases l with⟨hk,hm⟩|⟨hk,c,hc,hcell⟩
 .exact GY (An I.ok.kind hk hn hm fin) hd
 .rcases hk with hk|hk
  .exact GY (A1 I.ok.kind hk hc hcell fin) hd
  .exact GY (wpAny_loadName_free I.ok.kind hk hc hcell fin hcd) hd
def abA{i j pos}:PE X (.Constant (.int i) j pos) (tC (.int i)):=λ_ _ _ H _ I h=>wpAny_Constant_int #[.int i,H,I.tok _,#[_,rfl],h]
def aec{b j pos}:PE X (.Constant (.bool b) j pos) (tC (.bl b)):=λ_ _ _ H _ I h=>Constant_bool #[.bl b,H,I,rfl,h]
def abB{j pos}:PE X (.Constant .none j pos) (tC .non):=λ_ _ _ H _ I h=>Constant_none #[.non,H,I,rfl,h]
def abC{x j pos}:PE X (.Constant (.str x) j pos) (tC (.str x)):=λ_ _ _ H _ I h=>Calls.Constant_str #[.str x,H,I.tok _,#[_,rfl],h]
def Gl(X:Cx)(x:Str):Prop:=X.env.kindOf x=L .globalImplicit
def CV{E:Z->ay->Prop}{Q:Z->ay->Prop}(I:Inv X pins U H s)(hg:Gl X x)(hm:X.mg x=L u)(h:Q u s)(hd:(x==("__debug__":Str))=B:=by decide):aT (aW X.prog X.w) X.A (eval (.Name x pos) X.env) Q E s:=
 vz I.ok.kind hg (Calls.loadGlobal_global (by rw[I.ok.glob];exact I.mod.glob.keeps I.bk) hm h) hd
def kF{E:Z->ay->Prop}{Q:Z->ay->Prop}(I:Inv X pins U H s)(hg:Gl X x)(hm:X.mg x=S)(hv:tP x=L u)(h:Q u s)(hn:x≠"__name__":=by decide)(hd:(x==("__debug__":Str))=B:=by decide):aT (aW X.prog X.w) X.A (eval (.Name x pos) X.env) Q E s:=by
 let#[mb,h1,h2]:=I.mod.blt;exact vz I.ok.kind hg (Calls.loadGlobal_builtin (by rw[I.ok.glob];exact I.mod.glob.keeps I.bk) hm (by rw[I.ok.blt];exact h1.keeps I.bk) ((h2 x hn).trans hv) h) hd
variable{a b:Expr}{ta tb:TE}{pos:Pos}
variable{tA tB':TT}{rest:M Expr}
def tAnd(t u:TT):TT:=λU H Q=>t U H λc H1=>if c=W then u U H1 Q else Q B H1
def tOr(t u:TT):TT:=λU H Q=>t U H λc H1=>if c=W then Q W H1 else u U H1 Q
def tNot(t:TT):TT:=λU H Q=>t U H λc H1=>Q (!c) H1
def pw_and1(ha:PT X a tA):PW X (.BoolOp .And [a] pos) tA:=by
 intro wh pins s U H Q I h;refine QO (bA (ha pins s U H Q I h) λc s1 e=>?_);cases c with
 |true=>exact isTrue_and_nil e
 |false=>exact e
def pw_or1(ha:PT X a tA):PW X (.BoolOp .Or [a] pos) tA:=by
 intro wh pins s U H Q I h;refine isTrue_or (bA (ha pins s U H Q I h) λc s1 e=>?_);cases c with
 |false=>exact isTrue_or_nil e
 |true=>exact e
def pw_and(ha:PT X a tA)(hb:PW X (.BoolOp .And (b::rest) pos) tB'):PW X (.BoolOp .And (a::b::rest) pos) (tAnd tA tB'):=by
 intro wh pins s U H Q I h;refine QO (bA (ha pins s U H _ I h) λc s1 ⟨H1,I1,q1⟩=>?_);cases c with
 |true=>exact hb wh pins s1 U H1 Q I1 q1
 |false=>exact#[H1,I1,q1]
def pw_or(ha:PT X a tA)(hb:PW X (.BoolOp .Or (b::rest) pos) tB'):PW X (.BoolOp .Or (a::b::rest) pos) (tOr tA tB'):=by
 intro wh pins s U H Q I h;refine isTrue_or (bA (ha pins s U H _ I h) λc s1 ⟨H1,I1,q1⟩=>?_);cases c with
 |true=>exact#[H1,I1,q1]
 |false=>exact hb wh pins s1 U H1 Q I1 q1
def abD(ha:PT X a tA):PT X (.UnaryOp .Not a pos) (tNot tA):=by
 intro pins s U H Q I h;exact isTrue_not (ha pins s U H (λc H1=>Q (!c) H1) I h)
def Ri{op}(h:PE X a t):PE X (.BoolOp op [a] pos) t:=λpins s U H Q I hw=>BoolOp_one (h pins s U H Q I hw)
def tIf(t:TT)(ta tb:TE):TE:=λU H Q=>t U H λc H1=>if c=W then ta U H1 Q else tb U H1 Q
def UG{c:Expr}(hc:PT X c tA)(ha:PE X a ta)(hb:PE X b tb):PE X (.IfExp c a b pos) (tIf tA ta tb):=by
 intro pins s U H Q I h;refine wpAny_IfExp (bA (hc pins s U H _ I h) λd s1 ⟨H1,I1,q1⟩=>?_);cases d with
 |true=>exact ha pins s1 U H1 Q I1 q1
 |false=>exact hb pins s1 U H1 Q I1 q1
end
end L2
namespace L2
open PySem PySem.Spec PyProof.Rows
def jh(K:ak)(H:Hp)(a:Addr)(xs:M V):Prop:=
 Rd H a (.lst xs) \/
  ∃(o:Obj) (its:Array Z) (n:Nat),K.lookup a=L o/\o.cls=.type "list"/\o.dict=S/\o.data=.seq its n/\its.size<=aj/\bP xs its.toList
def tZ(K:ak)(H:Hp)(a:Addr)(xs:M V):Prop:=
 Rd H a (.tup xs) \/
  ∃(o:Obj) (its:Array Z) (n:Nat),K.lookup a=L o/\o.cls=.type "tuple"/\o.data=.seq its n/\its.size<=aj/\bP xs its.toList
noncomputable def absV:Z->abM V
|.none=>L .non
|.bool b=>L (.bl b)
|.int i _=>L (.int i)
|.str x _=>L (.str x)
|.bytes b _=>L (.byt b)
|.float b _=>L (.flt b)
|.ref a=>L (.ref a)
|.type n=>L (.ty n)
|_=>S
def RelV.abs(r:RelV x u):absV u=L x:=by
 cases x with
 |non=>cases r;rfl
 |bl _=>cases r;rfl
 |int _=>let#[t,rfl]:=r;rfl
 |str _=>let#[t,rfl]:=r;rfl
 |byt _=>let#[t,rfl]:=r;rfl
 |flt _=>let#[t,rfl]:=r;rfl
 |ref _=>cases r;rfl
 |ty _=>cases r;rfl
def RelV.inj(r:RelV x u)(q:RelV y u):x=y:=cB (r.abs.symm.trans q.abs)
theorem bP.inj:∀{xs ys:M V}{us:M Z},bP xs us->bP ys us->xs=ys
|_,_,_,.nil,.nil=>rfl
|_,_,_,.cons r t,.cons r' t'=>by rw[r.inj r',bP.inj t t']
section
variable{X:Cx}{pins:M (Addr×Obj)}{U:St}{H:Hp}{s:ay}{a:Addr}{xs ys:M V}
def Inv.list(I:Inv X pins U H s)(h:jh X.K H a xs):∃its:M Z,bP xs its/\PlainL s.heap a its.toArray/\xs.length<=aj:=by
 rcases h with h|⟨o,its,n,hk,hc,hd,hs,hz,r⟩
 .obtain⟨z,its,n,r,e⟩:=h.ok I.hok;exact#[its,r,#[_,n,e,rfl,rfl,rfl],z]
 .refine#[its.toList,r,#[o,n,I.uM a o hk,hc,hd,by simpa using hs],?_];have e:=r.length;simp only[ee]at e
  lia
def Inv.tuple(I:Inv X pins U H s)(h:tZ X.K H a xs):∃its:M Z,bP xs its/\IsTup s.heap a its.toArray/\xs.length<=aj:=by
 rcases h with h|⟨o,its,n,hk,hc,hs,hz,r⟩
 .obtain⟨z,its,r,p⟩:=h.ok I.hok;exact#[its,r,p,z]
 .refine#[its.toList,r,#[o,I.uM a o hk,hc,n,by simpa using hs],?_];have e:=r.length;simp only[ee]at e
  lia
def Inv.zJ(I:Inv X pins U H s)(h:jh X.K H a xs)(h':jh X.K H a ys):xs=ys:=by
 let#[its,r,#[o,n,e,_,_,d],_]:=I.list h;let#[its',r',#[o',n',e',_,_,d'],_]:=I.list h';rw[e]at e';cases e';rw[d]at d';injection d' with d1 _;have:its=its':=by simp_all
 subst this;exact r.inj r'
def Inv.IG(I:Inv X pins U H s)(h:tZ X.K H a xs)(h':tZ X.K H a ys):xs=ys:=by
 let#[its,r,#[o,e,_,n,d],_]:=I.tuple h;let#[its',r',#[o',e',_,n',d'],_]:=I.tuple h';rw[e]at e';cases e';rw[d]at d';injection d' with d1 _;have:its=its':=by simp_all
 subst this;exact r.inj r'
end
noncomputable abbrev Cx.sC(X:Cx)(E:Z->ay->Prop):Cx:={ X with xe:=E }
def Cx.Ok.sC{X:Cx}(ok:X.Ok)(E:Z->ay->Prop):(X.sC E).Ok:=
 #[ok.mod,ok.kind,ok.glob,ok.blt,ok.above,ok.inj,ok.has,ok.cab,ok.hd,ok.frames,ok.stk,ok.exf,ok.bs,ok.bsz,ok.noex,ok.exfs,ok.uc,ok.frf]
def Cx.Ok.uO{X:Cx}{E:Z->ay->Prop}(ok:(X.sC E).Ok):X.Ok:=
 #[ok.mod,ok.kind,ok.glob,ok.blt,ok.above,ok.inj,ok.has,ok.cab,ok.hd,ok.frames,ok.stk,ok.exf,ok.bs,ok.bsz,ok.noex,ok.exfs,ok.uc,ok.frf]
section
variable{X:Cx}{pins:M (Addr×Obj)}{U:St}{H:Hp}{s:ay}{E:Z->ay->Prop}
def Inv.sC(I:Inv X pins U H s)(E:Z->ay->Prop):Inv (X.sC E) pins U H s:=#[I.ok.sC E,I.os,I.bare,I.base,I.loc,I.cell,I.free,I.freeC,I.pin,I.hok,I.len]
def Inv.uO(I:Inv (X.sC E) pins U H s):Inv X pins U H s:=#[I.ok.uO,I.os,I.bare,I.base,I.loc,I.cell,I.free,I.freeC,I.pin,I.hok,I.len]
def SP.uO(h:SP (X.sC E) pins D f s'):SP X pins D f s':=by
 cases f with
 |next=>let#[σ',H',I,q]:=h;exact#[σ',H',I.uO,q]
 |brk=>let#[σ',H',I,q]:=h;exact#[σ',H',I.uO,q]
 |cont=>let#[σ',H',I,q]:=h;exact#[σ',H',I.uO,q]
 |ret u=>let#[v,σ',H',I,r,q]:=h;exact#[v,σ',H',I.uO,r,q]
end
section
variable{X:Cx}{st:Stmt}{rest:M Stmt}{t u:TS}{e:Expr}{te:TE}{pos:Pos}
def aed:TS:=λD U H=>D.nx U H
def tSeq(t u:TS):TS:=λD U H=>t { D with nx:=u D } U H
def Zb:yT X [] aed:=λ_ _ U H _ I h=>x_ #[U,H,I,h]
def UH(h1:PS X st t)(h2:yT X rest u):yT X (st::rest) (tSeq t u):=by
 intro pins s U H D I h;refine wpAny_execs_cons (bA (h1 pins s U H { D with nx:=u D } I h) λf s1 q=>?_);cases f with
 |next=>
  let#[σ',H',I',q]:=q;exact h2 pins s1 σ' H' D I' q
 |ret v=>exact q
 |brk=>exact q
 |cont=>exact q
def abE:TS:=λD U H=>D.bk U H
def aee:TS:=λD U H=>D.ct U H
def UI:PS X (.Break pos) abE:=λ_ _ U H _ I h=>wpAny_Break #[U,H,I,h]
def Nj:PS X (.Continue pos) aee:=λ_ _ U H _ I h=>wpAny_Continue #[U,H,I,h]
def Inv.quiet(I:Inv X pins U H s):NK X.env=B:=by simp[NK,I.ok.kind]
def aef(te:TE):TS:=λD U H=>te U H λ_ H1=>D.nx U H1
def Zc(he:PE X e te)(hs:u9 e S pos.line X.env=pure B:=by rfl):PS X (.Expr e pos) (aef te):=by
 intro pins s U H D I h;exact wpAny_Expr_any (bA (he pins s U H _ I h) λv s1 qq=>by let#[x,H1,I1,r1,q1]:=qq;exact#[U,H1,I1,q1]) I.quiet hs
def tRet(te:TE):TS:=λD U H=>te U H D.rt
def Ld(he:PE X e te):PS X (.Return (L e) pos) (tRet te):=by
 intro pins s U H D I h;exact wpAny_Return_some (bA (he pins s U H _ I h) λv s1 qq=>by let#[x,H1,I1,r1,q1]:=qq;exact#[x,U,H1,I1,r1,q1])
def tIfS(c:TT)(t u:TS):TS:=λD U H=>c U H λb H1=>if b=W then t D U H1 else u D U H1
def aeg{c:Expr}(hc:PT X c tc)(ha:yT X a t)(hb:yT X b u):PS X (.If c a b pos) (tIfS tc t u):=by
 intro pins s U H D I h;refine wpAny_If (bA (hc pins s U H _ I h) λd s1 ⟨H1,I1,q1⟩=>?_);cases d with
 |true=>exact ha pins s1 U H1 D I1 q1
 |false=>exact hb pins s1 U H1 D I1 q1
def abF:TS:=λ_ _ _=>bu
def UJ:PS X st abF:=λ_ _ _ _ _ _ h=>h.elim
end
abbrev TG:=V->St->Hp->(St->Hp->Prop)->Prop
abbrev Le:=M V->St->Hp->(St->Hp->Prop)->Prop
def PG(X:Cx)(target:Expr)(t:TG):Prop:=
 ∀(pins:M (Addr×Obj)) (s:ay) (U:St) (H:Hp) (v:V) (u:Z) (Q:St->Hp->Prop),Inv X pins U H s->RelV v u->t v U H Q->
  aT (aW X.prog X.w) X.A (Ct target X.env u) (λ_ s'=>∃σ' H',Inv X pins σ' H' s'/\Q σ' H') X.xe s
def Fq(X:Cx)(ts:M Expr)(t:Le):Prop:=
 ∀(pins:M (Addr×Obj)) (s:ay) (U:St) (H:Hp) (vs:M V) (us:M Z) (Q:St->Hp->Prop),Inv X pins U H s->bP vs us->t vs U H Q->
  aT (aW X.prog X.w) X.A (assignInOrder ((kj ts X.env).map (·.2)) us) (λ_ s'=>∃σ' H',Inv X pins σ' H' s'/\Q σ' H') X.xe s
abbrev UK:=V->V->V->Hp->(Hp->Prop)->Prop
def OW(X:Cx)(t:UK):Prop:=
 ∀(pins:M (Addr×Obj)) (s:ay) (U:St) (H:Hp) (o i v:V) (ov iv u:Z) (Q:Hp->Prop),Inv X pins U H s->RelV o ov->RelV i iv->RelV v u->t o i v H Q->
  aT (aW X.prog X.w) X.A (Ip ov iv u) (λ_ s'=>∃H',Inv X pins U H' s'/\Q H') X.xe s
abbrev X5:=V->V->Hp->VK->Prop
def PIp(X:Cx)(op:Ao)(t:X5):Prop:=
 ∀(pins:M (Addr×Obj)) (s:ay) (U:St) (H:Hp) (x y:V) (v u:Z) (Q:VK),Inv X pins U H s->RelV x v->RelV y u->t x y H Q->
  aT (aW X.prog X.w) X.A (Cu op v u) (EP X pins U Q) X.xe s
section
variable{X:Cx}{pos:Pos}
def aeh(i:Nat):TG:=λv U H Q=>Q (U.set i (L v)) H
def NU(hN:X.N.Nodup)(hi:X.N[i]?=L x)(hx:Loc X.env.scope x)(hf:X.fn x=W\/X.env.scope.names.lookup x=L .local:=by first|exact .inl rfl|exact .inr rfl|assumption):PG X (.Name x pos) (aeh i):=by
 intro pins s U H v u Q I r h;exact Dn (Lc I hN hi hx r (λs' I'=>#[_,H,I',h]) hf)
def gNil:Le:=λvs U H Q=>vs=[]/\Q U H
def aei(t:TG)(u:Le):Le:=λvs U H Q=>∃v r,vs=v::r/\t v U H fun σ' H'=>u r σ' H' Q
def Zd:Fq X [] gNil:=by
 intro pins s U H vs us Q I r h;let#[e,h]:=h;subst e;cases r;exact assignInOrder_nil #[U,H,I,h]
def UL{e:Expr}(h1:PG X e t)(h2:Fq X es u)(hs:(kj (e::es) X.env).map (·.2)=Ct e X.env::(kj es X.env).map (·.2):=by rfl):Fq X (e::es) (aei t u):=by
 intro pins s U H vs us Q I r h;let#[v,vr,e1,h]:=h;subst e1;cases r with
 |cons r rr=>
  rw[hs];refine assignInOrder_cons (bA (h1 pins s U H _ _ _ I r h) λ_ s1 ⟨σ1,H1,I1,q1⟩=>?_);exact h2 pins s1 σ1 H1 _ _ Q I1 rr q1
def gTup(K:ak)(n:Nat)(t:Le):TG:=λv U H Q=>∃a xs,v=.ref a/\tZ K H a xs/\zl xs=n/\t xs U H Q
def abH(hc:X.calm=W)(h:Fq X es t)(hn:(kj es X.env).length=n:=by rfl)(hst:(kj es X.env).findIdx? (·.1)=S:=by rfl):PG X (.Tuple es k pos) (gTup X.K n t):=by
 intro pins s U H v u Q I r hw;let#[a,xs,e1,hq,hl,hw]:=hw;subst e1;cases r;let#[its,rv,ht,hz]:=I.tuple hq;refine assign_Tuple_tuple (I.ok.hd hc) ht (by simp[hn,<-hl,rv.length]) hst λh' hx=>?_;have I1:=I.kept (t':=s.toks) λb o e=>hx b o (bG (aO e)) e;exact h pins _ U H xs _ Q I1 (by simpa using rv) hw
def gSub(to ti:TE)(t:UK):TG:=λv U H Q=>to U H λo H1=>ti U H1 λi H2=>t o i v H2 λH3=>Q U H3
def abI{o i:Expr}(ho:PE X o to)(hi:PE X i ti)(hs:OW X t)(ha:∀v,Ct (.Subscript o i pos) X.env v=(do
   let ov <-zx [v] (eval o X.env)
   let iv <-zx [v,ov] (eval i X.env)
   Iq pos
   zx [v,ov,iv] (Ip ov iv v)
   release [v,ov,iv] []):=by intro _;rfl):PG X (.Subscript o i pos) (gSub to ti t):=by
 intro pins s U H v u Q I r h;rw[ha];refine ai (fK (bA (ho pins s U H _ I h) λov s1 ⟨x,H1,I1,r1,q1⟩=>?_));refine ai (fK (bA (hi pins s1 U H1 _ I1 q1) λiv s2 ⟨y,H2,I2,r2,q2⟩=>?_));refine ai (AO (ai (fK (bA (hs pins s2 U H2 x y v ov iv u _ I2 r1 r2 r q2) λ_ s3 ⟨H3,I3,q3⟩=>?_))));exact wpAny_release #[U,H3,I3,q3]
def tAsg(te:TE)(g:TG):TS:=λD U H=>te U H λx H1=>g x U H1 D.nx
def A_{tg e:Expr}(he:PE X e te)(hg:PG X tg g)(hs:vA [tg] e pos.line X.env=pure B:=by rfl)(hw:Kn [tg] e X.env=pure S:=by rfl)(h1:(kj [tg] X.env).map (·.2)=[Ct tg X.env]:=by rfl):PS X (.Assign [tg] e pos) (tAsg te g):=by
 intro pins s U H D I h;refine wpAny_Assign_stores (bA (he pins s U H _ I h) λv s1 ⟨x,H1,I1,r1,q1⟩=>?_) hs hw;rw[h1];exact bA (hg pins s1 U H1 x v _ I1 r1 q1) λ_ s2 q=>q
def abJ(i:Nat)(te:TE)(ti:X5):TS:=λD U H=>∃x,U[i]?=L (L x)/\te U H λy H1=>ti x y H1 λz H2=>D.nx (U.set i (L z)) H2
def abK{i:Nat}(hN:X.N.Nodup)(hi:X.N[i]?=L x)(hx:Loc X.env.scope x)(he:PE X e te)(ho:PIp X op ti)(hf:X.fn x=W\/X.env.scope.names.lookup x=L .local:=by first|exact .inl rfl|exact .inr rfl|assumption):PS X (.AugAssign (.Name x pos') op e pos) (abJ i te ti):=by
 intro pins s U H D I h;let#[v,e1,h]:=h;let#[m,hn,hl]:=I.loc;have vis:Rh X.env.scope x:=by rcases hx with k|k;exact .inl k;exact .inr (.inl k)
 let#[u,r,l]:=hl i x v hi e1 vis;refine wpAny_AugAssign_Name ?_;have go:aT (aW X.prog X.w) X.A (eval e X.env) (λw ahr=>aT (aW X.prog X.w) X.A (Cu op u w) (λr ahz=>aT (aW X.prog X.w) X.A (JT X.env x r) (λ_=>SP X pins D .next) X.xe ahz) X.xe ahr) X.xe s:=by
  refine bA (he pins s U H _ I h) λw s1 ⟨y,H1,I1,r1,q1⟩=>?_;refine bA (ho pins s1 U H1 v y u w _ I1 r r1 q1) λz s2 ⟨zv,H2,I2,r2,q2⟩=>?_;exact Lc I2 hN hi hx r2 (λs3 I3=>#[_,H2,I3,q2]) hf
 rcases l with⟨hk,hm⟩|⟨hk,c,hc,hcell⟩
 .exact An I.ok.kind hk hn hm go
 .rcases hk with hk|hk
  .exact A1 I.ok.kind hk hc hcell go
  .rcases hx with k|k
   .have:X.env.scope.names.lookup x=L .free:=hk;rw[k]at this;cases this
   .have:X.env.scope.names.lookup x=L .free:=hk;rw[k]at this;cases this
def aej(to ti te:TE)(tget:V->V->Hp->VK->Prop)(tip:X5)(tset:UK):TS:=λD U H=>to U H λo H1=>ti U H1 λi H2=>tget o i H2 λx H3=>te U H3 λy H4=>tip x y H4 λz H5=>tset o i z H5 λH6=>D.nx U H6
def abL(X:Cx)(t:V->V->Hp->VK->Prop):Prop:=
 ∀(pins:M (Addr×Obj)) (s:ay) (U:St) (H:Hp) (o i:V) (ov iv:Z) (Q:VK),Inv X pins U H s->RelV o ov->RelV i iv->t o i H Q->
  aT (aW X.prog X.w) X.A (zy ov iv) (EP X pins U Q) X.xe s
def Ze{o i e:Expr}{tget:V->V->Hp->VK->Prop}(ho:PE X o to)(hi:PE X i ti)(hg:abL X tget)(he:PE X e te)(hp:PIp X op tip)(hs:OW X tset)(ha:∀ov iv new,augStore i ov iv new=(do zx [new,ov,iv] (Ip ov iv new);release [new,ov,iv] [];pure .next):=by intros;rfl):PS X (.AugAssign (.Subscript o i tpos) op e pos) (aej to ti te tget tip tset):=by
 intro pins s U H D I h;refine wpAny_AugAssign_SubscriptAny (bA (ho pins s U H _ I h) λov s1 ⟨x1,H1,I1,r1,q1⟩=>?_) ha;refine bA (hi pins s1 U H1 _ I1 q1) λiv s2 ⟨x2,H2,I2,r2,q2⟩=>?_;refine bA (hg pins s2 U H2 x1 x2 ov iv _ I2 r1 r2 q2) λold s3 ⟨x3,H3,I3,r3,q3⟩=>?_;refine bA (he pins s3 U H3 _ I3 q3) λv s4 ⟨x4,H4,I4,r4,q4⟩=>?_;refine bA (hp pins s4 U H4 x3 x4 old v _ I4 r3 r4 q4) λnew s5 ⟨x5,H5,I5,r5,q5⟩=>?_;exact bA (hs pins s5 U H5 x1 x2 x5 ov iv new _ I5 r1 r2 r5 q5) λ_ s6 qq=>by let#[H6,I6,q6]:=qq;exact#[U,H6,I6,q6]
noncomputable def ipI(f:J->J->J):X5:=λx y H Q=>∃i j,x=.int i/\y=.int j/\Q (.int (f i j)) H
def Rj:PIp X .Add (ipI λi j=>i+j):=by
 intro pins s U H x y v u Q I r1 r2 h;let#[i,j,e1,e2,q]:=h;subst e1;subst e2;let#[t,rfl]:=r1;let#[t',rfl]:=r2;exact iadd_int #[.int _,H,I.tok _,#[_,rfl],q]
end
section
variable{X:Cx}{pos:Pos}
def abN(c:TT)(tb:TS):TS:=λD U H=>∃abq:Nat->St->Hp->Prop,(∃m,abq m U H)/\∀m U H,abq m U H->
 c U H λb H1=>if b=W then ∃N:St->Hp->Prop,(∀σ' H',N σ' H'->∃m',m'<m/\abq m' σ' H')/\tb { D with nx:=N,ct:=N,bk:=D.nx } U H1 else D.nx U H1
def UM{c:Expr}(hp:yc (aW X.prog X.w) X.A X.env X.xe)(hc:PT X c tc)(hb:yT X body tb):PS X (.While c body [] pos) (abN tc tb):=by
 intro pins s U H D I h;let#[abq,#[m0,w0],turn]:=h;refine wpAny_While (codeAny_whileLoop (λn s'=>∃σ' H',Inv X pins σ' H' s'/\abq n σ' H') ?_ m0 #[U,H,I,w0]);rintro n s1 ⟨σ1,H1,I1,w1⟩;refine jQ hp (bA (hc pins s1 σ1 H1 _ I1 (turn n σ1 H1 w1)) λb s2 ⟨H2,I2,q2⟩=>?_);cases b with
 |true=>
  let#[N,hN,q2]:=q2;rw[aF rfl];refine jQ hp (bA (hb pins s2 σ1 H2 _ I2 q2) λf s3 q3=>?_);cases f with
  |next=>
   let#[σ3,H3,I3,n3]:=q3;let#[m',hm,w3]:=hN σ3 H3 n3;exact#[m',hm,σ3,H3,I3,w3]
  |cont=>
   let#[σ3,H3,I3,n3]:=q3;let#[m',hm,w3]:=hN σ3 H3 n3;exact#[m',hm,σ3,H3,I3,w3]
  |brk=>exact q3
  |ret v=>exact q3
 |false=>
  rw[aG bU];exact x_ #[σ1,H2,I2,q2]
end
structure It where
 go:Nat->Hp->Prop
 yld:Nat->Hp->V->Hp->Prop
 stop:Nat->Hp->Prop
def sE(X:Cx)(pins:M (Addr×Obj))(H:Hp)(b:Addr):Prop:=
 H b=S/\b≠X.env.locals/\b∉X.fs/\(b∈X.ex\/X.aho.heap.objs.size<=b)/\(∀x c,X.env.cells.lookup x=L c->c≠b)/\∀p∈X.pn++pins,p.1≠b
def Inv.sG(I:Inv X pins U H s)(hb:s.heap.objs.size<=b)(hn:H' b=S):sE X pins H' b:=by
 refine#[hn,ja (bT I.lt hb),I.nofs hb,.inr (cH I.sz hb),λx c e z=>?_,λp hp z=>?_]
 .obtain⟨v,q⟩:=I.cell x c e;exact aH (bT q.lt (by rw[z];exact hb)) (c8 _)
 .exact aH (bT (aO (I.pin p hp).1) (by rw[z];exact hb)) (c8 _)
structure Turn (P:bO) (w:bL) (K:ak) (tg:Expr) (abt:It) (fp:M Addr) (it:Addr) (tn:Nat->Heap->Prop):Prop where
 mem:it∈fp
 obj:∀i h,tn i h->∀b∈fp,∃o,h.get? b=L o/\∀v,o.data≠.cell v
 keep:∀i h h',tn i h->(∀b∈fp,∀o,h.get? b=L o->h'.get? b=L o)->tn i h'
 item:∀(X:Cx),X.prog=P->X.w=w->X.K=K->X.calm=W->∀(i:Nat) (pins:M (Addr×Obj)) (s:ay) (U:St) (H:Hp) (E:Z->ay->Prop),Inv X pins U H s->(∀b∈fp,sE X pins H b)->tn i s.heap->abt.go i H->
  aT (aW P w) X.A (zz (.ref it)) (λr s1=>∃u,r=L u /\
   aT (aW P w) X.A (tQ tg (.ref it) u) (λ_ s2=>∃x H',Inv X pins U H' s2/\RelV x u/\abt.yld i H x H'/\tn (i+1) s2.heap/\∀b∈fp,H' b=S) E s1) E s
 done:∀(X:Cx),X.prog=P->X.w=w->X.K=K->X.calm=W->∀(i:Nat) (pins:M (Addr×Obj)) (s:ay) (U:St) (H:Hp) (E:Z->ay->Prop),Inv X pins U H s->(∀b∈fp,sE X pins H b)->tn i s.heap->abt.stop i H->
  aT (aW P w) X.A (zz (.ref it)) (λr s1=>r=S/\Inv X pins U H s1) E s
 self:∀(A:cQ) (i:Nat) (s:ay) (Q:Z->ay->Prop) (E:Z->ay->Prop),tn i s.heap->Q (.ref it) s->aT (aW P w) A (xf (.ref it)) Q E s
abbrev TI:=St->Hp->(It->Hp->Prop)->Prop
def PIE(X:Cx)(pins:M (Addr×Obj))(U:St)(tg:Expr)(R:It->Hp->Prop)(itv:Z)(s2:ay):Prop:=
 ∃(it:Addr) (fp:M Addr) (tn:Nat->Heap->Prop) (abt:It) (H':Hp),itv=.ref it/\Inv X pins U H' s2/\Turn X.prog X.w X.K tg abt fp it tn/\tn 0 s2.heap/\(∀b∈fp,sE X pins H' b)/\R abt H'
def PI(X:Cx)(tg iter:Expr)(wi:TI):Prop:=
 ∀(pins:M (Addr×Obj)) (s:ay) (U:St) (H:Hp) (R:It->Hp->Prop),Inv X pins U H s->wi U H R->
  aT (aW X.prog X.w) X.A (eval iter X.env) (λv s1=>aT (aW X.prog X.w) X.A (xf v) (PIE X pins U tg R) X.xe s1) X.xe s
def zK{E:Z->ay->Prop}{Q:Unit->ay->Prop}(ho:s.heap.get? it=L o)(hc:o.cls=.type n)(hd:o.data=.fields vs)(hn:["enumerate","zip","dict_itemiterator","dict_reverseitemiterator","odict_iterator","itertools.zip_longest","itertools.pairwise"].contains n=B)(hQ:Q () s):aT abl A (tQ tg (.ref it) u) Q E s:=by
 cases tg<;>first
  |exact aL hQ
  |(cases u<;>first
    |exact aL hQ
    |(refine ai (vV ho ?_)
      rw[hc,hd];show aT abl A (if(["enumerate","zip","dict_itemiterator","dict_reverseitemiterator","odict_iterator","itertools.zip_longest","itertools.pairwise"].contains n&&vs[0]?==L (tN _))=W then _ else _) Q E s;rw[aG (by lia)];exact aL hQ))
noncomputable def Itl(K:ak)(a:Addr):It:=
 #[λi H=>∃xs x,jh K H a xs/\xs[i]?=L x,λi H x H'=>H'=H/\∀xs,jh K H a xs->xs[i]?=L x,λi H=>∃xs,jh K H a xs/\zl xs<=i]
noncomputable def Itt(K:ak)(a:Addr):It:=
 #[λi H=>∃xs x,tZ K H a xs/\xs[i]?=L x,λi H x H'=>H'=H/\∀xs,tZ K H a xs->xs[i]?=L x,λi H=>∃xs,tZ K H a xs/\zl xs<=i]
noncomputable def X6(lo:J)(n:Nat):It:=#[λi _=>i<n,λi H x H'=>H'=H/\x=.int (lo+i),λi _=>n<=i]
def Rk{w:bL}{K:ak}{tg:Expr}(a it:Addr):Turn P w K tg (Itl K a) [it] it (λi h=>h.IsListIter it a i) where
 mem:=by simp
 obj:=λi h st b hb=>by
  have e:b=it:=by simpa using hb
  subst e;let#[o,e,c,d]:=st;exact#[o,e,λv z=>by rw[d]at z;cases z]
 keep:=λi h h' st k=>st.at λo e=>k it (by simp) o e
 item:=by
  intro X hP hw hK hc i pins s U H E I hf st hg;subst hP hw hK;let#[xs,x,hq,hx]:=hg;let#[its,rv,p,hz]:=I.list hq;let#[u,hu,ru]:=rv.get hx;let#[f0,f1,f2,f3,f4,f5]:=hf it (by simp);refine qM st p.isList (x:=u) (by simpa using hu) λh' st' sb=>?_;have I1:=I.turned (t':=s.toks) (λb o hb e=>(sb.2 b hb).trans e) f0 f1 f3 f4 f5;let#[o,e,c,d]:=id st';exact#[u,rfl,zK (s:={ s with heap:=h' }) e c d (by decide) #[x,H,I1,ru,#[rfl,λys hy=>by rw[I.zJ hy hq];exact hx],st',λb hb=>(hf b hb).1]]
 done:=by
  intro X hP hw hK hc i pins s U H E I hf st hg;subst hP hw hK;let#[xs,hq,hx]:=hg;let#[its,rv,p,hz]:=I.list hq;let#[f0,f1,f2,f3,f4,f5]:=hf it (by simp);have hl:=rv.length;exact r9 (I.ok.hd hc) st p.isList (by simp;lia) λh' eb=>#[rfl,I.turned (t':=s.toks) (λb o hb e=>eb b o hb e) f0 f1 f3 f4 f5]
 self:=λ_ _ _ _ _ st h=>wpAny_pyIter_listiter st h
def OX{w:bL}{K:ak}{tg:Expr}(a it:Addr):Turn P w K tg (Itt K a) [it] it (λi h=>h.IsTupleIter it a i) where
 mem:=by simp
 obj:=λi h st b hb=>by
  have e:b=it:=by simpa using hb
  subst e;let#[o,e,c,d]:=st;exact#[o,e,λv z=>by rw[d]at z;cases z]
 keep:=λi h h' st k=>st.at λo e=>k it (by simp) o e
 item:=by
  intro X hP hw hK hc i pins s U H E I hf st hg;subst hP hw hK;let#[xs,x,hq,hx]:=hg;let#[its,rv,p,hz]:=I.tuple hq;let#[u,hu,ru]:=rv.get hx;let#[f0,f1,f2,f3,f4,f5]:=hf it (by simp);refine wpAny_pyNext_tuple_item st (show s.heap.IsTuple a its.toArray from p) (x:=u) (by simpa using hu) λh' st' sb=>?_;have I1:=I.turned (t':=s.toks) (λb o hb e=>(sb.2 b hb).trans e) f0 f1 f3 f4 f5;let#[o,e,c,d]:=id st';exact#[u,rfl,zK (s:={ s with heap:=h' }) e c d (by decide) #[x,H,I1,ru,#[rfl,λys hy=>by rw[I.IG hy hq];exact hx],st',λb hb=>(hf b hb).1]]
 done:=by
  intro X hP hw hK hc i pins s U H E I hf st hg;subst hP hw hK;let#[xs,hq,hx]:=hg;let#[its,rv,p,hz]:=I.tuple hq;let#[f0,f1,f2,f3,f4,f5]:=hf it (by simp);have hl:=rv.length;exact wpAny_pyNext_tuple_end (I.ok.hd hc) st (show s.heap.IsTuple a its.toArray from p) (by simp;lia) λh' eb=>#[rfl,I.turned (t':=s.toks) (λb o hb e=>eb b o hb e) f0 f1 f3 f4 f5]
 self:=λ_ _ _ _ _ st h=>wpAny_pyIter_tupleiter st h
def OY{w:bL}{K:ak}{tg:Expr}(it:Addr)(lo:J)(n:Nat):Turn P w K tg (X6 lo n) [it] it (λi h=>Eb h it (lo+(i:Nat)*1) ((n:J)-(i:Nat)) 1) where
 mem:=by simp
 obj:=λi h st b hb=>by
  have e:b=it:=by simpa using hb
  subst e;exact#[_,st,λv z=>by
   have z':=z;cases z']
 keep:=λi h h' st k=>k it (by simp) _ st
 item:=by
  intro X hP hw hK hc i pins s U H E I hf st hg;subst hP hw hK;let#[f0,f1,f2,f3,f4,f5]:=hf it (by simp);have abq:=NL (prog:=X.prog) (w:=X.w) (I.ok.hd hc) it lo 1 n;refine abq.item i s _ _ hg st λv h' tk hv st' kk=>?_;let#[t,rfl]:=hv;have I1:Inv X pins U H { s with heap:=h',toks:=tk }:=I.turned (λb o hb e=>kk b o (by simpa using hb) e) f0 f1 f3 f4 f5;refine#[_,rfl,zK (s:={ s with heap:=h',toks:=tk }) (n:="range_iterator") st' rfl rfl (by decide) #[.int (lo+i),H,I1,#[t,?_],#[rfl,rfl],st',λb hb=>(hf b hb).1]];rw[NN]
 done:=by
  intro X hP hw hK hc i pins s U H E I hf st hg;subst hP hw hK;let#[f0,f1,f2,f3,f4,f5]:=hf it (by simp);exact yH (I.ok.hd hc) st (by have:n<=i:=hg;lia) λh' eb=>#[rfl,I.turned (t':=s.toks) (λb o hb e=>eb b o hb e) f0 f1 f3 f4 f5]
 self:=λ_ _ _ _ _ st h=>qP st h
end L2
namespace L2
open PySem PySem.Spec PyProof.Rows
section
variable{X:Cx}{tg:Expr}
def UN{R:It->Hp->Prop}{E:Z->ay->Prop}{lo hi:J}{t u v:Tok}{tk:Nat}(I:Inv X pins U H s)(h1:-(2 ^ 62)<=lo)(h2:lo<2 ^ 62)(h3:-(2 ^ 62)<=hi)(h4:hi<2 ^ 62)(q:R (X6 lo (hi-lo).toNat) H):aT (aW X.prog X.w) X.A (xf (.ref s.heap.objs.size)) (PIE X pins U tg R) E { s with heap:=s.heap.push { cls:=.type "range",data:=.fields (List.toArray [.int lo t,.int hi u,.int 1 v]) },toks:=tk }:=by
 refine wpAny_pyIter_range (Ec ..) (JU h1 h2 h3 h4) ?_;have I1:Inv X pins U H { s with heap:=s.heap.push { cls:=.type "range",data:=.fields (List.toArray [.int lo t,.int hi u,.int 1 v]) },toks:=tk }:=I.kept λb o e=>az _ e;refine#[(s.heap.push { cls:=.type "range",data:=.fields (List.toArray [.int lo t,.int hi u,.int 1 v]) }).objs.size,[(s.heap.push { cls:=.type "range",data:=.fields (List.toArray [.int lo t,.int hi u,.int 1 v]) }).objs.size],_,_,H,rfl,
  I1.kept (t':=tk) λb o e=>az _ e,OY _ lo (hi-lo).toNat,?_,λb hb=>?_,q]
 .have e1:lo+((0:Nat):J)*1=lo:=by simp
  have e2:(((hi-lo).toNat:Nat):J)-((0:Nat):J)=g9 lo hi 1:=by rw[AQ];split<;>lia
  rw[e1,e2];exact aS _ rfl
 .have e:b=(s.heap.push { cls:=.type "range",data:=.fields (List.toArray [.int lo t,.int hi u,.int 1 v]) }).objs.size:=by simpa using hb
  subst e;exact I1.sG (aK _) (I1.hok.fresh (aK _))
def tFor(wi:TI)(g:TG)(tb:TS):TS:=λD U H=>wi U H λabt H1=>∃abq:Nat->Nat->St->Hp->Prop,(∃m,abq 0 m U H1)/\∀i m U H,abq i m U H->
 (abt.stop i H/\D.nx U H)\/(abt.go i H/\∃N:St->Hp->Prop,(∀σ' H',N σ' H'->∃m',m'<m/\abq (i+1) m' σ' H')/\∀x H',abt.yld i H x H'->g x U H' fun σ2 H2=>tb { D with nx:=N,ct:=N,bk:=D.nx } σ2 H2)
noncomputable def Ba(fp:M Addr)(h:Heap):M (Addr×Obj):=fp.filterMap λb=>(h.get? b).map λo=>(b,o)
def vM(hb:b∈fp)(e:h.get? b=L o):(b,o)∈Ba fp h:=u_.mpr #[b,hb,by rw[e];rfl]
def Rl(hp:p∈Ba fp h):p.1∈fp/\h.get? p.1=L p.2:=by
 let#[b,hb,e]:=u_.mp hp;cases q:h.get? b with
 |none=>rw[q]at e;cases e
 |some o=>
  rw[q]at e;have e':=cB e;subst e';exact#[hb,q]
def Inv.pinned(I:Inv X pins U H s)(hf:∀b∈fp,sE X pins H b)(ho:∀b∈fp,∃o,s.heap.get? b=L o/\∀v,o.data≠.cell v):Inv X (pins++Ba fp s.heap) U H s:=
 I.vZ λp hp=>(bw.mp hp).elim (λz=>I.pin p (aJ _ z)) λz=>by
  let#[hb,e]:=Rl z;let#[f0,f1,f2,_]:=hf p.1 hb;let#[o,e',d]:=ho p.1 hb;rw[e]at e';cases e';exact#[e,f0,f1,f2,d]
def Inv.zL(I:Inv X (pins++pl) U H s):Inv X pins U H s:=I.vZ λp hp=>I.pin p (aJ _ (bC _ hp))
def abO(hp:yc (aW X.prog X.w) X.A X.env X.xe)(hc:X.calm=W)(hi:PI X tg iter wi)(hg:PG X tg g)(hb:yT X body tb)(hs:∀x,mH iter X.env x=pure x:=by intro _;rfl):PS X (.For tg iter body [] pos) (tFor wi g tb):=by
 intro pins s U H D I h;refine wpAny_For (bA (hi pins s U H _ I h) λv s1 h1=>bA h1 λitv s2 h2=>?_) hs;let#[it,fp,tn,abt,H2,e,I2,T,st2,f2,abq,#[m0,w0],turn]:=h2;subst e;have stat:∀{H':Hp},(∀b∈fp,H' b=S)->∀b∈fp,sE X pins H' b:=λhn b hb=>#[hn b hb,(f2 b hb).2];refine codeAny_forLoop_any (λn s'=>∃i σ' H',Inv X pins σ' H' s'/\tn i s'.heap/\(∀b∈fp,H' b=S)/\abq i n σ' H') ?_ m0 #[0,U,H2,I2,st2,λb hb=>(f2 b hb).1,w0];rintro n s3 ⟨i,σ3,H3,I3,st3,fr3,w3⟩;rcases turn i n σ3 H3 w3 with⟨stop,qn⟩|⟨go,N,hN,step⟩
 .refine jQ hp (bA (T.done X rfl rfl rfl hc i pins s3 σ3 H3 X.xe I3 (stat fr3) st3 stop) λr s4 ⟨hr,I4⟩=>?_);subst hr;exact x_ #[σ3,H3,I4,qn]
 .refine jQ hp (bA (T.item X rfl rfl rfl hc i pins s3 σ3 H3 X.xe I3 (stat fr3) st3 go) λr s4 ⟨u,hr,h4⟩=>?_);subst hr;refine jQ hp (bA h4 λ_ s5 ⟨x,H5,I5,r5,y5,st5,fr5⟩=>?_);have I5':=I5.pinned (stat fr5) (T.obj _ _ st5);refine jQ hp (bA (hg _ s5 σ3 H5 x u _ I5' r5 (step x H5 y5)) λ_ s6 ⟨σ6,H6,I6,q6⟩=>?_);refine jQ hp (bA (hb _ s6 σ6 H6 _ I6 q6) λf s7 q7=>?_);have again:∀{σ7:St}{H7:Hp},Inv X (pins++Ba fp s5.heap) σ7 H7 s7->N σ7 H7->∃m,m<n/\∃i σ' H',Inv X pins σ' H' s7/\tn i s7.heap/\(∀b∈fp,H' b=S)/\abq i m σ' H':=λ{σ7 H7} I7 n7=>by
   let#[m',hm,w7]:=hN σ7 H7 n7;refine#[m',hm,i+1,σ7,H7,I7.zL,T.keep _ _ _ st5 λb hb o e=>(I7.pin (b,o) (aJ _ (aJ _ (vM hb e)))).1,λb hb=>?_,w7];let#[o,e,d]:=T.obj _ _ st5 b hb;exact(I7.pin (b,o) (aJ _ (aJ _ (vM hb e)))).2.1
  cases f with
  |next=>let#[σ7,H7,I7,n7]:=q7;exact again I7 n7
  |cont=>let#[σ7,H7,I7,n7]:=q7;exact again I7 n7
  |brk=>let#[σ7,H7,I7,q7]:=q7;exact#[σ7,H7,I7.zL,q7]
  |ret v=>let#[x7,σ7,H7,I7,r7,q7]:=q7;exact#[x7,σ7,H7,I7.zL,r7,q7]
end
end L2
namespace L2
open PySem PySem.Spec PyProof.Rows
abbrev R2:=V->V->Hp->VK->Prop
def nM(X:Cx)(f:Z->Z->Sem Z)(r:R2):Prop:=
 ∀(pins:M (Addr×Obj)) (s:ay) (U:St) (H:Hp) (x y:V) (v u:Z) (Q:VK),Inv X pins U H s->RelV x v->RelV y u->r x y H Q->
  aT (aW X.prog X.w) X.A (f v u) (EP X pins U Q) X.xe s
def UnR(X:Cx)(f:Z->Sem Z)(r:V->Hp->VK->Prop):Prop:=
 ∀(pins:M (Addr×Obj)) (s:ay) (U:St) (H:Hp) (x:V) (v:Z) (Q:VK),Inv X pins U H s->RelV x v->r x H Q->
  aT (aW X.prog X.w) X.A (f v) (EP X pins U Q) X.xe s
def mE(X:Cx)(f:Z)(r:M V->Hp->VK->Prop):Prop:=
 ∀(pins:M (Addr×Obj)) (s:ay) (U:St) (H:Hp) (xs:M V) (us:M Z) (Q:VK),Inv X pins U H s->bP xs us->r xs H Q->
  aT (aW X.prog X.w) X.A (call f us) (EP X pins U Q) X.xe s
def TruR(X:Cx)(r:V->Hp->(Bool->Hp->Prop)->Prop):Prop:=
 ∀(pins:M (Addr×Obj)) (s:ay) (U:St) (H:Hp) (x:V) (v:Z) (Q:Bool->Hp->Prop),Inv X pins U H s->RelV x v->r x H Q->
  aT (aW X.prog X.w) X.A (MX v) (TP X pins U Q) X.xe s
def tOp(r:R2)(ta tb:TE):TE:=λU H Q=>ta U H λx H1=>tb U H1 λy H2=>r x y H2 Q
noncomputable def rI(C:J->J->Prop)(g:J->J->V):R2:=λx y H Q=>∃i j,x=.int i/\y=.int j/\C i j/\Q (g i j) H
noncomputable def NV(g:J->J->V):R2:=λx y H Q=>∃i j,x=.int i/\y=.int j/\Q (g i j) H
def rU(g:J->V):V->Hp->VK->Prop:=λx H Q=>∃i,x=.int i/\Q (g i) H
section
variable{X:Cx}{a b c:Expr}{ta tb tc:TE}{pos:Pos}
def UO(ha:PE X a ta)(hb:PE X b tb){R:V->V->Hp->Prop}(I:Inv X pins U H s)(h:ta U H λx H1=>tb U H1 λy H2=>R x y H2){Q:Z->ay->Prop}{f:Z->Z->Sem Z}(hf:∀v u s2 x y H2,Inv X pins U H2 s2->RelV x v->RelV y u->R x y H2->aT (aW X.prog X.w) X.A (f v u) Q X.xe s2):aT (aW X.prog X.w) X.A (eval a X.env) (λv ahq=>aT (aW X.prog X.w) X.A (eval b X.env) (λu ahr=>aT (aW X.prog X.w) X.A (f v u) Q X.xe ahr) X.xe ahq) X.xe s:=by
 refine bA (ha pins s U H _ I h) λv s1 ⟨x,H1,I1,r1,q1⟩=>?_;refine bA (hb pins s1 U H1 _ I1 q1) λu s2 ⟨y,H2,I2,r2,q2⟩=>?_;exact hf v u s2 x y H2 I2 r1 r2 q2
def aek(ho:nM X (jA op) r)(ha:PE X a ta)(hb:PE X b tb):PE X (.BinOp a op b pos) (tOp r ta tb):=by
 intro pins s U H Q I h;exact wpAny_BinOp (UO ha hb I h λv u s2 x y H2 I2 rx ry q=>ho pins s2 U H2 x y v u Q I2 rx ry q)
def Lf(ho:nM X (Cu op) r)(I:Inv X pins U H s)(rx:RelV x v)(ry:RelV y u)(q:r x y H Q):aT (aW X.prog X.w) X.A (Cu op v u) (EP X pins U Q) X.xe s:=ho pins s U H x y v u Q I rx ry q
def X7{f:Z->Z->Sem Z}{C:J->J->Prop}{g:J->J->J}(rule:∀(i j:J) (t u:Tok) (s:ay) (Q:Z->ay->Prop) (E:Z->ay->Prop),C i j->Q (.int (g i j) s.toks) { s with toks:=s.toks+1 }->aT (aW X.prog X.w) X.A (f (.int i t) (.int j u)) Q E s):nM X f (rI C λi j=>.int (g i j)):=by
 intro pins s U H x y v u Q I rx ry h;let#[i,j,rfl,rfl,hc,q]:=h;let#[t,rfl]:=rx;let#[t',rfl]:=ry;exact rule i j t t' s _ _ hc #[.int (g i j),H,I.tok _,#[_,rfl],q]
def abQ{f:Z->Z->Sem Z}{g:J->J->J}(rule:∀(i j:J) (t u:Tok) (s:ay) (Q:Z->ay->Prop) (E:Z->ay->Prop),Q (.int (g i j) s.toks) { s with toks:=s.toks+1 }->aT (aW X.prog X.w) X.A (f (.int i t) (.int j u)) Q E s):nM X f (NV λi j=>.int (g i j)):=by
 intro pins s U H x y v u Q I rx ry h;let#[i,j,rfl,rfl,q]:=h;let#[t,rfl]:=rx;let#[t',rfl]:=ry;exact rule i j t t' s _ _ #[.int (g i j),H,I.tok _,#[_,rfl],q]
def abR{f:Z->Z->Sem Z}{g:J->J->Bool}(rule:∀(i j:J) (t u:Tok) (s:ay) (Q:Z->ay->Prop) (E:Z->ay->Prop),Q (.bool (g i j)) s->aT (aW X.prog X.w) X.A (f (.int i t) (.int j u)) Q E s):nM X f (NV λi j=>.bl (g i j)):=by
 intro pins s U H x y v u Q I rx ry h;let#[i,j,rfl,rfl,q]:=h;let#[t,rfl]:=rx;let#[t',rfl]:=ry;exact rule i j t t' s _ _ #[.bl (g i j),H,I,rfl,q]
def vf(i j:J):Prop:=0<j/\j<1073741824
def wg(i j:J):Prop:=0<=j/\j<=1000000/\i.natAbs<2 ^ 64
def rC(i j:J):Prop:=(-(2 ^ 64)<i/\i<2 ^ 64)\/(-(2 ^ 64)<j/\j<2 ^ 64)
def rC.ok(h:rC i j):IntMulOk i j:=by
 rcases h with⟨h1,h2⟩|⟨h1,h2⟩
 .exact .of_left (Ko h1 h2)
 .exact .of_right (Ko h1 h2)
def abS:nM X (jA .Add) (NV λi j=>.int (i+j)):=abQ λ_ _ _ _ _ _ _ q=>add_int q
def abT:nM X (jA .Sub) (NV λi j=>.int (i-j)):=abQ λ_ _ _ _ _ _ _ q=>sub_int q
def abU:nM X (jA .Mult) (rI rC λi j=>.int (i*j)):=X7 λ_ _ _ _ _ _ _ hc q=>mul_int q hc.ok
def Zf:nM X (jA .FloorDiv) (rI vf λi j=>.int (i / j)):=X7 λi j _ _ _ _ _ hc q=>by
 have h1:=hc.1;have h2:=hc.2;exact floordiv_int (by lia) (by rw[Int.fdiv_eq_ediv_of_nonneg i (by lia)];exact q) (.inl (NO (by omega)))
def abV:nM X (jA .Mod) (rI (λ_ j=>0<j) λi j=>.int (i%j)):=X7 λi j _ _ _ _ _ hc q=>by
 have h1:=hc;exact mod_int' (by lia) (by rw[Int.fmod_eq_emod_of_nonneg i (by lia)];exact q)
def abW:nM X (jA .Pow) (rI wg λi j=>.int (i ^ j.toNat)):=X7 λ_ _ _ _ _ _ _ hc q=>pow_int_small hc.1 hc.2.1 hc.2.2 q
def unI{f:Z->Sem Z}{g:J->J}(rule:∀(i:J) (t:Tok) (s:ay) (Q:Z->ay->Prop) (E:Z->ay->Prop),Q (.int (g i) s.toks) { s with toks:=s.toks+1 }->aT (aW X.prog X.w) X.A (f (.int i t)) Q E s):UnR X f (rU λi=>.int (g i)):=by
 intro pins s U H x v Q I rx h;let#[i,rfl,q]:=h;let#[t,rfl]:=rx;exact rule i t s _ _ #[.int (g i),H,I.tok _,#[_,rfl],q]
def abX:UnR X (unaryOp .USub) (rU λi=>.int (-i)):=unI λ_ _ _ _ _ q=>neg_int q
end
section
variable{X:Cx}{a b c:Expr}{ta tb tc:TE}{pos:Pos}
def Rm(I:Inv X pins U H s)(q:Q (.bl k) H)(e:k=k'):EP X pins U Q (.bool k') s:=by
 subst e;exact#[.bl k,H,I,rfl,q]
def ael:nM X (lU .Lt) (NV λi j=>.bl (decide (i<j))):=abR λ_ _ _ _ _ _ _ q=>lt_int q
def aem:nM X (lU .Gt) (NV λi j=>.bl (decide (j<i))):=abR λ_ _ _ _ _ _ _ q=>gt_int q
def abY:nM X (lU .Is) (λx y H Q=>y=.non/\Q (.bl (decide (x=.non))) H):=by
 intro pins s U H x y v u Q I rx ry h;let#[rfl,q]:=h;cases ry;refine is_none_gen (Rm I q ?_);cases x<;>first
  |(cases rx;rfl)
  |(let#[t,rfl]:=rx;rfl)
def Zg:nM X (lU .IsNot) (λx y H Q=>y=.non/\Q (.bl (!decide (x=.non))) H):=by
 intro pins s U H x y v u Q I rx ry h;let#[rfl,q]:=h;cases ry;refine isnot_none_gen (Rm I q ?_);cases x<;>first
  |(cases rx;rfl)
  |(let#[t,rfl]:=rx;rfl)
def Zh(ho:nM X (lU op) r)(ha:PE X a ta)(hb:PE X b tb)(hm:AR op b=B):PE X (.Compare a [op] [b] pos) (tOp r ta tb):=by
 intro pins s U H Q I h;exact wpAny_Compare1 (UO ha hb I h λv u s2 x y H2 I2 rx ry q=>ho pins s2 U H2 x y v u Q I2 rx ry q) hm
def wj:(aj:Nat)<2 ^ 63:=by rw[bY];decide
def OZ:nM X (jA .Add) (λx y H Q=>∃i j,x=.str i/\y=.str j/\i.length+j.length<=aj/\Q (.str (i++j)) H):=by
 intro pins s U H x y v u Q I rx ry h;let#[i,j,rfl,rfl,hz,q]:=h;let#[t,rfl]:=rx;let#[t',rfl]:=ry;exact add_str (λt' tk=>#[.str (i++j),H,I.tok _,#[_,rfl],q]) hz
def vals1(r:bP [x] us):∃u,us=[u]/\RelV x u:=by
 cases r with
 |cons r1 r2=>cases r2;exact#[_,rfl,r1]
def vals2(r:bP [x,y] us):∃u w',us=[u,w']/\RelV x u/\RelV y w':=by
 cases r with
 |cons r1 r2=>
  cases r2 with
  |cons r3 r4=>cases r4;exact#[_,_,rfl,r1,r3]
def Rn(hc:X.calm=W):mE X (.builtin "max") (λxs H Q=>∃i j,xs=[.int i,.int j]/\Q (.int (if j>i then j else i)) H):=by
 intro pins s U H xs us Q I r h;let#[i,j,rfl,q]:=h;let#[u,w',rfl,#[t,rfl],#[t',rfl]]:=vals2 r;refine max_two_ints (I.ok.hd hc) λh' tk k=>#[_,H,I.kept k,?_,q];by_cases hj:j>i
 .rw[aF hj,aF hj];exact#[_,rfl]
 .rw[aG hj,aG hj];exact#[_,rfl]
def Ro(hc:X.calm=W):mE X (.builtin "min") (λxs H Q=>∃i j,xs=[.int i,.int j]/\Q (.int (if j<i then j else i)) H):=by
 intro pins s U H xs us Q I r h;let#[i,j,rfl,q]:=h;let#[u,w',rfl,#[t,rfl],#[t',rfl]]:=vals2 r;refine min_two_ints (I.ok.hd hc) λh' tk k=>#[_,H,I.kept k,?_,q];by_cases hj:j<i
 .rw[aF hj,aF hj];exact#[_,rfl]
 .rw[aG hj,aG hj];exact#[_,rfl]
def Rp:mE X (.type "int") (λxs H Q=>(∃i,xs=[.int i]/\Q (.int i) H)\/∃k,xs=[.bl k]/\Q (.int (if k then 1 else 0)) H):=by
 intro pins s U H xs us Q I r h;rcases h with⟨i,rfl,q⟩|⟨k,rfl,q⟩
 .obtain⟨u,rfl,t,rfl⟩:=vals1 r;exact call_int_int #[.int i,H,I,#[_,rfl],q]
 .obtain⟨u,rfl,r1⟩:=vals1 r;cases r1;exact call_int_bool #[.int (if k then 1 else 0),H,I.tok _,#[_,rfl],q]
end
end L2
namespace L2
open PySem PySem.Spec PyProof.Rows
structure Hj (h:Heap) (x dx C:Addr) (mA:Str->abM Z):Prop where
 obj:h.get? x=L (i9 C dx)
 ns:h.Ns1 dx mA
 ne:dx≠x
set_option tactic.hygienic true in
def Rq{h:Heap}{mA:Str->abM Z}(n:h.Ns1 dx mA):∃od,h.get? dx=L od/\∀name,zA name od=L (mA name):=by
 let#[o,es,ep,ho,hd,hk,_,hm]:=n;refine#[o,ho,λname=>?_];have e:=hm name;unfold nsFind findBy at e;rw[<-Array.find?_toList]at e;unfold zA;rw[hd];dsimp only;split
 .rename_i y q;rw[q]at e;exact jc L e
 .rename_i q;rw[q]at e;have a:es.toList.any (·.refKey)=B:=by
   rw[Dp];intro y hy;let#[z,t,hkey]:=hk y (Array.mem_toList_iff.mp hy);simp[XO,hkey]
  have a':¬es.toList.any (·.refKey)=W:=by rw[a];exact bU
  rw[aG a'];exact jc L e
def Hj.look{mA:Str->abM Z}(I:Hj h x dx C mA):∃od,PySem.W.InstAt h x (i9 C dx) C (L od)/\∀name,zA name od=L (mA name):=
 let⟨od,ho,hl⟩:=Rq I.ns
 #[od,#[I.obj,rfl,rfl,ho],hl]
section
variable{prog:bO}{w:bL}{A:cQ}{E:Z->ay->Prop}{s:ay}{K:ak}{x dx C f:Addr}{mA:Str->abM Z}{name:Str}{v:Z}
def get_map{Q:Z->ay->Prop}(X:K.In s.heap)(I:Hj s.heap x dx C mA)(hg:rO K C name=W)(hh:qv K C=W)(ha:gh K (.ref C) name=L S)(hv:mA name=L v)(hv':E4 v=W)(h:Q v { s with toks:=s.toks+1 }):aT (aW prog w) A (OO (.ref x) name expr) Q E s:=by
 let#[od,abt,hl]:=I.look;exact Ux X abt (Q6 hg).1 (Q7 hh ha rfl (by rw[hl,hv])) hv' h
def Zi{Q:Unit->ay->Prop}(X:K.In s.heap)(I:Hj s.heap x dx C mA)(hs:gh K (.ref C) "__setattr__"=L (L (.builtin "object.__setattr__")))(hp:vI K C=W)(ht:yd K C name=L S)(hh:qv K C=W)(hw:Cq mA ns)(hsz:zl ns<=aj)(h:∀h',Hj h' x dx C (λy=>if y=name then L v else mA y)->jM dx s.heap h'->Q () { s with heap:=h',toks:=s.toks+2 }):aT (aW prog w) A (setAttr (.ref x) name v) Q E s:=by
 let#[od,abt,hl]:=I.look;refine Uy X abt hs (XQ (s:={ s with toks:=s.toks+1 }) (r:=S) X abt hp ht λb=>?_);let#[cd,hc,hd']:=XR hh;have hx:=I.obj;refine ai (aL (ai (ai (wpAny_loadPart hx (ai (Uh (s:={ s with toks:=s.toks+1 }) (Q8 X hc) ?_))))));rw[hd'];refine aL (a:=L dx) (ai (aL (ai ?_)));refine wpAny_nsSet1 (s:={ s with toks:=s.toks+1 }) I.ns λh' hn2 hs2=>?_;let#[oD,esD,epD,hoD,hdD,hcD]:=hn2.count (Uz name v hw);refine ai (wpAny_lookBehind hoD (by rw[hdD];exact pastItsLine_dict (cH hcD (by rw[cL];lia))) ?_);exact aL (h _ #[(hs2.2 _ (gf I.ne)).trans I.obj,hn2,I.ne] hs2)
def UP{R:Cj->ay->Prop}(X:K.In s.heap)(hm:ye K C=W)(hi:gh K (.ref C) "__init__"=L (L (.ref f)))(hf:PySem.W.typeIn K (.ref f)=L (.type "function"))(h:kE (aW prog w) (A.under (.builtin "type.__call__" #[.ref C::vs,kw])) (.call (.ref f) #[.ref (s.heap.objs.size+1)::vs,kw]) (XS (s.heap.objs.size+1) R)
   { s with heap:=(s.heap.push gB).push (i9 C s.heap.objs.size) }):
  kE (aW prog w) A (.call (.ref C) #[vs,kw]) R s:=by
 let#[hh,g,d,t,os]:=s;exact UA (XT X hm) (QR X hi) (λself=>Y3 X self hf) (.inl rfl) h
end
noncomputable def kG(f:Str)(v:V):M (Str×V)->M (Str×V)
|[]=>[(f,v)]
|(g,x)::r=>if g=f then(g,v)::r else(g,x)::kG f v r
theorem DB(f g:Str)(v:V):∀fs:M (Str×V),(kG f v fs).lookup g=if g=f then L v else fs.lookup g
|[]=>by
 show l_ g [(f,v)]=_;by_cases h:g=f
 .have hb:=lV.mpr h;simp only[l_,hb,aF h]
 .have hb:=fi.mpr h;simp only[l_,hb,aG h]
|(k,x)::r=>by
 have ih:=DB f g v r;rw[show kG f v ((k,x)::r)=(if k=f then(k,v)::r else(k,x)::kG f v r)from rfl];by_cases hk:k=f
 .grind
 .grind
theorem Bb(f:Str)(v:V):∀fs:M (Str×V),f∈(kG f v fs).map (·.1)/\∀g,g∈fs.map (·.1)->g∈(kG f v fs).map (·.1)
|[]=>#[by simp[kG],λg h=>by simp at h]
|(k,x)::r=>by
 let#[i1,i2]:=Bb f v r;rw[show kG f v ((k,x)::r)=(if k=f then(k,v)::r else(k,x)::kG f v r)from rfl];by_cases hk:k=f
 .grind
 .grind
theorem DC(f:Str)(v:V):∀fs:M (Str×V),zl (kG f v fs)<=zl fs+1
|[]=>by simp[kG]
|(k,x)::r=>by
 have ih:=DC f v r;rw[show kG f v ((k,x)::r)=(if k=f then(k,v)::r else(k,x)::kG f v r)from rfl];by_cases hk:k=f
 .rw[aF hk,cL,cL];lia
 .rw[aG hk,cL,cL];lia
def sA.some_of(r:sA (L v) o):∃u,o=L u/\RelV v u:=by
 cases o with
 |none=>exact(show bu from r).elim
 |some u=>exact#[u,rfl,r]
def Rr(r:RelV v u):E4 u=W:=by
 cases v with
 |non=>cases(show u=eN from r);rfl
 |bl b=>cases(show u=GX b from r);rfl
 |int i=>let#[t,e]:=(show ∃t,u=Cn i t from r);cases e;rfl
 |str x=>let#[t,e]:=(show ∃t,u=Co x t from r);cases e;rfl
 |byt b=>let#[t,e]:=(show ∃t,u=NI b t from r);cases e;rfl
 |flt b=>let#[t,e]:=(show ∃t,u=NJ b t from r);cases e;rfl
 |ref a=>cases(show u=bR a from r);rfl
 |ty n=>cases(show u=Value.type n from r);rfl
section
variable{P:bO}{w:bL}{H H':Hp}{h h':Heap}{a C dx:Addr}{fs fs':M (Str×V)}
def NW(hok:gR P w H h)(e:H a=L (.ins C dx fs)):∃mA,Hj h a dx C mA/\(∀f,sA (fs.lookup f) (mA f))/\Cq mA (fs.map (·.1))/\zl fs<=1000/\H dx=L (.own a):=by
 let#[d,z,ne,ob,mA,n,r,q]:=(show fX P w H h a (.ins C dx fs)from hok a _ e);exact#[mA,#[ob,n,ne],r,q,z,d]
end
structure AB (K:ak) (C:Addr):Prop where
 pg:rO K C Cv=W
 hd:qv K C=W
 po:vI K C=W
 sa:gh K (.ref C) "__setattr__"=L (L (.builtin "object.__setattr__"))
def AB.get{K:ak}(c:AB K C)(f:Str):rO K C f=W:=c.pg
def nN(K:ak)(C:Addr)(f:Str):Prop:=gh K (.ref C) f=L S
def nN.aen{K:ak}(n:nN K C f):yd K C f=L S:=by
 unfold yd;rw[show gh K (.ref C) f=L S from n];rfl
section
variable{X:Cx}{pins:M (Addr×Obj)}{U:St}{H:Hp}{s:ay}{a C dx:Addr}{fs:M (Str×V)}{f:Str}{v:V}{A:cQ}{E:Z->ay->Prop}
def O0{Q:Z->ay->Prop}(I:Inv X pins U H s)(e:H a=L (.ins C dx fs))(c:AB X.K C)(n:nN X.K C f)(l:fs.lookup f=L v)(h:∀u s',Inv X pins U H s'->RelV v u->Q u s'):aT (aW X.prog X.w) A (OO (.ref a) f b) Q E s:=by
 let#[mA,ahi,r,_,_,_]:=NW I.hok e;let#[u,hu,ru]:=sA.some_of (v:=v) (o:=mA f) (by rw[<-l];exact r f);exact get_map I.uM ahi (c.get f) c.hd n hu (Rr ru) (h u _ (I.tok _) ru)
def O1{Q:Unit->ay->Prop}(I:Inv X pins U H s)(e:H a=L (.ins C dx fs))(c:AB X.K C)(n:nN X.K C f)(hl:zl fs<1000)(ry:RelV y u)(h:∀s',Inv X pins U (upd H a (.ins C dx (kG f y fs))) s'->Q () s'):aT (aW X.prog X.w) A (setAttr (.ref a) f u) Q E s:=by
 let#[mA,ahi,r,wi,_,ho]:=NW I.hok e;have hz:zl (fs.map (·.1))<=aj:=by rw[aa,bY];lia
 refine Zi I.uM ahi c.sa c.po n.aen c.hd wi hz λh' O' sb=>h _ ?_;have hd:∃o,h'.get? dx=L o:=let⟨o,_,_,e',_⟩:=O'.ns;#[o,e']
 refine I.write (x:=a) (e:=dx) (by rw[e];exact nJ) (.inr ho) (λb q hb z=>(sb.2 b hb).trans z) hd ?_;refine#[by rw[aY ahi.ne];exact ho,?_,ahi.ne,O'.obj,_,O'.ns,λg=>?_,λg hg=>?_]
 .have:=DC f y fs;lia
 .rw[DB];by_cases q:g=f
  .rw[aF q,aF q];exact ry
  .rw[aG q,aG q];exact r g
 .by_cases q:g=f
  .rw[q];exact(Bb f y fs).1
  .refine(Bb f y fs).2 g (wi g λz=>hg ?_);show(if g=f then L u else mA g)=S;rw[aG q];exact z
def Inv.made(I:Inv X pins U H s):Inv X pins U (upd (upd H s.heap.objs.size (.own (s.heap.objs.size+1))) (s.heap.objs.size+1) (.ins C s.heap.objs.size []))
  { s with heap:=(s.heap.push gB).push (i9 C s.heap.objs.size) }:=by
 have e1:(s.heap.push gB).get? s.heap.objs.size=L gB:=aS s.heap rfl;have e2:((s.heap.push gB).push (i9 C s.heap.objs.size)).get? (s.heap.objs.size+1)=L (i9 C s.heap.objs.size):=by
  have:=aS (s.heap.push gB) (o:=i9 C s.heap.objs.size) rfl;rwa[g8]at this
 have e3:(s.heap.push gB).Ns s.heap.objs.size (λ_=>S):=#[gB,#[],_,e1,rfl,(λe he=>aH he (by simp)),λ_=>rfl];have I1:=I.laid (a:=s.heap.objs.size) (o:=.own (s.heap.objs.size+1)) (h':=s.heap.push gB) (t':=s.toks) (λb u q=>az _ q) (aK _) #[_,e1];refine I1.laid (a:=s.heap.objs.size+1) (o:=.ins C s.heap.objs.size []) (t':=s.toks) (λb u q=>az _ q) (xg (g8 _ _)) ?_;have ne:s.heap.objs.size≠s.heap.objs.size+1:=bG (iE _);refine#[by rw[aY ne,bQ],dg _,ne,e2,λ_=>S,(UB e3).at λo q=>az _ q,λ_=>nJ,λy hy=>aH rfl hy]
def Zj{Q:Z->ay->Prop}(hb:Kp e f env (eval e env)=eval e env)(h:aT (aW prog w) A (eval e env) (λo ahq=>aT (aW prog w) A (OO o f W) Q E ahq) E s):aT (aW prog w) A (eval (.Attribute e f pos) env) Q E s:=
 Attribute_any_ h (by rw[arm_eval_Attribute,hb])
end
end L2
namespace L2
open PySem PySem.Spec PyProof.Rows
structure jV (k:Nat) (A:cQ):Prop where
 hd:A.handled=S
 dp:A.depth+3*k+5<uD
 un:A.units+16*k+200<eS
def jV.mono(r:jV k A)(h:j<=k):jV j A:=#[r.hd,by have:=r.dp;lia,by have:=r.un;lia]
def jV.deeper(r:jV (k+1) A)(env:Env):jV k (A.deeper env):=
 #[r.hd,by have:=r.dp;show A.depth+1+3*k+5<_;lia,by have:=r.un;show A.units+3+16*k+200<_;lia]
theorem O2{A:cQ}:(A.under (.builtin "type.__call__" #[.ref C::us,kw])).depth=A.depth+1:=by
 rfl
theorem O3{A:cQ}:(A.under (.builtin "type.__call__" #[.ref C::us,kw])).units=A.units+1:=by
 rfl
def jV.make(r:jV (k+1) A)(C:Addr)(us:M Z)(kw:M (Str×Z)):jV k (A.under (.builtin "type.__call__" #[.ref C::us,kw])):=
 #[r.hd,by have:=r.dp;rw[O2];lia,by have:=r.un;rw[O3];lia]
def jV.depth(r:jV k A):A.depth<uD:=by have:=r.dp;lia
def UQ:TA:=λ_ H Q=>Q [] H
def aeo(ta:TE)(tr:TA):TA:=λU H Q=>ta U H λx H1=>tr U H1 λxs H2=>Q (x::xs) H2
section
variable{X:Cx}{e:Expr}{es:M Expr}{te:TE}{t:TA}{pos:Pos}
def Lg:PA X [] UQ:=λ_ _ _ _ H Q I h=>fY #[[],H,I,.nil,h]
def Hl(ha:PE X e te)(hr:PA X es t)(hs:gH (e::es) X.env=(B,eval e X.env)::gH es X.env:=by rfl):PA X (e::es) (aeo te t):=by
 intro pos pins s U H Q I h;rw[hs];refine eV (bA (ha pins s U H _ I h) λu s1 ⟨x,H1,I1,r1,q1⟩=>?_);exact bA (hr pos pins s1 U H1 _ I1 q1) λus s2 qq=>by let#[xs,H2,I2,r2,q2]:=qq;exact#[x::xs,H2,I2,.cons r1 r2,q2]
def tTup(t:TA):TE:=λU H Q=>t U H λxs H1=>zl xs<=aj/\∀p,H1 p=S->Q (.ref p) (upd H1 p (.tup xs))
def tLst(t:TA):TE:=λU H Q=>t U H λxs H1=>zl xs<=aj/\∀p,H1 p=S->Q (.ref p) (upd H1 p (.lst xs))
def abZ{x1}(h:PA X es t):PE X (.Tuple es x1 pos) (tTup t):=by
 intro pins s U H Q I hq;refine wpAny_Tuple_spliced (bA (h pos pins s U H _ I hq) λus s1 ⟨xs,H1,I1,r,z,q⟩=>#[by rw[<-r.length];exact z,?_]);have hf:=I1.hok.fresh (aK _);refine#[.ref s1.heap.objs.size,upd H1 s1.heap.objs.size (.tup xs),I1.laid (t':=s1.toks) (λb u e=>az _ e) (aK _) ?_,rfl,q _ hf];exact#[z,us,r,#[_,aS _ rfl,rfl,_,rfl]]
def ab0(h:PA X es t):PE X (.List es pos) (tLst t):=by
 intro pins s U H Q I hq;refine wpAny_List_spliced (bA (h pos pins s U H _ I hq) λus s1 ⟨xs,H1,I1,r,z,q⟩=>#[by rw[<-r.length];exact z,?_]);have hf:=I1.hok.fresh (aK _);refine#[.ref s1.heap.objs.size,upd H1 s1.heap.objs.size (.lst xs),I1.laid (t':=s1.toks) (λb u e=>az _ e) (aK _) ?_,rfl,q _ hf];exact#[z,us,0,r,aS _ rfl]
end
abbrev Sp:=M V->Hp->VK->XK->Prop
abbrev Bc:=M Env->Hp->ay->XK->Z->ay->Prop
structure Be (P:bO) (w:bL) (K:ak) (mg:Str->abM Z) (base:Heap) (A:cQ) (outer:M Env) (s:ay) (H:Hp):Prop where
 frames:A.frames=L outer
 mod:Mod K mg base
 bs:∀b o,base.get? b=L o->s.heap.get? b=L o/\H b=S
 bsz:base.objs.size<=s.heap.objs.size
 uc:s.heap.FunFrames base outer
 frf:(∀b∈frs outer,H b=S)/\Tb H
 hok:gR P w H s.heap
 bare:p6 s.gens
def CE(outer:M Env)(P:bO)(w:bL)(H:Hp)(s:ay)(Q:VK)(u:Z)(s':ay):Prop:=
 ∃v H',s'.os=s.os/\p6 s'.gens/\Un (frs outer) [] H H' s.heap s'.heap/\gR P w H' s'.heap/\RelV v u/\Q v H'
def CR(CX:Bc)(outer:M Env)(P:bO)(w:bL)(H:Hp)(s:ay)(Q:VK)(E:XK)(r:Cj)(s':ay):Prop:=
 match r with
 |.ok (.ret u)=>CE outer P w H s Q u s'
 |.ok _=>bu
 |.error e=>CX outer H s E e s'
structure g_ (P:bO) (w:bL) (K:ak) (mg:Str->abM Z) (base:Heap) (CX:Bc) (k:Nat) (f:Addr) (fd:fc) (ps:M Str) (sp:Sp):Prop where
 len:∀vs H Q E,sp vs H Q E->zl vs=zl ps
 run:∀(A:cQ) (outer:M Env) (s:ay) (H:Hp) (args:Args) (us:M Z) (vs:M V) (Q:VK) (E:XK),jV k A->Be P w K mg base A outer s H->Df s fd args (ps.zip us)->bP vs us->sp vs H Q E->
  kE (aW P w) A (.call (.ref f) args) (CR CX outer P w H s Q E) s
def g_.mono{w:bL}{K:ak}{mg:Str->abM Z}{base:Heap}{CX:Bc}{j k:Nat}{f:Addr}{fd:fc}{ps:M Str}{sp:Sp}(F:g_ P w K mg base CX j f fd ps sp)(h:j<=k):g_ P w K mg base CX k f fd ps sp:=#[F.len,λA outer s H args us vs Q E hr=>F.run A outer s H args us vs Q E (hr.mono h)]
def g_.imp{w:bL}{K:ak}{mg:Str->abM Z}{base:Heap}{CX:Bc}{k:Nat}{f:Addr}{fd:fc}{ps:M Str}{sp sp':Sp}(F:g_ P w K mg base CX k f fd ps sp)(h:∀vs H Q E,sp' vs H Q E->sp vs H Q E):g_ P w K mg base CX k f fd ps sp':=
 #[λvs H Q E q=>F.len vs H Q E (h _ _ _ _ q),λA outer s H args us vs Q E hr he hb hv hs=>F.run A outer s H args us vs Q E hr he hb hv (h _ _ _ _ hs)]
def Be.make{w:bL}{K:ak}{mg:Str->abM Z}{base:Heap}{A:cQ}{outer:M Env}{s:ay}{H:Hp}(e:Be P w K mg base A outer s H)(C:Addr)(us:M Z)(kw:M (Str×Z)):Be P w K mg base (A.under (.builtin "type.__call__" #[.ref C::us,kw])) outer s H:=#[by first|exact e.frames|(simpa[Around.under,Code.envs,Code.isFrame,pushEnvs]using e.frames),e.mod,e.bs,e.bsz,e.uc,e.frf,e.hok,e.bare]
section
variable{X:Cx}{pins:M (Addr×Obj)}{U:St}{H:Hp}{s s':ay}
def Inv.ab1(I:Inv X pins U H s):Be X.prog X.w X.K X.mg X.base X.A X.stack s H:=
 #[I.ok.frames,I.ok.mod,I.bs,cH I.ok.bsz I.sz,I.stack,#[I.Hi,I.tb],I.hok,I.bare]
def Inv.after(I:Inv X pins U H s)(h:CE X.stack X.prog X.w H s Q u s'):EP X pins U Q u s':=by
 let#[v,H',os,bare,un,hok,r,q]:=h;let#[hh,g,d,t,os']:=s';obtain rfl:os'=s.os:=os;exact#[v,H',I.call (h':=hh) (g':=g) (d':=d) (t':=t) (ch:=[]) un hok bare (λb z=>aH z (by simp)),r,q]
end
def X8(sp:Sp)(dvs:M V)(E:XK)(t:TA):TE:=λU H Q=>t U H λvs H1=>sp (vs++dvs) H1 Q E
def aep(C:Addr)(sp:Sp)(dvs:M V)(E:XK)(t:TA):TE:=λU H Q=>t U H λvs H1=>∀x dx,H1 x=S->H1 dx=S->dx≠x->
 sp (.ref x::(vs++dvs)) (upd (upd H1 dx (.own x)) x (.ins C dx [])) (λv H2=>v=.non/\Q (.ref x) H2) E
def Binds(K:ak)(fd:fc)(ps:M Str)(ds:M Z):Prop:=
 ∀(s:ay) (us:M Z),K.In s.heap->zl (us++ds)=zl ps->Df s fd #[us,[]] (ps.zip (us++ds))
def Binds.all{K:ak}(h:∀us:M Z,zl us=zl ps->pB fd #[us,[]]=pure (ps.zip us)):Binds K fd ps []:=λs us _ hl=>by
 rw[d_]at hl ⊢;exact .of_eq (h us hl)
def uP(CX:Bc)(X:Cx)(E:XK):Prop:=∀(pins:M (Addr×Obj)) (U:St) (H:Hp) (s:ay) (e:Z) (s':ay),Inv X pins U H s->CX X.stack H s E e s'->X.xe e s'
section
variable{X:Cx}{CX:Bc}{k:Nat}{f C:Addr}{fd:fc}{ps:M Str}{sp:Sp}{dvs:M V}{ds:M Z}{E:XK}{x m:Str}{p pos apos:Pos}{e o:Expr}{es:M Expr}{ta:TE}{t:TA}
def Rt(F:g_ X.prog X.w X.K X.mg X.base CX k f fd ps sp)(hr:jV k X.A)(hb:Binds X.K fd ps ds)(hd:bP dvs ds)(hx:uP CX X E)(I:Inv X pins U H s)(r:bP vs us)(h:sp (vs++dvs) H Q E):aT (aW X.prog X.w) X.A (call (.ref f) us) (EP X pins U Q) X.xe s:=by
 have r2:=r.append hd;have hl:(us++ds).length=ps.length:=by rw[<-r2.length];exact F.len _ _ _ _ h
 refine GZ (kU (F.run X.A X.stack s H #[us,[]] (us++ds) (vs++dvs) Q E hr I.ab1 (hb s us I.uM hl) r2 h) λr s' hq=>?_);cases r with
 |error e=>exact hx pins U H s e s' I hq
 |ok fl=>
  cases fl with
  |ret u=>exact I.after hq
  |next=>exact aC hq
  |brk=>exact aC hq
  |cont=>exact aC hq
def Zk(F:g_ X.prog X.w X.K X.mg X.base CX k f fd ps sp)(hr:jV k X.A)(hg:Gl X x)(hm:X.mg x=L (.ref f))(hk:fL X.K (.ref f)=W)(hb:Binds X.K fd ps ds)(hd:bP dvs ds)(hx:uP CX X E)(ha:PA X (e::es) t)(hdb:(x==("__debug__":Str))=B:=by decide)(he:gH (e::es) X.env=(B,eval e X.env)::gH es X.env:=by rfl)(hpl:(w_ pos (gH es X.env)).any (·.1)=B:=by rfl):PE X (.Call (.Name x p) (e::es) [] pos) (X8 sp dvs E t):=by
 intro pins s U H Q I h;refine fR (CV I hg hm ?_ hdb);refine Cw (h₀:=X.base) I.ok.mod.kin hk (bA (ha pos pins s U H _ I h) λus s1 ⟨vs,H1,I1,r,q⟩=>#[I1.uM,?_]) he hpl;exact Rt F hr hb hd hx I1 r q
def UR(F:g_ X.prog X.w X.K X.mg X.base CX k f fd ps sp)(hr:jV k X.A)(hg:Gl X x)(hm:X.mg x=L (.ref f))(hk:fL X.K (.ref f)=W)(hb:Binds X.K fd ps ds)(hd:bP dvs ds)(hx:uP CX X E)(hdb:(x==("__debug__":Str))=B:=by decide):PE X (.Call (.Name x p) [] [] pos) (X8 sp dvs E UQ):=by
 intro pins s U H Q I h;refine fR (CV I hg hm ?_ hdb);exact A2 I.uM hk (Rt (us:=[]) F hr hb hd hx I .nil h)
structure Mk (K:ak) (C f:Addr):Prop where
 makes:ye K C=W
 init:gh K (.ref C) "__init__"=L (L (.ref f))
 fn:MY K (.ref f)=W
 kp:fL K (.ref C)=W
def Lh(abl:Mk X.K C f)(F:g_ X.prog X.w X.K X.mg X.base CX k f fd ps sp)(hr:jV (k+1) X.A)(hb:Binds X.K fd ps ds)(hd:bP dvs ds)(hx:uP CX X E)(I:Inv X pins U H s)(r:bP vs us)(h:∀x dx,H x=S->H dx=S->dx≠x->sp (.ref x::(vs++dvs)) (upd (upd H dx (.own x)) x (.ins C dx [])) (λv H2=>v=.non/\Q (.ref x) H2) E):aT (aW X.prog X.w) X.A (call (.ref C) us) (EP X pins U Q) X.xe s:=by
 have hq:=h (s.heap.objs.size+1) s.heap.objs.size (I.hok.fresh (qN _)) (I.hok.fresh (aK _)) (bG (iE _));have I2:=Inv.made (C:=C) I;have r2:bP (V.ref (s.heap.objs.size+1)::(vs++dvs)) (bR (s.heap.objs.size+1)::(us++ds)):=.cons rfl (r.append hd);have hl:(bR (s.heap.objs.size+1)::us++ds).length=ps.length:=by
  have e:=r2.length;rw[F.len _ _ _ _ hq]at e;exact e.symm
 refine GZ (UP (f:=f) I.uM abl.makes abl.init (lV.mp abl.fn) (kU (F.run _ X.stack _ _ #[bR (s.heap.objs.size+1)::us,[]] (bR (s.heap.objs.size+1)::(us++ds)) _ _ E (hr.make C us [])
  (I2.ab1.make C us []) (hb _ (bR (s.heap.objs.size+1)::us) I2.uM hl) r2 hq) λr s' hq'=>?_))
 cases r with
 |error e=>exact hx pins U _ _ e s' I2 hq'
 |ok fl=>
  cases fl with
  |ret u=>
   let#[v,H',I3,rv,ev,q3]:=I2.after hq';subst ev;exact#[rv,#[V.ref (s.heap.objs.size+1),H',I3,rfl,q3]]
  |next=>exact aC hq'
  |brk=>exact aC hq'
  |cont=>exact aC hq'
def US(abl:Mk X.K C f)(F:g_ X.prog X.w X.K X.mg X.base CX k f fd ps sp)(hr:jV (k+1) X.A)(hg:Gl X x)(hm:X.mg x=L (.ref C))(hb:Binds X.K fd ps ds)(hd:bP dvs ds)(hx:uP CX X E)(hdb:(x==("__debug__":Str))=B:=by decide):PE X (.Call (.Name x p) [] [] pos) (aep C sp dvs E UQ):=by
 intro pins s U H Q I h;refine fR (CV I hg hm ?_ hdb);exact A2 I.uM abl.kp (Lh (us:=[]) abl F hr hb hd hx I .nil h)
end
structure rT (N P:M Str) (sc:fH):Prop where
 kind:sc.kind=.function
 co:sc.isCoroutine=B
 gen:sc.isGenerator=B
 nd:N.Nodup
 pre:N.take (zl P)=P
 par:∀x∈P,sc.names.lookup x=L .local\/sc.names.lookup x=L .cell
 nofree:∀y∈sc.names,y.2≠.free
theorem II{kindOf:Str->abM je}:∀{binds:M (Str×Z)}{m:Str->abM Z},(∀v,(x,v)∉binds)->Dg kindOf binds m x=m x
|[],_,_=>rfl
|(n,v)::r,m,h=>by
 unfold Dg;rw[II λw hw=>h w (ao _ hw)];split
 .grind
 .rfl
theorem IJ{kindOf:Str->abM je}:∀{binds:M (Str×Z)}{m:Str->abM Z},(∀v,(x,v)∉binds)->Dh kindOf binds m x=m x
|[],_,_=>rfl
|(n,v)::r,m,h=>by
 unfold Dh;rw[IJ λw hw=>h w (ao _ hw)];split
 .rfl
 .grind
theorem IK{kindOf:Str->abM je}:∀{P:M Str}{vs:M Z}{i:Nat}{m:Str->abM Z},P.Nodup->P[i]?=L x->vs[i]?=L v->kindOf x=L .local->
 Dg kindOf (P.zip vs) m x=L v
|[],_,_,_,_,h,_,_=>by simp at h
|_::_,[],_,_,_,_,h,_=>by simp at h
|p::P,w::vs,0,m,nd,h1,h2,hk=>by
 simp at h1 h2;subst h1;subst h2;show Dg kindOf ((p,w)::P.zip vs) m p=_;unfold Dg;rw[II λv hv=>(bX.mp nd).1 (yf hv).1,aF hk];simp
|p::P,w::vs,i+1,m,nd,h1,h2,hk=>by
 unfold Dg;exact IK (i:=i) (bX.mp nd).2 (by simpa using h1) (by simpa using h2) hk
theorem IL{kindOf:Str->abM je}:∀{P:M Str}{vs:M Z}{i:Nat}{m:Str->abM Z},P.Nodup->P[i]?=L x->vs[i]?=L v->kindOf x≠L .local->
 Dh kindOf (P.zip vs) m x=L v
|[],_,_,_,_,h,_,_=>by simp at h
|_::_,[],_,_,_,_,h,_=>by simp at h
|p::P,w::vs,0,m,nd,h1,h2,hk=>by
 simp at h1 h2;subst h1;subst h2;show Dh kindOf ((p,w)::P.zip vs) m p=_;unfold Dh;rw[IJ λv hv=>(bX.mp nd).1 (yf hv).1,aG hk];simp
|p::P,w::vs,i+1,m,nd,h1,h2,hk=>by
 unfold Dh;exact IL (i:=i) (bX.mp nd).2 (by simpa using h1) (by simpa using h2) hk
noncomputable def start(N:M Str)(vs:M V):St:=vs.map L++aR (zl N-zl vs) S
noncomputable def sL(CX:Bc)(P:bO)(w:bL)(K:ak)(mg:Str->abM Z)(base:Heap)(N:M Str)(qual:Str)(scope:fH)(f:Addr)(cd:Z)(A:cQ)(outer:M Env)(s:ay)(H:Hp)(E:XK):Cx where
 prog:=P
 w:=w
 K:=K
 mg:=mg
 base:=base
 A:=A.deeper (qQ qual scope s.heap.objs.size f cd)
 N:=N
 aho:=s
 ahy:=H
 env:=qQ qual scope s.heap.objs.size f cd
 outer:=outer
 stack:=qQ qual scope s.heap.objs.size f cd::outer
 ex:=[]
 calm:=W
 fn:=λ_=>W
 pn:=[]
 xe:=λe s'=>aT (aW P w) (A.deeper (qQ qual scope s.heap.objs.size f cd)) (leaving (qQ qual scope s.heap.objs.size f cd) e) (λ_ s''=>CX outer H s E e s'') (λe' s''=>CX outer H s E e' s'') s'
def Li{sc:fH}(h:sc.names.lookup x=L .cell):∃c,(gp n sc.names []).lookup x=L c:=by
 have q:=yI sc.names n [] (.inl h);exact Option.isSome_iff_exists.mp q
def Ru{P:bO}{w:bL}{K:ak}{mg:Str->abM Z}{base:Heap}{N ps:M Str}{qual:Str}{scope:fH}{f:Addr}{cd:Z}{A:cQ}{outer:M Env}{s s1:ay}{H:Hp}{E:XK}{us:M Z}{vs:M V}(abr:rT N ps scope)(hd:A.handled=S)(e0:Be P w K mg base A outer s H)(hl:zl vs=zl ps)(r:bP vs us)(x:InCallC s s.heap.objs.size (Dg (qQ qual scope s.heap.objs.size f cd).kindOf (ps.zip us) λ_=>S) (gp (s.heap.objs.size+1) scope.names []) (Dh (qQ qual scope s.heap.objs.size f cd).kindOf (ps.zip us) λ_=>S) s1):Inv (sL CX P w K mg base N qual scope f cd A outer s H E) [] (start N vs) H s1:=by
 have hpl:zl ps<=zl N:=by have:=jc uK abr.pre;rw[cR]at this;lia
 let#[h1,tk,rfl,hk]:=x.done;have noA:∀b:Addr,b∉(sL CX P w K mg base N qual scope f cd A outer s H E).ex:=λb z=>aH (show b∈([]:M Addr)from z) (by simp);refine#[#[e0.mod,abr.kind,rfl,rfl,aK _,λy z c h1 h2=>?_,λy hy=>?_,λy c _ h=>?_,λ_=>hd,Aq e0.frames,.inr #[rfl,rfl],λb z=>aH z (noA b),e0.bs,e0.bsz,λb _ _=>noA b,λb z=>aH z (noA b),e0.uc,e0.frf],
  rfl,e0.bare,Un.kept hk,#[_,x.toInCall.ns,λi y v h1 h2 h3=>?_],λy c h=>#[_,x.cell y c h],e0.hok.fresh (aK _),λy c h=>?_,λp hp=>aH (show p∈([]:M (Addr×Obj))from hp) (by simp),e0.hok.kept hk,?_]
 .exact name_of_addr x.apart (dO h1) (dO h2)
 .rcases hy with hy|hy
  .exact Li hy
  .exact aH rfl (abr.nofree _ (dO hy))
 .exact fP (x.above y c (dO h))
 .have hi:i<zl vs:=by
   unfold start at h2;by_cases hi:i<zl vs
   .exact hi
   .rw[dJ (by simpa using hi)]at h2;rw[lA]at h2;split at h2<;>cases h2
  have ha:vs[i]?=L v:=by
   unfold start at h2;rw[cI (by simpa using hi),bg]at h2;cases e:vs[i]? with
   |none=>rw[e]at h2;cases h2
   |some a=>rw[e]at h2;cases h2;rfl
  let#[u,hu,rv]:=r.get ha;have hp:ps[i]?=L y:=by
   rw[<-abr.pre,List.getElem?_take_of_lt (by lia)];exact h1
  have ndP:ps.Nodup:=by rw[<-abr.pre];exact abr.nd.sublist (List.take_sublist _ _)
  refine#[u,rv,?_];rcases abr.par y (fT hp)with k|k
  .exact .inl #[k,IK ndP hp hu k]
  .obtain⟨c,e⟩:=Li (n:=s.heap.objs.size+1) k;refine .inr #[.inl k,c,e,?_];have q:=x.cell y c e;rw[IL ndP hp hu (by show scope.names.lookup y≠_;rw[k];decide)]at q;exact q
 .exact e0.hok.fresh (fP (x.above y c (dO h)))
 .unfold start;show _=zl N;rw[bf,aa,jR]
  lia
def aeq{P:bO}{w:bL}{K:ak}{mg:Str->abM Z}{base:Heap}{k:Nat}{f:Addr}{name qual:Str}{params:sd}{body:M Stmt}{scope:fH}{dV kV doc pm cdv ct oc:Z}{an od:abM Addr}{osl:Array (abM Z)}{N ps:M Str}{sp:Sp}(lk:K.lookup f=L #[oc,od,.func (gy name qual params body scope dV kV doc pm an cdv ct),osl])(hcd:m6 K cdv qual=W)(abr:rT N ps scope)(len:∀vs H Q E,sp vs H Q E->zl vs=zl ps)(hbody:∀(A:cQ) (outer:M Env) (s:ay) (H:Hp) (vs:M V) (Q:VK) (E:XK),jV k (A.deeper (qQ qual scope s.heap.objs.size f cdv))->sp vs H Q E->
   ∃t,yT (sL CX P w K mg base N qual scope f cdv A outer s H E) body t/\t { nx:=λ_ H'=>Q .non H',rt:=Q } (start N vs) H):
  g_ P w K mg base CX (k+1) f (gy name qual params body scope dV kV doc pm an cdv ct) ps sp:=by
 refine#[len,λA outer s H args us vs Q E hr e0 hb r hsp=>?_];have hl:=len _ _ _ _ hsp;have KX:=e0.mod.kin.keeps λb o e=>(e0.bs b o e).1;have lim:=e0.mod.nolimit.keeps λb o e=>(e0.bs b o e).1;have hkind:∀y∈ps.zip us,scope.names.lookup y.1=L .local\/(scope.names.lookup y.1=L .cell/\((gp (s.heap.objs.size+1) scope.names []).lookup y.1).isSome=W):=λ⟨n,v⟩ hy=>by
  rcases abr.par n (yf hy).1 with q|q
  .exact .inl q
  .exact .inr #[q,yI _ _ _ (.inl q)]
 refine codeAny_call_function hr.depth (KX _ _ lk) rfl abr.co abr.gen rfl (Ui KX hcd) (hb _ _ _ _ ?_);refine wpAny_newFunctionEnv_cells abr.kind hkind λenv he s1 x=>?_;subst he;refine#[lim.keeps x.toInCall.keep,codeAny_func ?_];let#[t,ht,hq]:=hbody A outer s H vs Q E (hr.deeper _) hsp;have I:Inv (sL CX P w K mg base N qual scope f cdv A outer s H E) [] (start N vs) H s1:=Ru abr hr.hd e0 hl r x;refine gZ (ht [] s1 (start N vs) H _ I hq) (λfl s' hs=>?_) λe s' hs=>hs;have fin:∀{σ':St}{H':Hp}{v:V}{u:Z},Inv (sL CX P w K mg base N qual scope f cdv A outer s H E) [] σ' H' s'->RelV v u->Q v H'->CE outer P w H s Q u s':=
  λ{σ' H' v u} abt rv q=>#[v,H',abt.os,abt.bare,abt.base,abt.hok,rv,q]
 cases fl with
 |ret u=>
  let#[v,σ',H',abt,rv,q]:=hs;exact fin abt rv q
 |next=>
  let#[σ',H',abt,q]:=hs;exact fin (v:=V.non) (u:=eN) abt rfl q
 |brk=>
  let#[_,_,_,q]:=hs;exact aC q
 |cont=>
  let#[_,_,_,q]:=hs;exact aC q
end L2
end
section
namespace HT
open PySem PyProof.Rows
section
variable{prog:bO}{w:bL}{A:cQ}{E:Z->ay->Prop}{s:ay}
def Zl{Q:Z->ay->Prop}(ht:IsTup s.heap t vs.toArray)(hb:IsTup s.heap b ws.toArray)(hv:vs≠[])(h1:ws=[]->Q (.ref t) s)(h2:ws≠[]->Q (.ref s.heap.objs.size) { s with heap:=s.heap.push { cls:=.type "tuple",data:=.seq (vs++ws).toArray } })(hsz:zl vs+zl ws<=aj):aT (aW prog w) A (jA .Add (.ref t) (.ref b)) Q E s:=by
 let#[#[cls,dd,data,sl],ho,hc,n,hd]:=id ht;let#[#[cls2,dd2,data2,sl2],ho2,hc2,n2,hd2]:=id hb;simp only at hc hd hc2 hd2;subst hc hd hc2 hd2;have e:vs.toArray++ws.toArray=(vs++ws).toArray:=by simp
 by_cases hw:ws=[]
 .exact MZ #[_,ho,rfl] #[_,ho2,rfl] E5 Kq yJ xB (xh _ _)
   (tuple_addW1 t b vs.toArray ws.toArray n n2 dd dd2 sl sl2 (by simpa using hv) (by simp[hw])) #[ho,ho2,h1 hw]
 .refine MZ #[_,ho,rfl] #[_,ho2,rfl] E5 Kq yJ xB (xh _ _)
   (tuple_addW2 t b vs.toArray ws.toArray n n2 dd dd2 sl sl2 (by simpa using hv) (by simpa using hw) (by rw[aV,aV];exact hsz)) #[ho,ho2,?_]
  rw[e];exact h2 hw
noncomputable def oH(n d:Nat):abM J->Nat
|none=>d
|some v=>if v<0 then(v+(n:J)).toNat else min v.toNat n
theorem Lj(n d:Nat):oH n d S=d:=rfl
theorem NX(n d k:Nat):oH n d (L (k:J))=min k n:=by rfl
def ab2(n d:Nat)(hd:d<=n)(o:abM J):oH n d o<=n:=by
 cases o with
 |none=>exact hd
 |some v=>
  show(if v<0 then(v+(n:J)).toNat else min v.toNat n)<=n;by_cases hv:v<0
  .rw[aF hv];lia
  .rw[aG hv];exact Nat.min_le_right _ _
end
end HT
namespace L2
open PySem PySem.Spec PyProof.Rows
abbrev TO:=St->Hp->(abM J->Hp->Prop)->Prop
def PO(X:Cx)(e:abM Expr)(t:TO):Prop:=
 ∀(pins:M (Addr×Obj)) (s:ay) (U:St) (H:Hp) (Q:abM J->Hp->Prop),Inv X pins U H s->t U H Q->
  aT (aW X.prog X.w) X.A (evalPart e X.env) (λu s'=>∃o H',Inv X pins U H' s'/\Uj u o/\Q o H') X.xe s
noncomputable def Zm:TO:=λ_ H Q=>Q S H
section
variable{X:Cx}{e:Expr}{te:TE}{lo hi:abM Expr}{tl th:TO}{pos p2:Pos}
def Zn:PO X S Zm:=by
 intro pins s U H Q I h;rw[Kr];exact aL #[S,H,I,.none,h]
def SlR(X:Cx)(r:V->abM J->abM J->Hp->VK->Prop):Prop:=
 ∀(pins:M (Addr×Obj)) (s:ay) (U:St) (H:Hp) (x:V) (v vl vu:Z) (lo hi:abM J) (sl:Addr) (Q:VK),Inv X pins U H s->RelV x v->s.heap.IsSliceOf sl vl vu .none->Uj vl lo->Uj vu hi->r x lo hi H Q->
  ∃T id,Al (.type T) "__getitem__"=pure (L (.builtin id))/\s.TypeIs v T/\aT (aW X.prog X.w) X.A (zy v (.ref sl)) (EP X pins U Q) X.xe s
def tSl(r:V->abM J->abM J->Hp->VK->Prop)(te:TE)(tl th:TO):TE:=λU H Q=>te U H λx H1=>tl U H1 λl H2=>th U H2 λu H3=>r x l u H3 Q
def UT{r:V->abM J->abM J->Hp->VK->Prop}(hr:SlR X r)(he:PE X e te)(hl:PO X lo tl)(hu:PO X hi th):PE X (.Subscript e (.Slice lo hi S p2) pos) (tSl r te tl th):=by
 intro pins s U H Q I h;refine QS (bA (he pins s U H _ I h) λv s1 ⟨x,H1,I1,r1,q1⟩=>?_);refine wpAny_Slice (bA (hl pins s1 U H1 _ I1 q1) λvl s2 ⟨l,H2,I2,pl,q2⟩=>bA (hu pins s2 U H2 _ I2 q2) λvu s3 ⟨u,H3,I3,pu,q3⟩=>?_);rw[Kr];refine aL ?_;have I4:Inv X pins U H3 { s3 with heap:=s3.heap.push { cls:=.type "slice",data:=.fields (List.toArray [vl,vu,.none]) } }:=I3.kept (t':=s3.toks) λb ob q=>az _ q;let#[T,id,hT,ht,hg]:=hr pins { s3 with heap:=s3.heap.push { cls:=.type "slice",data:=.fields (List.toArray [vl,vu,.none]) } } U H3 x v vl vu l u s3.heap.objs.size Q I4 r1 (Uk ..) pl pu q3;exact tail_any (ops:=[.ref s3.heap.objs.size,v]) ht hT hg (by rfl)
noncomputable def O4(xs:M V)(lo hi:abM J):M V:=(xs.drop (HT.oH (zl xs) 0 lo)).take (HT.oH (zl xs) (zl xs) hi-HT.oH (zl xs) 0 lo)
def Nk(xs:M V)(lo hi:abM J):zl (O4 xs lo hi)<=zl xs:=by
 unfold O4;rw[cR,dz]
 lia
def aer(K:ak):R2:=λx y H Q=>∃a b xs ys,x=.ref a/\y=.ref b/\tZ K H a xs/\tZ K H b ys/\xs≠[]/\zl xs+zl ys<=aj /\
 (ys=[]->Q (.ref a) H)/\(ys≠[]->∀p,H p=S->Q (.ref p) (upd H p (.tup (xs++ys))))
def bP.Ho(r:bP xs us):us=[]↔xs=[]:=by
 cases r with
 |nil=>simp
 |cons _ _=>simp
def Zo:nM X (jA .Add) (aer X.K):=by
 intro pins s U H x y v u Q I rx ry h;let#[a,b,xs,ys,rfl,rfl,ha,hb,hx,hz,q1,q2]:=h;cases rx;cases ry;let#[its,r1,p1,_]:=I.tuple ha;let#[its2,r2,p2,_]:=I.tuple hb;refine HT.Zl p1 p2 (λz=>hx (r1.Ho.mp z)) (λz=>#[.ref a,H,I,rfl,q1 (r2.Ho.mp z)]) (λz=>?_) (by rw[<-r1.length,<-r2.length];exact hz);refine#[.ref s.heap.objs.size,_,I.laid (t':=s.toks) (o:=.tup (xs++ys)) (λb ob q=>az _ q) (aK _) ?_,rfl,q2 (λw=>z (r2.Ho.mpr w)) _ (I.hok.fresh (aK _))];exact#[by rw[bf];exact hz,_,r1.append r2,IsTup.new _ _]
end
end L2
namespace L2
open PySem PySem.Spec PyProof.Rows
noncomputable def iU(n:Nat)(i:J):abM Nat:=if 0<=i then(if i<n then L i.toNat else S)else if -(n:J)<=i then L (i+n).toNat else S
def dj{α:Type}(xs:M α)(i:J):abM α:=(iU (zl xs) i).bind λj=>xs[j]?
def NY(h:iU n i=L j):seqIndex? i n=L j/\j<n/\-(n:J)<=i/\i<n:=by
 unfold iU at h;by_cases h0:0<=i
 .rw[aF h0]at h;by_cases h1:i<n
  .rw[aF h1]at h;have e:=cB h;exact#[by rw[yK h0 h1,e],by omega,by lia,h1]
  .rw[aG h1]at h;cases h
 .rw[aG h0]at h;by_cases h1:-(n:J)<=i
  .rw[aF h1]at h;have e:=cB h;exact#[by rw[xj (by lia) h1,e],by lia,h1,by lia]
  .rw[aG h1]at h;cases h
def ud{α:Type}{xs:M α}{i:J}{v:α}(h:dj xs i=L v):∃j,seqIndex? i (zl xs)=L j/\xs[j]?=L v/\j<zl xs/\-(zl xs:J)<=i/\i<zl xs:=by
 unfold dj at h;cases e:iU (zl xs) i with
 |none=>rw[e]at h;cases h
 |some j=>
  rw[e]at h;let#[h1,h2,h3,h4]:=NY e;exact#[j,h1,h,h2,h3,h4]
def lC{α:Type}{xs:M α}{j:Nat}{v:α}(h:xs[j]?=L v):dj xs (j:J)=L v:=by
 have hj:=(bN.mp h).1;have e:iU (zl xs) (j:J)=L j:=by
  unfold iU;rw[aF (by lia),aF (by lia)];simp
 unfold dj;rw[e];exact h
def zM{α:Type}(xs:M α)(v:α):dj (xs++[v]) (-1)=L v:=by
 have hl:zl (xs++[v])=zl xs+1:=by simp
 have e:iU (zl (xs++[v])) (-1)=L (zl xs):=by
  unfold iU;rw[hl,aG (by decide),aF (by lia)];congr 1
  lia
 unfold dj;rw[e];simp
def NZ(b:Expr):Prop:=∀o i,Ed b B o i=operate [o,i] (zy o i)
def N1(X:Cx)(r:R2):Prop:=
 ∀(value slice:Expr) (pins:M (Addr×Obj)) (s:ay) (U:St) (H:Hp) (x y:V) (v u:Z) (Q:VK),Inv X pins U H s->RelV x v->RelV y u->r x y H Q->
  Ed slice B v u=operate [v,u] (zy v u)->aT (aW X.prog X.w) X.A (Ks value slice v u) (EP X pins U Q) X.xe s
section
variable{X:Cx}{a b:Expr}{ta tb:TE}{pos:Pos}
def aes(hr:N1 X r)(ha:PE X a ta)(hb:PE X b tb)(hs:NZ b):PE X (.Subscript a b pos) (tOp r ta tb):=by
 intro pins s U H Q I h;exact QS (UO ha hb I h λv u s2 x y H2 I2 rx ry q=>hr a b pins s2 U H2 x y v u Q I2 rx ry q (hs _ _))
def rIxL(K:ak):R2:=λx y H Q=>∃p xs i v,x=.ref p/\y=.int i/\jh K H p xs/\dj xs i=L v/\Q v H
def rIxT(K:ak):R2:=λx y H Q=>∃p xs i v,x=.ref p/\y=.int i/\tZ K H p xs/\dj xs i=L v/\Q v H
def rIxS:R2:=λx y H Q=>∃z i c,x=.str z/\y=.int i/\z.length<=aj/\dj z.cps.toList i=L c/\Q (.str ⟨#[c]⟩) H
def Zp:N1 X (rIxL X.K):=by
 intro value slice pins s U H x y v u Q I rx ry h hs;let#[p,xs,i,z,rfl,rfl,hq,he,q]:=h;cases rx;let#[t,rfl]:=ry;let#[its,r,pl,hz]:=I.list hq;let#[j,h1,h2,h3,h4,h5]:=ud he;let#[w,ew,rw']:=r.get h2;have hl:=r.length;have hn:=wj;have fin:EP X pins U Q w s:=#[z,H,I,rw',q];by_cases h0:0<=i
 .have hj:i.toNat=j:=by
   rw[yK h0 h5]at h1;exact cB h1
  exact item_listR pl.isList h0 (by lia) (by rw[hj];simpa using ew) fin hs
 .have hj:(i+(its.toArray.size:J)).toNat=j:=by
   rw[xj (by lia) h4]at h1;rw[aV,<-hl];exact cB h1
  exact yL (x:=w) pl.isList.typeIs Dq.lookup
   (yM (Q:=λr s'=>r=w/\EP X pins U Q r s') pl.isList (by lia) (by rw[aV]<;>lia) (by lia) (by rw[hj];simpa using ew) #[rfl,fin]) hs
def ab4:N1 X (rIxT X.K):=by
 intro value slice pins s U H x y v u Q I rx ry h hs;let#[p,xs,i,z,rfl,rfl,hq,he,q]:=h;cases rx;let#[t,rfl]:=ry;let#[its,r,pl,hz]:=I.tuple hq;let#[j,h1,h2,h3,h4,h5]:=ud he;let#[w,ew,rw']:=r.get h2;have hl:=r.length;have hn:=wj;have fin:EP X pins U Q w s:=#[z,H,I,rw',q];exact yL (x:=w) pl.typeIs Cy.lookup
  (getItem_tuple (j:=j) (Q:=λr s'=>r=w/\EP X pins U Q r s') pl (by lia) (by lia) (by simp_all) (by simpa using ew) #[rfl,fin]) hs
def ab5:N1 X rIxS:=by
 intro value slice pins s U H x y v u Q I rx ry h hs;let#[z,i,c,rfl,rfl,hz,he,q]:=h;let#[t,rfl]:=rx;let#[t',rfl]:=ry;let#[j,h1,h2,h3,h4,h5]:=ud he;have hl:z.cps.toList.length=z.length:=by rfl
 rw[hl]at h1 h4 h5;have hn:=wj;exact tail_any (G0 s z t) E6.lookup (getItem_str (c:=c) (by
  have e1:decide (i < -(2 ^ 63:J))=B:=bW (by lia);have e2:decide (i≥2 ^ 63)=B:=bW (by lia);rw[e1,e2,AS]) (by rw[h1];simpa using h2) #[.str ⟨#[c]⟩,H,I.tok _,#[_,rfl],q]) hs
def O5(its:M Z)(n j:Nat)(u:Z):c_ (·.setIfInBounds j u) { cls:=.type "list",data:=.seq its.toArray n }={ cls:=.type "list",data:=.seq (its.set j u).toArray n }:=by
 simp[c_]
def Inv.lst{pins:M (Addr×Obj)}{U:St}{H:Hp}{s:ay}{p:Addr}{xs:M V}(I:Inv X pins U H s)(h:H p=L (.lst xs)):∃(its:M Z) (n:Nat),bP xs its/\s.heap.get? p=L { cls:=.type "list",data:=.seq its.toArray n }/\zl xs<=aj:=by
 let#[z,its,n,r,e]:=I.hok p _ h;exact#[its,n,r,e,z]
def Inv.ab6{U:St}{H:Hp}{s:ay}{p:Addr}{xs ys:M V}{its its':M Z}{n n':Nat}{f:Obj->Obj}(I:Inv X pins U H s)(h:H p=L (.lst xs))(ho:s.heap.get? p=L { cls:=.type "list",data:=.seq its.toArray n })(hf:f { cls:=.type "list",data:=.seq its.toArray n }={ cls:=.type "list",data:=.seq its'.toArray n' })(r:bP ys its')(hz:zl ys<=aj)(t:Nat):Inv X pins U (upd H p (.lst ys)) { s with heap:=s.heap.update p f,toks:=t }:=by
 have e:(s.heap.update p f).get? p=L { cls:=.type "list",data:=.seq its'.toArray n' }:=by
  rw[se f ho (by rw[hf]<;>rfl),hf]
 refine I.write (x:=p) (e:=p) (by rw[h];trivial) (.inl rfl) (λb u hb q=>(mh _ _ (gf hb)).trans q) #[_,e] ?_;exact#[hz,its',n',r,e]
def X_:V->V->V->Hp->(Hp->Prop)->Prop:=λo i v H Q=>∃p xs k j,o=.ref p/\i=.int k/\H p=L (.lst xs)/\iU (zl xs) k=L j/\Q (upd H p (.lst (xs.set j v)))
def set_list:OW X X_:=by
 intro pins s U H o i v ov iv u Q I ro ri rv h;let#[p,xs,k,j,rfl,rfl,hp,hj,q]:=h;cases ro;let#[t,rfl]:=ri;let#[its,n,r,ho,hz]:=I.lst hp;let#[h1,h2,h3,h4]:=NY hj;have hl:=r.length;have hn:=wj;have I':Inv X pins U (upd H p (.lst (xs.set j v))) { s with heap:=s.heap.update p (c_ (·.setIfInBounds j u)) }:=
  I.ab6 hp ho (O5 its n j u) (r.set rv j) (by rw[jS];exact hz) s.toks
 by_cases h0:0<=k
 .have hk:k.toNat=j:=by
   rw[yK h0 h4]at h1;exact cB h1
  exact XU ho h0 (by lia) (by rw[aV,<-hl];exact h4) (by rw[hk];exact#[_,I',q])
 .have hk:(k+(its.toArray.size:J)).toNat=j:=by
   rw[xj (by lia) h3]at h1;rw[aV,<-hl];exact cB h1
  exact Ul ho (by lia) (by rw[aV,<-hl];exact h3) (by lia) (by rw[hk];exact#[_,I',q])
def Lk(lo hi:abM J)(n:Nat):(uL lo hi S n).1=((HT.oH n 0 lo:Nat):J)/\(uL lo hi S n).2.1=((HT.oH n n hi:Nat):J)/\(uL lo hi S n).2.2=1:=by
 refine#[?_,?_,rfl]
 .cases lo with
  |none=>rfl
  |some i=>
   simp only[uL,HT.oH,E7,show(1:J)>0 by decide,jT];by_cases h:i<0
   .simp only[h,jT]<;>lia
   .simp only[h,iF]<;>lia
 .cases hi with
  |none=>rfl
  |some i=>
   simp only[uL,HT.oH,E7,show(1:J)>0 by decide,jT];by_cases h:i<0
   .simp only[h,jT]<;>lia
   .simp only[h,iF]<;>lia
def J5(its:M Z)(lo hi:abM J):slicePick its.toArray lo hi S=((its.drop (HT.oH (zl its) 0 lo)).take (HT.oH (zl its) (zl its) hi-HT.oH (zl its) 0 lo)).toArray:=by
 let#[h1,h2,h3]:=Lk lo hi its.toArray.size;unfold slicePick;rw[h1,h2,h3];simp only[sliceRange_one,pick_run,aV]<;>rfl
def rSlL(K:ak):V->abM J->abM J->Hp->VK->Prop:=λx lo hi H Q=>∃a xs,x=.ref a/\jh K H a xs/\∀p,H p=S->Q (.ref p) (upd H p (.lst (O4 xs lo hi)))
def Zq:SlR X (rSlL X.K):=by
 intro pins s U H x v vl vu lo hi sl Q I rx hs pl pu h;let#[a,xs,rfl,hx,q]:=h;cases rx;let#[its,r,ht,hz]:=I.list hx;have hlen:=r.length;refine#["list",_,Dq.lookup,ht.isList.typeIs,?_];refine wpAny_getItem_list_slice ht.isList hs pl pu .none (by simp) ?_ (by simp_all);rw[J5,<-hlen];refine#[.ref s.heap.objs.size,_,I.laid (t':=s.toks) (o:=.lst (O4 xs lo hi)) (λb ob q=>az _ q) (aK _) ?_,rfl,q _ (I.hok.fresh (aK _))];exact#[cH (Nk xs lo hi) hz,_,0,(r.drop (HT.oH xs.length 0 lo)).take (HT.oH xs.length xs.length hi-HT.oH xs.length 0 lo),aS _ rfl]
def Ll:mE X (.builtin "len") (λxs H Q=>∃p ys,xs=[.ref p]/\(jh X.K H p ys\/tZ X.K H p ys)/\Q (.int ys.length) H):=by
 intro pins s U H xs us Q I r h;let#[p,ys,rfl,hq,q]:=h;let#[u,rfl,rx]:=vals1 r;cases rx;have hn:=wj;rcases hq with hq|hq
 .obtain⟨its,r',pl,hz⟩:=I.list hq;have hlen:=r'.length;exact Calls.call_len_list pl.isList (by simp only[aV]<;>lia) #[.int ys.length,H,I.tok _,#[s.toks+1,by rw[aV,hlen]],q]
 .obtain⟨its,r',pl,hz⟩:=I.tuple hq;have hlen:=r'.length;exact len_tuple pl (by simp only[aV]<;>lia) #[.int ys.length,H,I.tok _,#[s.toks+1,by rw[aV,hlen]],q]
def Lm:mE X (.builtin "len") (λxs H Q=>∃z,xs=[.str z]/\z.length<=aj/\Q (.int z.length) H):=by
 intro pins s U H xs us Q I r h;let#[z,rfl,hz,q]:=h;let#[u,rfl,t,rfl]:=vals1 r;have hn:=wj;exact len_str (by lia) #[.int z.length,H,I.tok _,#[_,rfl],q]
def Ln:mE X (.type "list") (λxs H Q=>∃p ys,xs=[.ref p]/\(jh X.K H p ys\/tZ X.K H p ys)/\∀l,H l=S->Q (.ref l) (upd H l (.lst ys))):=by
 intro pins s U H xs us Q I r h;let#[p,ys,rfl,hq,q]:=h;let#[u,rfl,rx]:=vals1 r;cases rx;have fin:∀(its:M Z),bP ys its->ys.length<=aj->∀(h':Heap) (c':Nat),(∀b o',s.heap.get? b=L o'->h'.get? b=L o')->
   h'.get? s.heap.objs.size=L { cls:=.type "list",dict:=S,data:=.seq its.toArray c',slots:=#[] }->EP X pins U Q (.ref s.heap.objs.size) { s with heap:=h' }:=λits r' hz h' c' kp e=>
  #[.ref s.heap.objs.size,_,I.laid (t':=s.toks) kp (aK _) (show fX X.prog X.w _ h' _ (.lst ys)from#[hz,its,c',r',e]),rfl,q _ (I.hok.fresh (aK _))]
 rcases hq with hq|hq
 .obtain⟨its,r',pl,hz⟩:=I.list hq;have hlen:=r'.length;let#[o,ho,hc,n,hd]:=pl.isList;exact Ku p (.inl rfl) ho hc hd (λh' c' kp e=>fin its r' hz h' c' kp e) (by simp only[aV]<;>lia)
 .obtain⟨its,r',pl,hz⟩:=I.tuple hq;have hlen:=r'.length;let#[o,ho,hc,n,hd]:=pl;exact Ku p (.inr rfl) ho hc hd (λh' c' kp e=>fin its r' hz h' c' kp e) (by simp only[aV]<;>lia)
def J6:mE X (.type "tuple") (λxs H Q=>∃p ys,xs=[.ref p]/\((jh X.K H p ys/\∀l,H l=S->Q (.ref l) (upd H l (.tup ys)))\/(tZ X.K H p ys/\Q (.ref p) H))):=by
 intro pins s U H xs us Q I r h;let#[p,ys,rfl,h]:=h;let#[u,rfl,rx]:=vals1 r;cases rx;rcases h with⟨hq,q⟩|⟨hq,q⟩
 .obtain⟨its,r',pl,hz⟩:=I.list hq;have hlen:=r'.length;refine call_tuple_list pl.isList (λh' kp=>?_) (by grind);have I1:=I.kept (t':=s.toks) kp;have I2:Inv X pins U (upd H h'.objs.size (.tup ys)) { s with heap:=h'.push { cls:=.type "tuple",data:=.seq its.toArray } }:=
   I1.laid (t':=s.toks) (λb o e=>az _ e) (aK _) (show fX X.prog X.w _ _ _ (.tup ys)from#[hz,its,r',IsTup.new _ _])
  exact#[.ref h'.objs.size,_,I2,rfl,q _ (I1.hok.fresh (aK _))]
 .obtain⟨its,r',pl,hz⟩:=I.tuple hq;exact call_tuple_same pl #[.ref p,H,I,rfl,q]
def Rv(K:ak)(T:String)(x:V)(H:Hp):Prop:=match x with
|.str _=>T="str"
|.int _=>T="int"
|.ref p=>(T="list"/\∃xs,jh K H p xs)\/(T="tuple"/\∃o,K.lookup p=L o/\o.cls=.type "tuple"/\o.dict=S) \/
  (T="dict"/\((∃kvs,H p=L (.dK kvs))\/∃kvs,H p=L (.dT kvs)))\/(T="set"/\∃abr n,H p=L (.set abr n))
|_=>bu
def Ft(I:Inv X pins U H s)(r:RelV x v)(ty:Rv X.K T x H):s.TypeIs v T/\∀a,v=.ref a->∃ob,s.heap.get? a=L ob/\ob.dict=S:=by
 cases x with
 |str z=>
  let#[t,rfl]:=r;cases(show T="str" from ty);exact#[G0 s z t,λ_ e=>nomatch e]
 |int i=>
  let#[t,rfl]:=r;cases(show T="int" from ty);exact#[G1 s i t,λ_ e=>nomatch e]
 |ref p=>
  cases r;rcases ty with⟨rfl,xs,hq⟩|⟨rfl,o,hk,hc,hd⟩|⟨rfl,hk⟩|⟨rfl,abr,n,hk⟩
  .obtain⟨its,_,pl,_⟩:=I.list hq;refine#[pl.isList.typeIs,λa e=>?_];cases e;let#[o,n,e,c,hd,_]:=pl;exact#[o,e,hd]
  .refine#[#[o,I.uM p o hk,hc],λa e=>?_];cases e;exact#[o,I.uM _ o hk,hd]
  .have z:∃o,s.heap.get? p=L o/\o.ExactDict:=by
    rcases hk with⟨kvs,hk⟩|⟨kvs,hk⟩
    .obtain⟨_,_,_,_,o,_,_,e,ex,_⟩:=I.hok p _ hk;exact#[o,e,ex]
    .obtain⟨_,_,_,_,o,_,_,e,ex,_⟩:=I.hok p _ hk;exact#[o,e,ex]
   let#[o,e,ex]:=z;refine#[#[o,e,ex.1],λa e2=>?_];cases e2;exact#[o,e,ex.2.1]
  .obtain⟨o,_,_,_,e,ex,_⟩:=I.hok p _ hk;refine#[#[o,e,ex.1],λa e2=>?_];cases e2;exact#[o,e,ex.2.1]
 |_=>exact aC ty
variable{o e:Expr}{es:M Expr}{to:TE}{t:TA}{name:Str}{apos cpos:Pos}{T id:String}{r:V->M V->Hp->VK->Prop}
end
end L2
namespace L2
open PySem PySem.Spec PyProof.Rows
def MtM(X:Cx)(id:String)(r:V->M V->Hp->VK->Prop):Prop:=
 ∀(pins:M (Addr×Obj)) (s:ay) (U:St) (H:Hp) (x:V) (xs:M V) (v:Z) (us:M Z) (Q:VK),Inv X pins U H s->RelV x v->bP xs us->r x xs H Q->
  aT (aW X.prog X.w) X.A (call (.builtin id) (v::us)) (EP X pins U Q) X.xe s
def bP.one:∀{x:V}{us:M Z},bP [x] us->∃u,us=[u]/\RelV x u
|_,_,.cons r .nil=>#[_,rfl,r]
def bP.reverse(h:bP xs us):bP xs.reverse us.reverse:=by
 induction h with
 |nil=>exact .nil
 |cons r t ih=>rw[ic,ic];exact bP.append ih (.cons r .nil)
theorem bP.rep(h:bP xs us):∀k:Nat,bP (aR k xs).flatten (aR k us).flatten
|0=>.nil
|k+1=>by
 rw[eB,eB,gC,gC];exact bP.append h (bP.rep h k)
theorem foldl_rep(its:M Z):∀(k:Nat) (acc:M Z),
 G2 (λx1 x2=>x1++x2) acc.toArray (aR k its.toArray)=(acc++(aR k its).flatten).toArray
|0,acc=>by simp
|k+1,acc=>by
 have e:acc.toArray++its.toArray=(acc++its).toArray:=by simp
 have e2:(acc++its)++(aR k its).flatten=acc++(aR (k+1) its).flatten:=by grind
 rw[<-e2,<-foldl_rep its k (acc++its),<-e,eB,G3]
section
variable{X:Cx}{pins:M (Addr×Obj)}{U:St}{H:Hp}{s:ay}{l b:Addr}{xs ys zs:M V}
def Inv.UU{its its':M Z}{f:Array Z->Array Z}{t':Nat}(I:Inv X pins U H s)(hH:H l=L (.lst xs))(e:s.heap.get? l=L { cls:=.type "list",data:=.seq its.toArray n })(hf:f its.toArray=its'.toArray)(hv:bP ys its')(hz:zl ys<=aj):Inv X pins U (upd H l (.lst ys)) { s with heap:=s.heap.update l (c_ f),toks:=t' }:=by
 have q:=E8 e f;rw[hf]at q;refine I.write (x:=l) (e:=l) (by rw[hH];exact trivial) (.inl rfl) (λb' u hb hu=>(mh s.heap (c_ f) (gf hb)).trans hu) #[_,q] ?_;exact#[hz,its',_,hv,q]
def Inv.ab8{t':Nat}(I:Inv X pins U H s)(hv:bP ys its)(hz:zl ys<=aj):Inv X pins U (upd H s.heap.objs.size (.lst ys)) { s with heap:=s.heap.push { cls:=.type "list",data:=.seq its.toArray },toks:=t' }:=
 I.laid (λ_ _ q=>az _ q) (aK _) #[hz,its,0,hv,aS _ rfl]
def Inv.fresh(I:Inv X pins U H s):H s.heap.objs.size=S:=I.hok.fresh (aK _)
def Inv.O6(I:Inv X pins U H s)(hH:H l=L (.lst xs)):xs.length<=aj/\∃(its:M Z) (n:Nat),bP xs its/\xs.length=its.length/\s.heap.get? l=L { cls:=.type "list",data:=.seq its.toArray n }:=by
 let#[z,its,n,r,e]:=I.hok l _ hH;exact#[z,its,n,r,r.length,e]
def Lo(h:n<=aj):pD n=B:=by
 exact bW (by lia)
end
section
variable{X:Cx}
def Zr:V->M V->Hp->VK->Prop:=λx vs H Q=>∃l xs y,x=.ref l/\vs=[y]/\H l=L (.lst xs)/\zl xs<aj/\Q .non (upd H l (.lst (xs++[y])))
def Rw:MtM X "list.append" Zr:=by
 intro pins s U H x vs v us Q I rx rv h;let#[l,xs,y,rfl,rfl,hH,hz,q]:=h;cases rx;let#[u,rfl,ru]:=rv.one;let#[z,its,n,r,hl,e]:=I.O6 hH;refine nI F.slot_list_append #[_,e,rfl] F.entry_list_append (F.args_list_append_2 _ _) (Dr l its.toArray n u (by simp_all)) #[e,?_];refine#[.non,_,I.UU (its':=its++[u]) hH e (by simp) (r.append (.cons ru .nil)) ?_,rfl,q];rw[bf,f_]
 lia
def Zt:V->M V->Hp->VK->Prop:=λx vs H Q=>∃l b xs zs,x=.ref l/\vs=[.ref b]/\H l=L (.lst xs)/\H b=L (.lst zs)/\zl xs+zl zs<=aj/\Q .non (upd H l (.lst (xs++zs)))
def Rx:MtM X "list.extend" Zt:=by
 intro pins s U H x vs v us Q I rx rv h;let#[l,b,xs,zs,rfl,rfl,hH,hB,hz,q]:=h;cases rx;let#[u,rfl,ru]:=rv.one;cases ru;let#[z,its,n,r,hl,e]:=I.O6 hH;let#[z2,its2,n2,r2,hl2,e2]:=I.O6 hB;have hsz:its.toArray.size+its2.toArray.size<=aj:=by grind
 have hlong:¬(!its.toArray.isEmpty&&pD (its.toArray.size+its2.toArray.size))=W:=by
  rw[Lo hsz,p8];exact bU
 refine nI F.slot_list_extend #[_,e,rfl] F.entry_list_extend (F.args_list_extend_2 _ _)
  (E9 l its.toArray n b its2.toArray n2 hlong (by lia) (by lia)) #[e,e2,?_]
 refine#[.non,_,I.UU (its':=its++its2) hH e (by simp) (r.append r2) ?_,rfl,q];rw[bf];omega
def len_rep{α:Type}(xs:M α)(k:Nat):zl (aR k xs).flatten=k*zl xs:=by simp
end
end L2
end
section
namespace L2
open PySem PySem.Spec PyProof.Rows
section
variable{κ:Type} [eT κ]
noncomputable def jo(kvs:M (κ×V))(k:κ):abM V:=(kvs.find? λkv=>decide (kv.1=k)).map (·.2)
noncomputable def putK(kvs:M (κ×V))(k:κ)(v:V):M (κ×V):=
 if(kvs.any λkv=>decide (kv.1=k))=W then kvs.map (λkv=>if kv.1=k then(kv.1,v)else kv)else kvs++[(k,v)]
def Ej{p:κ×V}(e:p.1=k):jo (p::r) k=L p.2:=by simp[jo,iz,e]
def Ek{p:κ×V}(e:¬p.1=k):jo (p::r) k=jo r k:=by simp[jo,iz,e]
theorem Lp(k:κ):∀kvs:M (κ×V),(kvs.any λkv=>decide (kv.1=k))=(jo kvs k).isSome
|[]=>rfl
|p::r=>by
 rw[vB];by_cases e:p.1=k
 .simp only[Ej e,a_ e,M0,Cz]
 .rw[Ek e,bW e,Kv];exact Lp k r
def yo(kvs:M (κ×V))(k:κ)(v:V):zl (putK kvs k v)<=zl kvs+1:=by
 unfold putK;split
 .simp
 .simp
def sA.uQ(r:sA o u):o.isSome=u.isSome:=by
 cases o with
 |none=>cases u with
  |none=>rfl
  |some _=>exact(show bu from r).elim
 |some _=>cases u with
  |none=>exact(show bu from r).elim
  |some _=>rfl
def sA.getD(r:sA o u)(rd:RelV d d'):RelV (o.getD d) (u.getD d'):=by
 cases o with
 |none=>cases u with
  |none=>exact rd
  |some _=>exact(show bu from r).elim
 |some _=>cases u with
  |none=>exact(show bu from r).elim
  |some _=>exact r
def KV.val{kvs:M (κ×V)}(r:KV kvs vs)(k:κ):sA (jo kvs k) (v8 vs k):=by
 induction r with
 |nil=>exact nJ
 |@cons p q ps qs h t ih=>
  let#[h1,h2]:=h;by_cases e:p.1=k
  .have e':=h1.symm.trans e;have b:v8 (q::qs) k=L q.2:=by simp[v8,iz,e']
   rw[Ej e,b];exact h2
  .have e':¬q.1=k:=λz=>e (h1.trans z);have b:v8 (q::qs) k=v8 qs k:=by simp[v8,iz,e']
   rw[Ek e,b];exact ih
def KV.any(r:KV kvs vs)(k:κ):(kvs.any λkv=>decide (kv.1=k))=vs.any λkv=>decide (kv.1=k):=by
 induction r with
 |nil=>rfl
 |cons h t ih=>simp_all
def KV.repl(r:KV kvs vs)(k:κ)(ry:RelV y u):KV (kvs.map λkv=>if kv.1=k then(kv.1,y)else kv) (vs.map λkv=>if kv.1=k then(kv.1,u)else kv):=by
 induction r with
 |nil=>exact .nil
 |@cons p q ps qs h t ih=>
  rw[bJ,bJ];refine .cons ?_ ih;let#[h1,h2]:=h;by_cases e:p.1=k
  .rw[aF e,aF (h1.symm.trans e)];exact#[h1,ry]
  .rw[aG e,aG (λz=>e (h1.trans z))];exact#[h1,h2]
def KV.put(r:KV kvs vs)(k:κ)(ry:RelV y u):KV (putK kvs k y) (zu vs k u):=by
 unfold putK zu;rw[r.any k];by_cases e:(vs.any λkv=>decide (kv.1=k))=W
 .rw[aF e,aF e];exact r.repl k ry
 .rw[aG e,aG e];exact Paired.snoc r #[rfl,ry]
def KV.length(r:KV kvs vs):zl kvs=zl vs:=Paired.length r
end
def vN(r:RelV (kV k) u):(fq P w).is k u=W:=by
 cases k with
 |inl i=>let#[t,e]:=(show ∃t,u=Cn i t from r);subst e;exact Dz P w i t
 |inr x=>let#[t,e]:=(show ∃t,u=Co x t from r);subst e;exact DA P w x t
theorem IM:∀{ks:M Key}{us:M Z},bP (ks.map kV) us->ItemsAre (fq P w) ks us
|[],_,r=>by rw[gi]at r;cases r;exact .nil
|k::ks,_,r=>by
 rw[bJ]at r;cases r with
 |cons h t=>exact .cons (vN h) (IM t)
abbrev KT(H:Hp):M (M Key×V)->M (M Key×Addr×Z)->Prop:=Paired λp q=>p.1=q.1/\H q.2.1=L (.tup (p.1.map kV))/\RelV p.2 q.2.2
def KT.val{H:Hp}(r:KT H kvs xs)(k:M Key):sA (jo kvs k) ((yg xs k).map (·.2)):=by
 induction r with
 |nil=>exact nJ
 |@cons p q ps qs h t ih=>
  let#[h1,_,h2]:=h;by_cases e:p.1=k
  .have e':=h1.symm.trans e;have b:yg (q::qs) k=L q.2:=by simp[yg,iz,e']
   rw[Ej e,b];exact h2
  .have e':¬q.1=k:=λz=>e (h1.trans z);have b:yg (q::qs) k=yg qs k:=by simp[yg,iz,e']
   rw[Ek e,b];exact ih
def KT.repl(r:KT H kvs xs)(k:M Key)(ry:RelV y u):KT H (kvs.map λkv=>if kv.1=k then(kv.1,y)else kv) (xs.map (putAt k u)):=by
 induction r with
 |nil=>exact .nil
 |@cons p q ps qs h t ih=>
  rw[bJ,bJ];refine .cons ?_ ih;let#[h1,h2,h3]:=h;unfold putAt;by_cases e:p.1=k
  .rw[aF e,aF (h1.symm.trans e)];exact#[h1,h2,ry]
  .rw[aG e,aG (λz=>e (h1.trans z))];exact#[h1,h2,h3]
def KT.put(r:KT H kvs xs)(k:M Key)(hb:H b=L (.tup (k.map kV)))(ry:RelV y u):KT H (putK kvs k y) (sj xs k b u):=by
 have e:(kvs.any λkv=>decide (kv.1=k))=(yg xs k).isSome:=by
  rw[Lp,(r.val k).uQ,vJ]
 unfold putK sj;rw[e];by_cases q:(yg xs k).isSome=W
 .rw[aF q,aF q];exact r.repl k ry
 .rw[aG q,aG q];exact Paired.snoc r #[rfl,hb,ry]
def KT.keeps(r:KT H kvs xs)(ht:∀b ys,H b=L (.tup ys)->H' b=L (.tup ys)):KT H' kvs xs:=
 Paired.Hh r λ_ _ z=>#[z.1,ht _ _ z.2.1,z.2.2]
section
variable{P:bO}{w:bL}{H:Hp}{h:Heap}{a:Addr}
def O7(ok:gR P w H h)(e:Rd H a u):fX P w H h a u:=e.ok ok
def xK(ok:gR P w H h)(e:Rd H a (.dK kvs)):zl kvs<=aj/\(a==iC)=B/\∃vs,KV kvs vs/\h.DictOf (fq P w) a vs:=
 show fX P w H h a (.dK kvs)from O7 ok e
def aet(ok:gR P w H h)(e:H a=L (.dK kvs)):zl kvs<=aj/\(a==iC)=B/\∃vs,KV kvs vs/\h.DictOf (fq P w) a vs:=xK ok (.inl e)
def uR(ok:gR P w H h)(e:H a=L (.tup (ks.map kV))):(fy (fq P w)).is h ks a:=by
 let#[_,its,r,o,h1,h2,n,h3]:=(show fX P w H h a (.tup (ks.map kV))from ok a _ e);exact#[o,its.toArray,n,h1,h2,h3,by simpa using IM r]
def zN(ok:gR P w H h)(e:Rd H a (.dT kvs)):zl kvs<=aj/\(a==iC)=B /\
  ∃xs,KT H kvs xs/\h.DictOfH (fy (fq P w)) a xs:=by
 let#[z,y,xs,r,o,es,ep,h1,h2,h3,h4,h5]:=(show fX P w H h a (.dT kvs)from O7 ok e);refine#[z,y,xs,r,o,es,ep,h1,h2,h3,h4,λx hx=>?_,h5];have all:∀{l:M (M Key×V)}{m:M (M Key×Addr×Z)},KT H l m->∀x∈m,(fy (fq P w)).is h x.1 x.2.1:=by
  intro l m q;induction q with
  |nil=>grind
  |@cons p q ps qs hq t ih=>
   intro x hx;rcases be.mp hx with e|hx
   .subst e;exact uR ok (by rw[<-hq.1];exact hq.2.1)
   .exact ih x hx
 exact all r x hx
def aeu(ok:gR P w H h)(e:H a=L (.dT kvs)):zl kvs<=aj/\(a==iC)=B /\
  ∃xs,KT H kvs xs/\h.DictOfH (fy (fq P w)) a xs:=zN ok (.inl e)
end
def Bg(H:Hp)(a:Addr)(y:V)(r:abM V):Prop:=
 (∃kvs k,Rd H a (.dK kvs)/\y=kV k/\r=jo kvs k)\/∃kvs k b,Rd H a (.dT kvs)/\y=.ref b/\H b=L (.tup (k.map kV))/\r=jo kvs k
def DPut(H:Hp)(a:Addr)(y v:V)(H':Hp):Prop:=
 (∃kvs k,H a=L (.dK kvs)/\y=kV k/\zl kvs<aj/\H'=upd H a (.dK (putK kvs k v))) \/
 ∃kvs k b,H a=L (.dT kvs)/\y=.ref b/\H b=L (.tup (k.map kV))/\zl kvs<aj/\H'=upd H a (.dT (putK kvs k v))
section
variable{X:Cx}{pins:M (Addr×Obj)}{U:St}{H:Hp}{s:ay}{a:Addr}{y v:V}{u r:Z}{o:abM V}{A:cQ}{E:Z->ay->Prop}
def Inv.big(I:Inv X pins U H s):iC<s.heap.objs.size:=by
 have h:=(I.mod.glob.keeps I.bk).lt;exact kW (by decide) h
def Rz{Q:Z->ay->Prop}(hu:A.units+1<eS)(I:Inv X pins U H s)(g:Bg H a y (L v))(ry:RelV y u)(h:∀w' s',Inv X pins U H s'->RelV v w'->Q w' s'):aT (aW X.prog X.w) A (zy (.ref a) u) Q E s:=by
 rcases g with⟨kvs,k,e,ey,l⟩|⟨kvs,k,b,e,ey,eb,l⟩
 .subst ey;let#[z,hd,vs,rel,dd]:=xK I.hok e;let#[w',hw,rw']:=sA.some_of (v:=v) (o:=v8 vs k) (by rw[l];exact rel.val k);exact wpAny_getItem_of (vN ry) dd.mapOf hw (h w' _ (I.tok _) rw')
 .subst ey;cases(show u=bR b from ry);let#[z,hd,xs,rel,dd]:=zN I.hok e;let#[w',hw,rw']:=sA.some_of (v:=v) (o:=(yg xs k).map (·.2)) (by rw[l];exact rel.val k);let#[p,hp,hp2]:=yN.mp hw;refine wpAny_getItem_heap (jN hu) (uR I.hok eb) dd hp ?_;rw[hp2];exact h w' _ (I.tok _) rw'
def d_in{Q:Z->ay->Prop}(hu:A.units+1<eS)(I:Inv X pins U H s)(g:Bg H a y o)(ry:RelV y u)(h:∀s',Inv X pins U H s'->Q (.bool o.isSome) s'):aT (aW X.prog X.w) A (lU .In u (.ref a)) Q E s:=by
 rcases g with⟨kvs,k,e,ey,l⟩|⟨kvs,k,b,e,ey,eb,l⟩
 .subst ey;let#[z,hd,vs,rel,dd]:=xK I.hok e;refine wpAny_in_of (vN ry) hd dd.mapOf ?_;rw[<-(rel.val k).uQ,<-l];exact h _ (I.tok _)
 .subst ey;cases(show u=bR b from ry);let#[z,hd,xs,rel,dd]:=zN I.hok e;refine wpAny_in_heap (jN hu) (uR I.hok eb) hd dd ?_;have q:=(rel.val k).uQ;rw[vJ]at q;rw[<-q,<-l];exact h _ (I.tok _)
def Zu{Q:Z->ay->Prop}(hu:A.units+1<eS)(I:Inv X pins U H s)(g:Bg H a y o)(ry:RelV y u)(h:∀s',Inv X pins U H s'->Q (.bool (!o.isSome)) s'):aT (aW X.prog X.w) A (lU .NotIn u (.ref a)) Q E s:=by
 rcases g with⟨kvs,k,e,ey,l⟩|⟨kvs,k,b,e,ey,eb,l⟩
 .subst ey;let#[z,hd,vs,rel,dd]:=xK I.hok e;refine wpAny_notIn_of (vN ry) hd dd.mapOf ?_;rw[<-(rel.val k).uQ,<-l];exact h _ (I.tok _)
 .subst ey;cases(show u=bR b from ry);let#[z,hd,xs,rel,dd]:=zN I.hok e;refine wpAny_notIn_heap (jN hu) (uR I.hok eb) hd dd ?_;have q:=(rel.val k).uQ;rw[vJ]at q;rw[<-q,<-l];exact h _ (I.tok _)
def N2{t':Nat}(I:Inv X pins U H s)(mu:Rf (H a))(hs:jM a s.heap h')(he:∃q,h'.get? a=L q)(new:fX X.prog X.w (upd H a ob) h' a ob):Inv X pins U (upd H a ob) { s with heap:=h',toks:=t' }:=
 I.write (x:=a) (e:=a) mu (.inl rfl) (λb q hb z=>(hs.2 b hb).trans z) he new
def ab9(z:zl kvs<=aj)(hd:(a==iC)=B)(rel:KV kvs vs)(dd:h'.DictOf (fq P w) a vs):fX P w H' h' a (.dK kvs):=#[z,hd,vs,rel,dd]
def IP{Q:Unit->ay->Prop}(hu:A.units+1<eS)(I:Inv X pins U H s)(g:DPut H a y v H')(ry:RelV y u)(rv:RelV v r)(h:∀s',Inv X pins U H' s'->Q () s'):aT (aW X.prog X.w) A (Ip (.ref a) u r) Q E s:=by
 rcases g with⟨kvs,k,e,ey,l,eH⟩|⟨kvs,k,b,e,ey,eb,l,eH⟩
 .subst ey eH;let#[z,hd,vs,rel,dd]:=aet I.hok e;have hz:vs.length<=aj:=by rw[<-rel.length];exact z
  have hl:(putK kvs k v).length<=aj:=by have:=yo kvs k v;lia
  refine wpAny_setItem_pairs (hsz:=hz) (vN ry) dd λh' dd' hs=>h _ ?_;have he:∃q,h'.get? a=L q:=let⟨q,_,_,hq,_⟩:=dd';#[q,hq]
  exact N2 I (by rw[e];exact nJ) hs he (ab9 hl hd (rel.put k rv) dd')
 .subst ey eH;cases(show u=bR b from ry);let#[z,hd,xs,rel,dd]:=aeu I.hok e;have hz:xs.length<=aj:=by rw[<-Paired.length rel];exact z
  have hl:(putK kvs k v).length<=aj:=by have:=yo kvs k v;lia
  refine wpAny_setItem_heap (hsz:=hz) (jN hu) (uR I.hok eb) dd λh' dd' hs=>h _ ?_;let#[q,es,ep,hq,h2,h3,h4,_,h5]:=dd';refine N2 I (by rw[e];exact nJ) hs #[q,hq] #[hl,hd,_,(rel.put k eb rv).keeps λc ys ec=>?_,q,es,ep,hq,h2,h3,h4,h5];rw[aY (OU ec e (λz=>nomatch z))];exact ec
end
def Nl(I:Inv X pins U H s)(g:Bg H a y o):s.TypeIs (.ref a) "dict":=by
 rcases g with⟨kvs,k,e,_,_⟩|⟨kvs,k,b,e,_,_,_⟩
 .obtain⟨_,_,vs,_,dd⟩:=xK I.hok e;exact dd.typeIs
 .obtain⟨_,_,xs,_,dd⟩:=zN I.hok e;exact dd.typeIs
def UW(h:Heap)(hb:iC<h.objs.size):fX P w H (h.push { cls:=.type "dict",data:=.dict #[] }) h.objs.size (.dK []):=
 #[dg _,fi.mpr (gf (bG hb)),[],.nil,GW h]
def UX(h:Heap)(hb:iC<h.objs.size):fX P w H (h.push { cls:=.type "dict",data:=.dict #[] }) h.objs.size (.dT []):=
 #[dg _,fi.mpr (gf (bG hb)),[],.nil,_,#[],0,aS _ rfl,#[rfl,rfl,rfl],rfl,rfl,gA]
def ab_:TE:=λ_ H Q=>∀p,H p=S->Q (.ref p) (upd H p (.dK []))
def acd:TE:=λ_ H Q=>∀p,H p=S->Q (.ref p) (upd H p (.dT []))
section
variable{X:Cx}{pos:Pos}
def UY:PE X (.Dict [] [] pos) ab_:=λpins s U H Q I h=>
 E_ #[.ref s.heap.objs.size,_,I.laid (a:=s.heap.objs.size) (o:=.dK []) (t':=s.toks) (λ_ _ q=>az _ q) (aK _) (UW s.heap I.big),rfl,h _ (I.hok.fresh (aK _))]
def UZ:PE X (.Dict [] [] pos) acd:=λpins s U H Q I h=>
 E_ #[.ref s.heap.objs.size,_,I.laid (a:=s.heap.objs.size) (o:=.dT []) (t':=s.toks) (λ_ _ q=>az _ q) (aK _) (UX s.heap I.big),rfl,h _ (I.hok.fresh (aK _))]
end
def uS(kvs more:M (Key×V)):M (Key×V):=more.foldl (λacc kv=>putK acc kv.1 kv.2) kvs
def KV.merge:∀{more:M (Key×V)}{rs:M (Key×Z)}{kvs:M (Key×V)}{vs:M (Key×Z)},KV more rs->KV kvs vs->KV (uS kvs more) (merged vs rs):=by
 intro more rs kvs vs r;induction r generalizing kvs vs with
 |nil=>intro q;exact q
 |@cons p q ps qs h t ih=>
  intro r0;have e:KV (putK kvs p.1 p.2) (zu vs q.1 q.2):=by
   have:=r0.put p.1 h.2;rw[<-h.1];exact this
  exact ih e
section
variable{X:Cx}{pins:M (Addr×Obj)}{U:St}{H:Hp}{s:ay}{a:Addr}{y d:V}{u r:Z}{o:abM V}{A:cQ}{E:Z->ay->Prop}
def ace{Q:Z->ay->Prop}(hu:A.units+1<eS)(I:Inv X pins U H s)(g:Bg H a y o)(ry:RelV y u)(h:∀w' s',Inv X pins U H s'->RelV (o.getD .non) w'->Q w' s'):aT (aW X.prog X.w) A (call (.builtin "dict.get") [.ref a,u]) Q E s:=by
 rcases g with⟨kvs,k,e,ey,l⟩|⟨kvs,k,b,e,ey,eb,l⟩
 .subst ey;let#[z,hd,vs,rel,dd]:=xK I.hok e;refine tR m8 dd.typeIs mj (xC _ _) (meets_dict_get (fq X.prog X.w) a (vN ry) hd) #[_,dd.mapOf,h _ _ (I.tok _) ?_];rw[l];exact(rel.val k).getD rfl
 .subst ey;cases(show u=bR b from ry);let#[z,hd,xs,rel,dd]:=zN I.hok e;refine tR m8 dd.typeIs mj (xC _ _) (meetsH_dict_get (fy (fq X.prog X.w)) a b hd) #[jN hu,k,xs,uR I.hok eb,dd,h _ _ (I.tok _) ?_];rw[l];exact(rel.val k).getD rfl
def acf{Q:Z->ay->Prop}(hu:A.units+1<eS)(I:Inv X pins U H s)(g:Bg H a y o)(ry:RelV y u)(rd:RelV d r)(h:∀w' s',Inv X pins U H s'->RelV (o.getD d) w'->Q w' s'):aT (aW X.prog X.w) A (call (.builtin "dict.get") [.ref a,u,r]) Q E s:=by
 rcases g with⟨kvs,k,e,ey,l⟩|⟨kvs,k,b,e,ey,eb,l⟩
 .subst ey;let#[z,hd,vs,rel,dd]:=xK I.hok e;refine tR m8 dd.typeIs mj (xD _ _ _) (meets_dict_get_default (fq X.prog X.w) a (vN ry) hd r) #[_,dd.mapOf,h _ _ (I.tok _) ?_];rw[l];exact(rel.val k).getD rd
 .subst ey;cases(show u=bR b from ry);let#[z,hd,xs,rel,dd]:=zN I.hok e;refine tR m8 dd.typeIs mj (xD _ _ _) (meetsH_dict_get_default (fy (fq X.prog X.w)) a b hd r) #[jN hu,k,xs,uR I.hok eb,dd,h _ _ (I.tok _) ?_];rw[l];exact(rel.val k).getD rd
end
end L2
end
section
namespace Att
open PySem PySem.W PySem.Calls PyProof.Rows
def Fv:∀(ns:M J) (vs:M Z),WellAll P h vs (ns.map Um)->Di vs ns:=by
 intro ns;induction ns with
 |nil=>
  intro vs w;rw[gi]at w;cases w;exact .nil
 |cons n ns ih=>
  intro vs w;rw[bJ]at w;cases w with
  |cons a b=>
   cases a;exact .cons _ _ (ih _ b)
def RA{l:OP}(hn:l.most=L n)(hpre:l.row.toRowW.claim.pre args=W)(hwl:WellAll P h vals args):∃a vs ns,vals=[bR a]/\args=[WData.list (ns.map Um)]/\h.get? a=L { cls:=.type "list",data:=.seq vs.toArray }/\Di vs ns/\zl ns<=n:=by
 have hsh:=(QT hpre).1;have hc:=(QT hpre).2;let#[d,r,rfl,h1,h2]:=hasAllW_cons hsh;obtain rfl:=hasAllW_nil h2;let#[xs,rfl,h3]:=hasW_list h1;let#[ns,rfl]:=items_int h3;have hlen:zl ns<=n:=by
  have h4:(WTm.not (.lt (.lit (.int (n:J))) (.len (.arg 0)))).holds [] { args:=[.list (ns.map .int)] }=W:=by
   have h4:=(holds_andW hc).1;rw[hn]at h4;exact h4
  have h5:=condW_of h4 (w_not (w_lt w_lit (w_len_list (w_arg rfl))));rw[aa]at h5;refine Nat.le_of_not_lt λq=>?_;have q':(n:J)<((zl ns:Nat):J):=by omega
  (rw[a_ q']at h5;exact aH h5 (by decide))
 cases hwl with
 |cons w1 w2=>
  cases w2;cases w1 with
  |list ho hall=>exact#[_,_,ns,rfl,rfl,ho,Fv ns _ hall,hlen]
def RB(l:OP)(args:M WData):l.row.toRowW.claim.post args (.bool W) args=W:=
 postW_of (r:=l.row.toRowW) (X:=(W==W))
  (show QU [] (.bool W) .bool=W by first|rfl|decide|simp[QU,WShape.arms,WShape.armsAll])
  (show(WTm.eq .res (.lit (.bool W))).value [] { args:=args,res:=L (.bool W),after:=args }=L (.bool (W==W))from w_eq_bool (w_res rfl) w_lit) rfl
def Nm{l:OP}{XP:(Str->abM Z)->Heap->Prop}{YP:bL->Heap->Prop}(hn:l.most=L n)(hdf:d.params.defaults=[])(call:∀(w:bL) (aho ahq:ay) (mg mb:Str->abM Z) (fa:Addr) (o:Obj) (pm cd doc:Z) (a:Addr) (vs:M Z) (ns:M J),
   Ground q loose [] XP w aho mg mb ahq.heap->YP w ahq.heap->
   ahq.heap.get? fa=L o->o.data=.func (docDef d.name d.params d.body d.scope pm cd doc)->ahq.heap.CodeRec cd d.name->mg d.name=L (.ref fa)->
   ahq.heap.get? a=L { cls:=.type "list",data:=.seq vs.toArray }->Di vs ns->zl ns<=n->ahq.gens=#[]->
   kE (aW l.prog w) v9 (.call (.ref fa) #[[.ref a],[]]) (λr s'=>r=.ok (.ret (.bool W))/\OldK ahq.heap s'.heap/\s'.os=ahq.os/\p6 s'.gens) ahq):
  WalkO q loose XP YP l.row.toRowW d [] (λf vs=>G4 f vs):=by
 intro w aho ahq mg mb G ahj fa o pm cd doc dV kV ho hd hcd hD hmg hg args vals as hpre hlay hrd hwl hlo;obtain rfl:dV=.none:=Dflts.none hD hdf;obtain rfl:kV=.none:=Dflts.noKw hD;let#[a,vs,ns,rfl,rfl,hobj,hints,hlen]:=RA hn hpre hwl;refine enter_call (kU (call w aho ahq mg mb fa o pm cd doc a vs ns G ahj ho (fd_plain hd) hcd hmg hobj hints hlen hg) λr s' hq=>?_);let#[rfl,h2,h3,h4]:=hq;exact#[.inl #[.bool W,.bool W,[],rfl,λ_=>rfl,.bool W,RB l _,λ_=>#[UC,λ_ hm=>(nomatch hm)]],h2,h3,h4]
end Att
namespace L2
open PySem PySem.Spec PyProof.Rows
theorem IQ:∀{vs:M Z}{ns:M J},Di vs ns->bP (ns.map V.int) vs
|_,_,.nil=>.nil
|_,_,.cons n t h=>.cons #[t,rfl] (IQ h)
noncomputable def ue(b:Addr):abM HO:=(oY.lookup b).map λq=>.tbl #[.str q 0]
def U0(H:Hp):Prop:=∀b,(H b=S\/∃o xs,H b=L (.bq o (.lst xs)))\/∃q,oY.lookup b=L q/\H b=L (.tbl #[.str q 0])
def O8(K:ak)(h:Heap):Prop:=∀b q,oY.lookup b=L q->K.lookup b=S/\h.get? b=L { cls:=.none,data:=.fields #[] }/\isCodeTable h b
def RC(hn:(oY.map (·.1)).Nodup)(hp:p∈oY):oY.lookup p.1=L p.2:=by
 generalize oY=l at hn hp;induction l with
 |nil=>cases hp
 |cons x l ih=>
  rw[bJ,bX]at hn;rcases be.mp hp with rfl|hp
  .rw[dB];simp
  .have ne:(p.1==x.1)=B:=by
    rw[fi];intro z;exact hn.1 (by rw[<-z];exact List.mem_map_of_mem hp)
   rw[dB,ne];exact ih hn.2 hp
def U1{w:bL}{K:ak}{mg mb:Str->abM Z}{CX:Bc}{k:Nat}{fa a:Addr}{fd:fc}{x:Str}{sp:Sp}{ahq:ay}{vs:M Z}{ns:M J}(KX:K.In ahq.heap)(hns:ahq.heap.Ns eU mg)(hb:ahq.heap.Ns pZ mb)(hbb:∀x:Str,x≠"__name__"->mb x=tP x)(hlim:ahq.heap.NoLimit)(hbm:∃bm ob,mg "__builtins__"=L (.ref bm)/\bm≠pZ/\ahq.heap.get? bm=L ob/\ob.cls=.type "module"/\ob.dict=L pZ/\ob.data=.plain)(hg:ahq.gens=#[])(ha:ahq.heap.get? a=L { cls:=.type "list",data:=.seq vs.toArray })(hi:Di vs ns)(hl:ns.length<=aj)(hr:jV k v9)(F:∀base:Heap,K.In base->base.Ns eU mg->g_ P w K mg base CX k fa fd [x] sp)(hbind:∀(s:ay) (u:Z),Df s fd #[[u],[]] [(x,u)])(hsp:∀H:Hp,U0 H->jh K H a (ns.map V.int)->sp [.ref a] H (λv _=>v=.bl W) λ_ _ _=>bu)(hCX:∀H e s',CX [] H ahq (λ_ _ _=>bu) e s'->bu)(hn:(oY.map (·.1)).Nodup)(ht:O8 K ahq.heap):kE (aW P w) v9 (.call (.ref fa) #[[.ref a],[]]) (λr s'=>r=.ok (.ret (.bool W))/\OldK ahq.heap s'.heap/\s'.os=ahq.os/\p6 s'.gens) ahq:=by
 have rv:=IQ hi;have yq:=hi.length;have core:∀H:Hp,U0 H->jh K H a (ns.map V.int)->gR P w H ahq.heap->(∀b,H b≠S->b=a\/∃q,oY.lookup b=L q)->(H a≠S->K.lookup a=S)->Tb H->
   kE (aW P w) v9 (.call (.ref fa) #[[.ref a],[]]) (λr s'=>r=.ok (.ret (.bool W))/\OldK ahq.heap s'.heap/\s'.os=ahq.os/\p6 s'.gens) ahq:=by
  intro H hO hS hok hA hK hTb;have base_of:∀{b:Addr}{o:Obj},ahq.heap.get? b=L o->H b=S->(zH ahq.heap H).get? b=L o:=λe n=>UE e n;have noA:∀{b:Addr}{o:Obj}{es:Array vc}{ep:Nat},ahq.heap.get? b=L o->o.data=.dict es ep->H b=S:=λ{b o es ep} e d=>by
   cases q:H b with
   |none=>rfl
   |some u=>
    rcases hA b (by rw[q];simp)with e'|⟨z,e'⟩
    rotate_left 1
    .rw[(ht b z e').2.1]at e;cases e;cases d
    subst e';rw[ha]at e;cases e;have d':=d;cases d'
  have nsK:∀{b:Addr}{m:Str->abM Z},ahq.heap.Ns b m->(zH ahq.heap H).Ns b m:=λ{b m} ⟨o,es,ep,e,d,r⟩=>#[o,es,ep,base_of e (noA e d),d,r];have hKb:K.In (zH ahq.heap H):=λb o e=>base_of (KX b o e) (by
   cases q:H b with
   |none=>rfl
   |some u=>
    rcases hA b (by rw[q];simp)with e'|⟨z,e'⟩
    rotate_left 1
    .rw[(ht b z e').1]at e;cases e
    subst e';rw[hK (by rw[q];simp)]at e;cases e)
  have hM:Mod K mg (zH ahq.heap H):=#[hKb,nsK hns,#[mb,nsK hb,hbb],let⟨mc,h1,h2⟩:=hlim;#[mc,nsK h1,h2],let⟨bm,ob,b1,b2,b3,b4,b5,b6⟩:=hbm;#[bm,ob,b1,b2,base_of b3 (by
   cases q:H bm with
   |none=>rfl
   |some u=>
    rcases hA bm (by rw[q];simp)with e'|⟨z,e'⟩
    .rw[e',ha]at b3;cases b3;cases b6
    .rw[(ht bm z e').2.1]at b3;cases b3;cases b6),b4,b5,b6]]
  have e0:Be P w K mg (zH ahq.heap H) v9 [] ahq H:=#[rfl,hM,λb o e=>Y_ e,xg (Rg _ _),trivial,#[λb hb=>aH (show b∈([]:M Addr)from hb) (by simp),hTb],hok,.of_eq hg];refine kU ((F _ hKb (nsK hns)).run v9 [] ahq H #[[.ref a],[]] [.ref a] [.ref a] _ _ hr e0 (hbind ahq (.ref a)) (.cons rfl .nil) (hsp H hO hS)) λr s' h=>?_;cases r with
  |error e=>exact(hCX H e s' h).elim
  |ok fl=>
   cases fl with
   |next=>exact aC h
   |brk=>exact aC h
   |cont=>exact aC h
   |ret u=>
    let#[v,H',os,bare,un,hok',r',q]:=h;have q':v=.bl W:=q;subst q';obtain rfl:u=GX W:=r';refine#[rfl,#[λb o e=>?_,λb o e=>un.there b o e (by simp)],os,bare];cases q:H b with
    |none=>exact .inl (un.keep b o e q (by intro z;exact aH (show b∈([]:M Addr)from z) (by simp)) (by simp))
    |some u=>
     rcases hO b with(z|⟨ob,xs,z⟩)|⟨y,y1,z⟩
     .rw[q]at z;cases z
     .have z2:=un.aA b ob _ z;let#[e1,_]:=hok b _ z;let#[e2,_]:=hok' b _ z2;rw[e]at e1;cases e1;exact .inl e2
     .obtain⟨more,z2⟩:=un.tbls b _ z;let#[qs,e2,_]:=(show X3 H' s'.heap b _ from hok' b _ z2);let#[_,e1,e3]:=ht b y y1;rw[e1]at e;cases e;exact .inr (.inl #[e3,rfl,#[],qs,rfl,by rw[e2];simp])
 have hT:∀b,ue b≠S->∃q,oY.lookup b=L q:=λb z=>by
  cases q:oY.lookup b with
  |none=>exact aH (by unfold ue;rw[q];rfl) z
  |some y=>exact#[y,rfl]
 have hokT:∀{H:Hp} (b:Addr) (u:HO),ue b=L u->fX P w H ahq.heap b u:=λb u z=>by
  cases q:oY.lookup b with
  |none=>unfold ue at z;rw[q]at z;cases z
  |some y=>
   unfold ue at z;rw[q]at z;cases z;exact#[#[],(ht b y q).2.1,trivial,λ_ _ e=>nomatch e]
 have tbT:Tb ue:=λp hp=>#[#[],by unfold ue;rw[RC hn hp];simp];have noTa:oY.lookup a=S:=by
  cases q:oY.lookup a with
  |none=>rfl
  |some y=>have e:=(ht a y q).2.1;rw[ha]at e;cases e
 cases hk:K.lookup a with
 |some o=>
  have e:=KX a o hk;rw[ha]at e;cases e;refine core ue (λb=>?o) (.inr #[_,vs.toArray,_,hk,rfl,rfl,rfl,by rw[aV,yq];exact hl,by simpa using rv]) (λb u z=>hokT b u z) (λb z=>.inr (hT b z)) (λz=>(hT a z).elim λq e=>(ht a q e).1) tbT;cases q:oY.lookup b with
  |none=>exact .inl (.inl (by unfold ue;rw[q];rfl))
  |some z=>exact .inr #[z,rfl,by unfold ue;rw[q];rfl]
 |none=>
  refine core (λb=>if b=a then L (.bq { cls:=.type "list",data:=.seq vs.toArray } (.lst (ns.map V.int)))else ue b) (λb=>?_) (.inl (.inr #[{ cls:=.type "list",data:=.seq vs.toArray },aF rfl])) (λb u z=>?_) (λb z=>?_) (λ_=>hk) λp hp=>?_
  .by_cases hb:b=a
   .exact .inl (.inr #[_,_,aF hb])
   .cases q:oY.lookup b with
    |none=>exact .inl (.inl ((aG hb).trans (by unfold ue;rw[q];rfl)))
    |some y=>exact .inr #[y,rfl,(aG hb).trans (by unfold ue;rw[q];rfl)]
  .by_cases hb:b=a
   .have z':=(aF hb).symm.trans z;cases z';subst hb;exact#[ha,by rw[aa];exact hl,vs,_,rv,ha]
   .exact hokT b u ((aG hb).symm.trans z)
  .by_cases hb:b=a
   .exact .inl hb
   .exact .inr (hT b λy=>z ((aG hb).trans y))
  .obtain⟨m,e⟩:=tbT p hp;exact#[m,(aG λz=>by rw[<-z,RC hn hp]at noTa;cases noTa).trans e]
end L2
namespace L2
open PySem PySem.Spec PyProof.Rows
def Zv{l:G5}{XP:(Str->abM Z)->Heap->Prop}{YP:bL->Heap->Prop}{K:Uo->ak}{CX:bL->Bc}{sp:bL->Sp}(hn:l.most=L n)(hn2:n<=aj)(hdf:d.params.defaults=[])(hr:jV k v9)(hY:∀(w:bL) (h:Heap),YP w h->(K w.params).In h)(F:∀(w:bL) (mg:Str->abM Z) (fa:Addr) (h:Heap),(K w.params).In h->h.Ns eU mg->mg d.name=L (.ref fa)->
   ∃fd:fc,(∀(s:ay) (u:Z),Df s fd #[[u],[]] [(x,u)]) /\
    ∀base:Heap,(K w.params).In base->base.Ns eU mg->g_ l.prog w (K w.params) mg base (CX w) k fa fd [x] (sp w))(hsp:∀(w:bL) (H:Hp) (a:Addr) (ns:M J),zl ns<=n->U0 H->jh (K w.params) H a (ns.map V.int)->sp w [.ref a] H (λv _=>v=.bl W) λ_ _ _=>bu)(hCX:∀(w:bL) (H:Hp) (s:ay) (e:Z) (s':ay),CX w [] H s (λ_ _ _=>bu) e s'->bu)(hnd:(oY.map (·.1)).Nodup:=by decide)(hTb:∀(w:bL) (h:Heap),YP w h->O8 (K w.params) h:=by intro _ _ _ _ _ z;cases z):
  Kw q loose XP YP l.row.toRowW d [] (λf vs=>G4 f vs):=by
 refine Att.Nm hn hdf λw aho ahq mg mb fa o pm cd doc a vs ns G ahj ho hd hcd hmg hobj hints hlen hg=>?_;have KX:=hY w _ ahj;let#[fd,hb,hF]:=F w mg fa _ KX G.T.g hmg;exact U1 KX G.T.g G.T.b G.T.builtins G.T.nolimit G.T.bmain hg hobj hints (cH hlen hn2) hr hF hb (λH hO hS=>hsp w H a ns hlen hO hS) (λH e s'=>hCX w H ahq e s') hnd (hTb w _ ahj)
end L2
namespace L2
open PySem PySem.Spec PyProof.Rows
def mL(s:Stmt):sd:=match s with
|.FunctionDef _ a _ _ _ _ _ _ _ _=>a
|_=>{ posonlyargs:=[],args:=[],vararg:=S,kwonlyargs:=[],kw_defaults:=[],kwarg:=S,defaults:=[] }
def iG(s:Stmt):M Stmt:=match s with
|.FunctionDef _ _ b _ _ _ _ _ _ _=>b
|_=>[]
def dh(s:Stmt):fH:=match s with
|.FunctionDef _ _ _ _ _ _ sc _ _ _=>sc
|_=>{ kind:=.function,names:=[],isGenerator:=B,isCoroutine:=B }
noncomputable abbrev RD:Bc:=λ_ _ _ _ _ _=>bu
noncomputable abbrev E0:XK:=λ_ _ _=>bu
structure vF (K:ak) (x qual:Str) (st:Stmt) (f:Addr) (fd:fc):Prop where
 ex:∃(oc:Z) (od:abM Addr) (kV doc pm:Z) (an:abM Addr) (cdv ct:Z) (osl:Array (abM Z)),
  fd=gy x qual (mL st) (iG st) (dh st) .none kV doc pm an cdv ct/\K.lookup f=L #[oc,od,.func fd,osl]/\m6 K cdv qual=W
 kp:fL K (.ref f)=W
section
variable{P:bO}{w:bL}{K:ak}{mg:Str->abM Z}{base:Heap}
def vF.binds{st:Stmt}{f:Addr}{fd:fc}{ps:M Str}(F:vF K x qual st f fd)(h:∀(kV doc pm:Z) (an:abM Addr) (cdv ct:Z) (us:M Z),zl us=zl ps->pB (gy x qual (mL st) (iG st) (dh st) .none kV doc pm an cdv ct) #[us,[]]=pure (ps.zip us)):Binds K fd ps []:=by
 let#[oc,od,kV,doc,pm,an,cdv,ct,osl,rfl,lk,hcd]:=F.ex;exact .all (h kV doc pm an cdv ct)
def fun_mk{st:Stmt}{f:Addr}{oc:Z}{od an:abM Addr}{osl:Array (abM Z)}{kV doc pm cdv ct:Z}(l:K.lookup f=L #[oc,od,.func (gy x qual (mL st) (iG st) (dh st) .none kV doc pm an cdv ct),osl])(c:m6 K cdv qual=W)(k:fL K (.ref f)=W):vF K x qual st f (gy x qual (mL st) (iG st) (dh st) .none kV doc pm an cdv ct):=#[#[oc,od,kV,doc,pm,an,cdv,ct,osl,rfl,l,c],k]
end
def bh(H H':Hp):Prop:=∀b o,H b=L o->H' b=L o
def bh.refl(H:Hp):bh H H:=λ_ _ h=>h
def bh.trans(a:bh H H1)(b:bh H1 H2):bh H H2:=λc o h=>b c o (a c o h)
end L2
end
section
namespace L2
open PySem PySem.W PySem.Calls PyProof.Rows
noncomputable def t7{α:Type}(lt:Nat->Nat->Bool):KasT α->α
|.ret a=>a
|.ask i j k=>t7 lt (k (lt i j))
def KBd(n:Nat){α:Type}(abm:α->Prop):KasT α->Prop
|.ret a=>abm a
|.ask i j k=>i<n/\j<n/\∀b,KBd n abm (k b)
theorem Lq{α:Type}{cmp:Nat->Nat->(Bool->ay->Prop)->ay->Prop}{lt:Nat->Nat->Bool}{abm:α->Prop}(hc:∀i j (C:Bool->ay->Prop),i<n->j<n->C (lt i j) s->cmp i j C s):∀(t:KasT α) (Q:α->ay->Prop),KBd n abm t->(abm (t7 lt t)->Q (t7 lt t) s)->t.kasWp cmp Q s
|.ret _,_,hb,h=>h hb
|.ask i j k,Q,hb,h=>hc i j _ hb.1 hb.2.1 (Lq hc (k (lt i j)) Q (hb.2.2 _) h)
theorem CW{α:Type}{abm:α->Prop}(lt:Nat->Nat->Bool):∀(t:KasT α),KBd n abm t->abm (t7 lt t)
|.ret _,h=>h
|.ask i j k,h=>CW lt (k (lt i j)) (h.2.2 (lt i j))
theorem KBd.bind{α β:Type}{abm:α->Prop}{C:β->Prop}{f:α->KasT β}(hf:∀a,abm a->KBd n C (f a)):∀(t:KasT α),KBd n abm t->KBd n C (t.bind f)
|.ret a,h=>hf a h
|.ask i j k,h=>#[h.1,h.2.1,λb=>KBd.bind hf (k b) (h.2.2 b)]
def lG(n:Nat)(p:Array Nat):Prop:=0<n/\p.Perm (bM n).toArray
def lG.DE(h:lG n p)(k:Nat):p.getD k 0<n:=by
 by_cases hk:k<p.size
 .have e:p.getD k 0=p[k]:=by simp[QV,hk]
  rw[e];have hm:=h.2.mem_iff.mp (Array.getElem_mem hk);simpa using hm
 .have e:p.getD k 0=0:=by simp[QV,hk]
  rw[e];exact h.1
def lG.rev(h:lG n p)(i j:Nat):lG n (kas_rev p i j):=#[h.1,(mirror_perm p i j _).trans h.2]
def lG.bub(h:lG n p)(k d:Nat):lG n (bubble p k d):=#[h.1,(bubble_perm p k d).trans h.2]
theorem Lr(h:lG n p):∀(f m:Nat),KBd n (λ_=>True) (kas_asc p f m)
|0,_=>trivial
|f+1,m=>#[h.DE _,h.DE _,λb=>by
 cases b with
 |true=>exact trivial
 |false=>exact Lr h f (m+1)]
theorem CY:∀(f:Nat) (p:Array Nat) (m q:Nat),lG n p->KBd n (λr=>lG n r.1) (kas_desc f p m q)
|0,p,_,_,h=>h
|f+1,p,m,q,h=>#[h.DE _,h.DE _,λb=>by
 cases b with
 |true=>
  split
  .exact CY f _ _ _ (h.rev _ _)
  .exact CY f _ _ _ h
 |false=>
  refine#[h.DE _,h.DE _,λd=>?_];cases d with
  |true=>exact h
  |false=>exact CY f _ _ _ h]
def Ls(h:lG n p)(m nrem:Nat):KBd n (λr=>lG n r.2) (kas_tail3 m nrem p):=
 KBd.bind (C:=λ(r:Nat×Array Nat)=>lG n r.2) (f:=λa=>.ret (a,kas_rev p 0 m)) (λa _=>h.rev 0 m) _ (Lr (h.rev 0 m) _ _)
def DF(h:lG n p)(m nrem:Nat):KBd n (λr=>lG n r.2) (kas_descPart m nrem p):=
 KBd.bind (λr hr=>by
  split
  .exact Ls (lG.rev hr _ _) _ _
  .exact Ls hr _ _) _ (CY _ _ _ _ h)
def U3(h:lG n p)(nrem:Nat):KBd n (λr=>lG n r.2) (kas_count nrem p):=
 KBd.bind (λm _=>by
  split
  .exact h
  .split
   .refine#[h.DE _,h.DE _,λc=>?_];cases c with
    |true=>exact h
    |false=>exact DF (h.rev _ _) _ _
   .exact DF h _ _) _ (Lr h _ _)
theorem El(h:lG n p)(k:Nat):∀(f l r:Nat),KBd n (λ_=>True) (kas_place p k f l r)
|0,_,_=>trivial
|f+1,l,r=>by
 show KBd n _ (if l≥r then _ else _);split
 .exact trivial
 .refine#[h.DE _,h.DE _,λc=>?_];cases c with
  |true=>exact El h k f _ _
  |false=>exact El h k f _ _
theorem RE:∀(f:Nat) (p:Array Nat) (k:Nat),lG n p->KBd n (lG n) (kas_bin f p k)
|0,_,_,h=>h
|f+1,p,k,h=>KBd.bind (λl _=>RE f _ _ (h.bub _ _)) _ (El h k _ _ _)
def uf(h:0<n):KBd n (lG n) (mq n):=
 KBd.bind (λr hr=>by
  split
  .exact RE _ _ _ hr
  .exact hr) _ (U3 #[h,Y4 _] _)
def pK(n:Nat)(lt:Nat->Nat->Bool):M Nat:=if n<2 then bM n else(t7 lt (mq n)).toList
noncomputable def ltK:Key->Key->Bool
|.inl i,.inl j=>decide (i<j)
|.inr x,.inr y=>decide (x.cps.toList<y.cps.toList)
|_,_=>B
def lY:M Key->M Key->Bool
|p::ps,q::qs=>if p=q then lY ps qs else ltK p q
|_,_=>B
noncomputable def kH:M Key->M Key->Bool
|[],[]=>W
|.inl _::ps,.inl _::qs=>kH ps qs
|.inr _::ps,.inr _::qs=>kH ps qs
|_,_=>B
def pL{α:Type}[JV α](key:α->M Key)(xs:M α):M α:=(pK (zl xs) λi j=>lY (key (xs.getD i default)) (key (xs.getD j default))).map λi=>xs.getD i default
section
variable{prog:bO}{w:bL}{A:cQ}{E:Z->ay->Prop}{s:ay}{b:Bool}{Q:Bool->ay->Prop}
theorem Lu:∀{ks qs:M Key}{us ws:M Z} (i:Nat),bP (ks.map kV) us->bP (qs.map kV) ws->kH ks qs=W->Q (lY ks qs) s->KatLex prog w A b B Q (us.zip ws) i s
|[],[],_,_,i,.nil,.nil,_,h=>h
|.inl x::ks,.inl y::qs,_,_,i,.cons hu ru,.cons hv rv,hs,h=>by
 let#[t,rfl]:=hu;let#[t',rfl]:=hv;refine kat_cons (E2 (kat_go (λe=>?_) λe=>?_))
 .have e:=lV.mp e;subst e;refine kat_yes (Lu (i+1) ru rv hs ?_);have:lY (.inl x::ks) (.inl x::qs)=lY ks qs:=aF rfl;rw[this]at h;exact h
 .have hn:x≠y:=by intro z;rw[z]at e;simp at e
  have:lY (.inl x::ks) (.inl y::qs)=decide (x<y):=aG (λz=>hn (Sum.inl.inj z));rw[this]at h;refine kat_no ?_;cases hb:(b&&i==0)with
  |true=>exact oneLt_int h
  |false=>exact kat_one _ _ (lt_int h)
|.inr x::ks,.inr y::qs,_,_,i,.cons hu ru,.cons hv rv,hs,h=>by
 let#[t,rfl]:=hu;let#[t',rfl]:=hv;refine kat_cons (eqBool_str (kat_go (λe=>?_) λe=>?_))
 .have e:=lV.mp e;subst e;refine kat_yes (Lu (i+1) ru rv hs ?_);have:lY (.inr x::ks) (.inr x::qs)=lY ks qs:=aF rfl;rw[this]at h;exact h
 .have hn:x≠y:=by intro z;rw[z]at e;simp at e
  have:lY (.inr x::ks) (.inr y::qs)=decide (x.cps.toList<y.cps.toList):=aG (λz=>hn (yO z));rw[this]at h;refine kat_no ?_;cases hb:(b&&i==0)with
  |true=>exact oneLt_str h
  |false=>exact kat_one _ _ (lt_str h)
end
def o5(h:Heap)(v:Z)(ks:M Key):Prop:=∃(t:Addr) (o:Obj) (us:M Z) (k:Nat),v=.ref t/\h.get? t=L o/\o.cls=.type "tuple"/\o.data=.seq us.toArray k/\bP (ks.map kV) us
theorem nZ{α β:Type}{R:α->β->Prop}{d:α}{e:β}:∀{xs:M α}{ys:M β},Paired R xs ys->∀i,i<zl xs->R (xs.getD i d) (ys.getD i e)
|_,_,.nil,i,h=>aH h (oU i)
|_,_,.cons r _,0,_=>r
|_,_,.cons _ t,i+1,h=>nZ t i (Nat.lt_of_succ_lt_succ h)
def getD_mem{α:Type}{d:α}{xs:M α}{i:Nat}(h:i<zl xs):xs.getD i d∈xs:=by simp_all
theorem wm:∀{ks qs:M Key},kH ks qs=W->zl ks=zl qs
|[],[],_=>rfl
|.inl _::ks,.inl _::qs,h=>jc (·+1) (wm h)
|.inr _::ks,.inr _::qs,h=>jc (·+1) (wm h)
section
variable{prog:bO}{w:bL}{A:cQ}{E:Z->ay->Prop}{s:ay}
def Zw{Q:Bool->ay->Prop}(hv:o5 s.heap v ks)(hu:o5 s.heap u qs)(hs:kH ks qs=W)(h:Q (lY ks qs) s):aT (aW prog w) A (keyLt' (tuples' b) v u) Q E s:=by
 let#[t,o,us,n,rfl,h1,h2,h3,h4]:=hv;let#[t',o',us',n',rfl,k1,k2,k3,k4]:=hu;refine kat_lt h1 h3 k1 k3 ?_;have e:decide (us.toArray.size<us'.toArray.size)=B:=by
  have e1:=h4.length;have e2:=k4.length;rw[aa]at e1 e2;have:=wm hs;simp
  lia
 rw[e];exact Lu 0 h4 k4 hs h
def iP:M Key->Z
|.inl _::_=>.type "int"
|_=>.type "str"
def O9(h:kH ks qs=W)(hn:ks≠[]):iP ks=iP qs:=by
 match ks,qs,h with
 |.inl _::_,.inl _::_,_=>rfl
 |.inr _::_,.inr _::_,_=>rfl
 |[],[],_=>rfl
theorem Fw:∀{vs:M Z}{kss:M (M Key)},Paired (o5 h) vs kss->(∀ks∈kss,ks≠[]/\iP ks=T)->∃fs:M Z,KatTups h vs fs/\zl fs=zl vs/\∀f∈fs,Looks abl h (typeOf f) T
|_,_,.nil,_=>#[[],trivial,rfl,λ_ z=>by cases z]
|_,_,.cons (b:=ks) ⟨t,o,us,n,e,h1,h2,h3,h4⟩ r,hk=>by
 let#[fs,k1,k2,k3]:=Fw r λks hks=>hk ks (ao _ hks);let#[hne,hT]:=hk ks aB;subst e;cases ks with
 |nil=>exact aH rfl hne
 |cons k ks=>
  cases h4 with
  |cons hu ru=>
   cases k with
   |inl i=>
    let#[tk,rfl]:=hu;refine#[.int i tk::fs,#[#[t,o,_,n,rfl,h1,h2,h3,by simp],k1],by simp[k2],λf hf=>?_];rcases be.mp hf with rfl|hf
    .rw[<-hT];exact vC rfl
    .exact k3 f hf
   |inr x=>
    let#[tk,rfl]:=hu;refine#[.str x tk::fs,#[#[t,o,_,n,rfl,h1,h2,h3,by simp],k1],by simp[k2],λf hf=>?_];rcases be.mp hf with rfl|hf
    .rw[<-hT];exact vC rfl
    .exact k3 f hf
def gD(vs:M Z)(lt:Nat->Nat->Bool):M Z:=(pK (zl vs) lt).map λi=>vs.getD i eN
def IS(prog:bO)(w:bL)(A:cQ)(vs:M Z)(lt:Nat->Nat->Bool)(h:Heap):Prop:=
 ∃κ,∀s:ay,s.heap=h->(∀(E:Z->ay->Prop) (Q:SortKind->ay->Prop),Q κ s->aT (aW prog w) A (keyKind' vs.toArray) Q E s)/\∀i j C,i<zl vs->j<zl vs->C (lt i j) s->OQ prog w A κ vs i j C s
def vG(kss:M (M Key))(i j:Nat):Bool:=lY (kss.getD i []) (kss.getD j [])
def zO{h:Heap}{vs:M Z}{kss:M (M Key)}(ht:Paired (o5 h) vs kss)(h1:∀ks∈kss,ks≠[])(hs:∀ks∈kss,∀qs∈kss,kH ks qs=W)(h2:2<=zl vs):IS prog w A vs (vG kss) h:=by
 have hT2:∀ks:M Key,(iP ks==iP ks)=W:=by simp
 have hlen:=(Paired.length ht).symm;have hpos:0<zl kss:=by lia
 let#[fs,f1,f2,f3]:=Fw ht λks hks=>#[h1 ks hks,O9 (hs ks hks _ (getD_mem hpos)) (h1 ks hks)];refine#[tuples' (iP (kss.getD 0 []) != Value.type "tuple"),λs e=>?_];subst e;exact#[λE Q q=>kat_kind f1 (by lia) f3 (hT2 _) q,λi j C hi hj hC=>Zw (nZ ht i hi) (nZ ht j hj) (hs _ (getD_mem (by lia)) _ (getD_mem (by lia))) hC]
def ltK1(a b:Str):lY [.inr a] [.inr b]=decide (a.cps.toList<b.cps.toList):=by
 by_cases e:a=b
 .subst e;have:lY [d9 a] [d9 a]=B:=by unfold lY;rw[aF rfl];rfl
  rw[this,bW (List.lt_irrefl _)]
 .unfold lY;rw[aG λz=>e (by cases z;rfl)];rfl
def U4{ss:M Str}(hv:bP (ss.map V.str) vs)(h2:2<=vs.length):IS prog w A vs (vG (ss.map λx=>[.inr x])) h:=by
 have hl:vs.length=ss.length:=by rw[<-hv.length,aa]
 have ha:∀i,i<vs.length->∃t,vs.getD i eN=.str (ss.getD i ⟨#[]⟩) t:=λi hi=>by
  have:=nZ (d:=V.non) (e:=eN) hv i (by rw[aa,<-hl];exact hi);rw[aZ,bg,aq (by lia)]at this;rw[aZ (l:=ss),aq (by lia)];exact this
 refine#[oneType',λs e=>#[λE Q q=>kas_kind h2 (λv hv'=>?_) (T:=.type "str") (by decide) (by decide) q,λi j C hi hj hC=>?_]]
 .obtain⟨i,hi,rfl⟩:=gI hv';let#[t,e]:=ha i hi;rw[aZ,aq hi]at e;have e:vs[i]=_:=e;rw[e];exact vC rfl
 .obtain⟨t,e1⟩:=ha i hi;let#[u,e2]:=ha j hj;unfold OQ;rw[e1,e2];refine kas_lt_str ?_;have:vG (ss.map λx=>[.inr x]) i j=lY [.inr (ss.getD i ⟨#[]⟩)] [.inr (ss.getD j ⟨#[]⟩)]:=by
   unfold vG;simp only[aZ,bg,aq (show i<ss.length by lia),aq (show j<ss.length by lia)];rfl
  rw[this,ltK1]at hC;exact hC
def ltK2(a b:J):lY [.inl a] [.inl b]=decide (a<b):=by
 by_cases e:a=b
 .subst e;have:lY [uC a] [uC a]=B:=by unfold lY;rw[aF rfl];rfl
  rw[this,bW (Int.lt_irrefl _)]
 .unfold lY;rw[aG λz=>e (by cases z;rfl)];rfl
def U5{ss:M J}(hv:bP (ss.map V.int) vs)(h2:2<=vs.length):IS prog w A vs (vG (ss.map λx=>[.inl x])) h:=by
 have hl:vs.length=ss.length:=by rw[<-hv.length,aa]
 have ha:∀i,i<vs.length->∃t,vs.getD i eN=.int (ss.getD i 0) t:=λi hi=>by
  have:=nZ (d:=V.non) (e:=eN) hv i (by rw[aa,<-hl];exact hi);rw[aZ,bg,aq (by lia)]at this;rw[aZ (l:=ss),aq (by lia)];exact this
 refine#[oneType',λs e=>#[λE Q q=>kas_kind h2 (λv hv'=>?_) (T:=.type "int") (by decide) (by decide) q,λi j C hi hj hC=>?_]]
 .obtain⟨i,hi,rfl⟩:=gI hv';let#[t,e]:=ha i hi;rw[aZ,aq hi]at e;have e:vs[i]=_:=e;rw[e];exact vC rfl
 .obtain⟨t,e1⟩:=ha i hi;let#[u,e2]:=ha j hj;unfold OQ;rw[e1,e2];rw[keyLt'_oneType];refine oneLt_int ?_;have:vG (ss.map λx=>[.inl x]) i j=lY [.inl (ss.getD i 0)] [.inl (ss.getD j 0)]:=by
   unfold vG;simp only[aZ,bg,aq (show i<ss.length by lia),aq (show j<ss.length by lia)];rfl
  rw[this,ltK2]at hC;exact hC
def Bh{lt:Nat->Nat->Bool}{P:CA->ay->Prop}(ho:s.heap.get? a=L (cO "list" vs.toArray n))(hC:∀h',(∀b o,b≠a->s.heap.get? b=L o->h'.get? b=L o)->2<=zl vs->IS prog w A vs lt h')(h64:zl vs<64)(h:∀h' c,(∀b o,b≠a->s.heap.get? b=L o->h'.get? b=L o)->h'.get? a=L (cO "list" (gD vs lt).toArray c)->P (.done (.ret .none)) { s with heap:=h' }):aT (aW prog w) A (zq.«list.sort» #[[.ref a],[]]) P E s:=by
 have ha:=aO ho;obtain⟨e1,ho1⟩:∃e1,(s.heap.update a (c_ λ_=>(#[]:Array Z))).get? a=L (cO "list" #[] e1):=#[_,oV ho λ_=>#[]];have hk1:∀b o,b≠a->s.heap.get? b=L o->(((s.heap.update a (c_ λ_=>(#[]:Array Z))).push (cO "tuple" vs.toArray 0)).push (cO "list" #[] 0)).get? b=L o:=λb o hb e=>
  az _ (az _ (by rw[k_ _ _ _ _ hb];exact e))
 have ho3:(((s.heap.update a (c_ λ_=>(#[]:Array Z))).push (cO "tuple" vs.toArray 0)).push (cO "list" #[] 0)).get? a=L (cO "list" #[] e1):=az _ (az _ ho1);rw[list_sort_plain];refine ai (CC ho rfl ?_);refine ai (nX ho rfl ?_ (by rw[aV,bY];lia) (dg _));refine ai (yQ ho1 rfl ?_);refine ai (Ir ?_ (by show zl vs<=_;rw[bY];lia));refine ai (rB ?_ (dg _));refine fK ?_;dsimp only;generalize hH:((s.heap.update a (c_ λ_=>(#[]:Array Z))).push (cO "tuple" vs.toArray 0)).push (cO "list" #[] 0)=H3 at hk1 ho3 ⊢;have fin:∀(st:SortSt),(G6 st).map (·.2)=(gD vs lt).toArray->Ar st=S->zl (gD vs lt)=zl vs->
   aT (aW prog w) A (do
    let touched:=(<-seqEpoch a) != e1
    xE (.ref a) λ_=>(G6 st).map (·.2)
    if let L e:=Ar st then rule "list.sort.comparison-raised";throw e
    if touched then rule "list.sort.modified";raiseError "ValueError" "list modified during sort"
    ret .none) P E { s with heap:=H3 }:=by
  intro st har hf hol;obtain⟨c2,hc2⟩:∃c2,(H3.update a (c_ λ_=>(gD vs lt).toArray)).get? a=L (cO "list" (gD vs lt).toArray c2):=#[_,oV ho3 λ_=>(gD vs lt).toArray];refine ai (yQ (s:={ s with heap:=H3 }) ho3 rfl ?_);refine ai (nX (s:={ s with heap:=H3 }) ho3 rfl ?_ (dg _) ?_)
  .rw[hf,har];simp only[Dt,gq,iF];refine aL (h _ c2 (λb o hb e=>?_) hc2);rw[k_ _ _ _ _ hb];exact hk1 b o hb e
  .show((G6 st).map (·.2)).size<=_;rw[har,aV,hol,bY];lia
 by_cases h2:zl vs<2
 .have hn2:vs.toArray.size<2:=by rw[aV];exact h2
  rw[aF hn2,aF hn2];have eo:gD vs lt=vs:=by
   unfold gD pK;rw[aF h2];apply kX
   .simp
   .intro i a1 a2;simp[aZ,aq a2]
  refine ai (aL ?_);refine ai (aL ?_);refine fin (SortSt.mk' _ _ _ _ _) ?_ rfl (by rw[eo]);rw[eo];show((vs.toArray.zip vs.toArray).map (·.2))=vs.toArray;apply Fb.mp;simp[Fc]
 .have hn2:¬vs.toArray.size<2:=by rw[aV];exact h2
  have h2':2<=zl vs:=by lia
  rw[aG hn2,aG hn2];have hP:lG (zl vs) (t7 lt (mq (zl vs))):=CW _ _ (uf (by lia));have eo:gD vs lt=(t7 lt (mq (zl vs))).toList.map λi=>vs.getD i eN:=by
   unfold gD pK;rw[aG h2]
  have hol:zl (gD vs lt)=zl vs:=by
   rw[eo,aa,ee,hP.2.size_eq];simp
  let#[κ,hκ]:=hC H3 hk1 h2';let#[q1,q2]:=hκ { s with heap:=H3 } rfl;refine ai (q1 _ _ ?_);refine ai (gZ (kat_run (s:={ s with heap:=H3 }) (Q:=λst' s'=>s'={ s with heap:=H3 }/\(G6 st').map (·.2)=(gD vs lt).toArray/\Ar st'=S)
   (G:=λp s'=>p=t7 lt (mq (zl vs))/\s'={ s with heap:=H3 }) rfl h2' h64
   (λp st' s' _ har hf hg=>#[hg.2,by rw[kat_snds rfl har,hg.1,eo],hf])
   (Lq (abm:=lG (zl vs)) (lt:=lt) (n:=zl vs) q2 _ _ (uf (by lia)) λ_=>#[rfl,rfl])) ?_ λ_ _ e=>e)
  rintro⟨⟨⟩,st'⟩ s' ⟨rfl,b1,b2⟩;exact fin st' b1 b2 hol
def IT{lt:Nat->Nat->Bool}{Q:Z->ay->Prop}(hC:∀h',(∀b o,s.heap.get? b=L o->h'.get? b=L o)->2<=zl vs->IS prog w A.in1.in1 vs lt h')(h64:zl vs<64)(hc:∀R:M Z->ay->Prop,(∀h1 tk,(∀b o,s.heap.get? b=L o->h1.get? b=L o)->s.heap.objs.size<=h1.objs.size->R vs { s with heap:=h1,toks:=tk })->aT (aW prog w) A.in1 (Dj (.ref l)) R (λ_ _=>bu) s)(h:∀h' a c tk,(∀b o,s.heap.get? b=L o->h'.get? b=L o)->s.heap.objs.size<=a->h'.get? a=L (cO "list" (gD vs lt).toArray c)->Q (.ref a) { s with heap:=h',toks:=tk }):aT (aW prog w) A (call (.builtin "sorted") [.ref l]) Q E s:=by
 refine vW Ef CD CF (M1 _) ?_;refine ai (aL ?_);refine ai (gZ (hc _ λg1 tk k1 hz=>?_) (λ_ _ x=>x) λ_ _ x=>x.elim)
 .dsimp only;refine ai (rB ?_ (by rw[bY];lia));have hoL:(g1.push (cO "list" vs.toArray 0)).get? g1.objs.size=L (cO "list" vs.toArray 0):=aS _ rfl;have keep:∀b o,s.heap.get? b=L o->(g1.push (cO "list" vs.toArray 0)).get? b=L o:=λb o e=>az _ (k1 b o e);refine ai (fK (kY zB #[_,hoL,rfl] yh ?body (Iu _)))
  case body=>
   refine Bh hoL (λh' k'=>hC h' λb o e=>k' b o (bG (bT (aO e) hz)) (keep b o e)) h64 λh' c k' e'=>?_;refine#[_,rfl,aL #[_,rfl,h h' _ c tk (λb o e=>k' b o ?_ (keep b o e)) hz e']];have:=aO e;exact bG (bT this hz)
def o5.keep'(x:o5 h v ks)(k:∀b o,h.get? b=L o->h'.get? b=L o):o5 h' v ks:=by
 let#[t,o,us,n,rfl,h1,h2]:=x;exact#[t,o,us,n,rfl,k t o h1,h2]
def Nn{lt:Nat->Nat->Bool}{Q:Z->ay->Prop}(hl:s.heap.IsList l vs.toArray)(hC:∀h',(∀b o,s.heap.get? b=L o->h'.get? b=L o)->2<=zl vs->IS prog w A.in1.in1 vs lt h')(h64:zl vs<64)(h:∀h' a c tk,(∀b o,s.heap.get? b=L o->h'.get? b=L o)->s.heap.objs.size<=a->h'.get? a=L (cO "list" (gD vs lt).toArray c)->Q (.ref a) { s with heap:=h',toks:=tk }):aT (aW prog w) A (call (.builtin "sorted") [.ref l]) Q E s:=by
 refine IT hC h64 (λR hR=>collect_list hl (hR _ s.toks (λb o e=>?_) ?_) (by rw[bY];lia)) h
 .rw[k_ _ _ _ _ (bG (aO e))];exact az _ e
 .simp
end
def rD(h:Heap)(d:Addr)(es:Array vc)(ep:Nat):Prop:=∃ob,h.get? d=L ob/\ob.ExactDict/\ob.data=.dict es ep
def rD.keep(x:rD h d es ep)(k:∀ob,h.get? d=L ob->h'.get? d=L ob):rD h' d es ep:=let⟨ob,e,r⟩:=x;#[ob,k ob e,r]
def rD.ty{s:ay}(x:rD s.heap d es ep):s.TypeIs (.ref d) "dict":=let⟨ob,e,r,_⟩:=x;#[ob,e,r.1]
section
variable{prog:bO}{w:bL}{A:cQ}{E:Z->ay->Prop}{s:ay}{d it:Addr}{es:Array vc}{ep i:Nat}
def Lv{Q:Z->ay->Prop}(hS:(d==iC)=B)(x:rD s.heap d es ep)(q:Q (.ref s.heap.objs.size) { s with heap:=s.heap.push { cls:=.type "dict_keyiterator",data:=.fields (List.toArray [.ref d,.int 0 0,.int es.size 0,.int ep 0]) } }):aT (aW prog w) A (xf (.ref d)) Q E s:=by
 have ty:=x.ty;let#[ob,e,ex,ed]:=x;refine wpAny_pyIter_slot ty F.slot_dict_iter (kY F.slot_dict_iter ty F.entry_dict_iter ?go (F.args_dict_iter_1 _))
 case go=>
  unfold zq.«dict.__iter__» K0 OR;refine ai (ai (r_ ty (aL ?_)));refine ai (aL ?_);rw[hS];simp only[gq,iF];refine ai (aL (ai (vK e ed (ai (yi e ed ?_)))));refine ai (ie (aL #[.ref s.heap.objs.size,rfl,"dict_keyiterator",_,#[_,aS _ rfl,rfl],F.slot_dict_keyiterator_next.lookup,?_]));simpa only[tN]using q
def Lw{Q:abM Z->ay->Prop}(st:s.heap.IsKeyIter it d i es.size ep)(x:rD s.heap d es ep)(hi:i<es.size)(q:∀h',h'.IsKeyIter it d (i+1) es.size ep->jM it s.heap h'->Q (L es[i].key) { s with heap:=h' }):aT (aW prog w) A (zz (.ref it)) Q E s:=by
 have ty:=st.typeIs;let#[oi,ei,ci,di]:=id st;let#[ob,e,ex,ed]:=x;have next:(s.heap.update it (Obj.mapFields (·.setIfInBounds 1 (tN ((i:J)+1))))).IsKeyIter it d (i+1) es.size ep:=by
  refine#[_,se _ ei (Obj.isFreed_of_fields (CH di _)),?_,?_]
  .rw[Obj.cls_mapFields];exact ci
  .rw[CH di];simp[tN]
 refine ai (AU (xF ty F.slot_dict_keyiterator_next (kY F.slot_dict_keyiterator_next ty F.entry_dict_keyiterator_next ?go (F.args_dict_keyiterator_next_1 _))))
 case go=>
  refine ai (aL (ai (ai ?_)));refine ai (jq ty (aL (ai (Iw ei di ?_))));have own:uE "dict_keyiterator"=B:=by decide
  rw[own];rw[aG (by lia)];refine ai (aL (ai (vK e ed ?_)));rw[aG (by simp)];refine ai (aL (ai (yi e ed ?_)));rw[aG (by simp)];refine aL ?_;have nn:¬((i:J)<0):=by lia
  simp only[nn,iF,fE,kq hi];refine ai ?_;refine ai (jq ty (aL (ai (zC ty ?_))));show aT (aW prog w) A.in1 (setField (.ref it) 1 (tN ((i:J)+1)) >>= _) _ _ s;refine ai (Iz ei di (by simp) (ai (fK ?_)));refine ai (zC next.typeIs ?_);exact aL (aL #[_,rfl,aL (q _ next (lq ..))])
def N3{Q:abM Z->ay->Prop}(hh:A.handled=S)(st:s.heap.IsKeyIter it d es.size es.size ep)(x:rD s.heap d es ep)(q:∀h',Heap.ExtBut it s.heap h'->Q S { s with heap:=h' }):aT (aW prog w) A (zz (.ref it)) Q E s:=by
 have ty:=st.typeIs;let#[oi,ei,ci,di]:=id st;let#[ob,e,ex,ed]:=x;refine ai (AU (xF ty F.slot_dict_keyiterator_next (kY F.slot_dict_keyiterator_next ty F.entry_dict_keyiterator_next ?go (F.args_dict_keyiterator_next_1 _))))
 case go=>
  refine ai (aL (ai (ai ?_)));refine ai (jq ty (aL (ai (Iw ei di ?_))));have own:uE "dict_keyiterator"=B:=by decide
  rw[own];rw[aG (by simp)];refine ai (aL (ai (vK e ed ?_)));rw[aG (by simp)];refine ai (aL (ai (yi e ed ?_)));rw[aG (by simp)];refine aL ?_;have nn:¬((es.size:J)<0):=by lia
  simp only[nn,iF,fE,qL (aK es.size)];refine ai ?_;refine ai (jq ty (aL ?_));show aT (aW prog w) A.in1 (setField (.ref it) 0 .none >>= _) _ _ s;refine ai (Iz ei di (by simp) (ai ?_));refine ai (ie (ai (jB (by rfl) (ie ?_ (by size_fits)))) (by size_fits));refine ai (wpAny_handled ?_);rw[show A.in1.handled=S from hh];refine ai (aL (wpAny_throw ?_));refine ai (Fd #[_,aS _ rfl,rfl] isSubtype_stop (aL ?_));exact q _ (((lq ..).extBut.push _).push _)
def RG(hh:A.handled=S)(it d:Addr)(hne:d≠it)(es:Array vc)(ep:Nat):Walks prog w A it [it,d] [it] es.size (λi v=>∃u,es[i]?=L u/\v=u.key) (λi h=>h.IsKeyIter it d i es.size ep/\rD h d es ep) where
 sub:=by simp
 frame:=λi h h' ⟨st,x⟩ k=>#[let⟨o,e,r⟩:=st;#[o,k it (by simp) o e,r],x.keep λo e=>k d (by simp) o e]
 item:=λi s Q E hi ⟨st,x⟩ q=>Lw st x hi λh' st' sb=>q _ h' s.toks #[_,kq hi,rfl] #[st',x.keep λo e=>by rw[sb.2 d hne];exact e] λb o hb e=>by
  rw[sb.2 b (by simpa using hb)];exact e
 done:=λs Q E ⟨st,x⟩ q=>N3 hh st x λh' eb=>q h' s.toks λb o hb e=>eb b o (by simpa using hb) e
 self:=λi s Q E ⟨st,_⟩ q=>As st q
def Zx{prog:bO}(hS:(d==iC)=B):KdlSrc prog w "dict" d d es.size (λi v=>∃u,es[i]?=L u/\v=u.key) (λh=>rD h d es ep) where
 type:=λ_ x=>x.ty
 there:=λ_ qq=>by let#[_,e,_]:=qq;exact#[aO e,aO e]
 keep:=λ_ _ x k=>x.keep λo e=>k d (.inl rfl) o e
 notList:=by decide
 notTuple:=by decide
 hint:=λ_ _ _ _ x q=>kdl_hint_dict x.ty q
 iter:=λA s hh x=>#[_,_,λ_ _ q=>Lv hS x q,RG hh _ d (let⟨_,e,_⟩:=x;bG (aO e)) es ep,#[_,aS _ rfl,rfl,rfl],x.keep λo e=>az _ e]
end
section
def jX(H:Hp):M (M Key)->M Addr->Prop:=Paired λk t=>H t=L (.tup (k.map kV))
def Hq{P:bO}{w:bL}{H:Hp}{h:Heap}{t:Addr}{k:M Key}(ok:gR P w H h)(e:H t=L (.tup (k.map kV))):o5 h (.ref t) k:=by
 let#[_,its,r,o,h1,h2,n,h3]:=(ok t _ e);exact#[t,o,its,n,rfl,h1,h2,h3,r]
theorem Em(ok:gR P w H h):∀{kss:M (M Key)}{ts:M Addr},jX H kss ts->Paired (o5 h) (ts.map bR) kss
|_,_,.nil=>.nil
|_,_,.cons e r=>.cons (Hq ok e) (Em ok r)
theorem uU(ts:M Addr):∀idx:M Nat,(∀i∈idx,i<zl ts)->bP (idx.map λi=>V.ref (ts.getD i 0)) (idx.map λi=>(ts.map bR).getD i eN)
|[],_=>.nil
|i::r,h=>by
 refine .cons ?_ (uU ts r λj hj=>h j (ao _ hj));have hi:=h i aB;have e1:(ts.map bR).getD i eN=.ref (ts.getD i 0):=by
  rw[aZ,aZ,bg,aq hi];rfl
 show RelV (.ref (ts.getD i 0)) ((ts.map bR).getD i eN);rw[e1];exact rfl
def uV(n:Nat)(lt:Nat->Nat->Bool):∀i∈pK n lt,i<n:=by
 unfold pK;split
 .intro i hi;exact gc.mp hi
 .rename_i h;have hP:lG n (t7 lt (mq n)):=CW _ _ (uf (by omega));intro i hi;have:i∈(bM n).toArray:=hP.2.mem_iff.mp (by simpa using hi);simpa using this
def n6(n:Nat)(lt:Nat->Nat->Bool):zl (pK n lt)=n:=by
 unfold pK;split
 .simp
 .rename_i h;have hP:lG n (t7 lt (mq n)):=CW _ _ (uf (by omega));rw[ee,hP.2.size_eq];simp
def dX(kss:M (M Key)):M Nat:=pK (zl kss) (vG kss)
def sortable(kss:M (M Key)):Bool:=decide (zl kss<64)&&kss.all λk=>!k.isEmpty&&kss.all λq=>kH k q
def n9(h:sortable kss=W):zl kss<64/\(∀k∈kss,k≠[])/\∀k∈kss,∀q∈kss,kH k q=W:=by
 unfold sortable at h;rw[cu]at h;have h2:=bz.mp h.2;refine#[aE h.1,λk hk=>?_,λk hk q hq=>?_]
 .grind
 .have:=h2 k hk;rw[cu]at this;exact bz.mp this.2 q hq
def Lx(H:Hp)(us:M V)(kss:M (M Key)):Prop:=(∃ts,us=ts.map V.ref/\jX H kss ts)\/(∃ss:M Str,us=ss.map V.str/\kss=ss.map λx=>[.inr x])\/∃ns:M J,us=ns.map V.int/\kss=ns.map λx=>[.inl x]
variable{X:Cx}
def O_(I:Inv X pins U H s)(ht:jX H kss ts)(hk:sortable kss=W)(hc:∀R:M Z->ay->Prop,(∀h1 tk,(∀b o,s.heap.get? b=L o->h1.get? b=L o)->s.heap.objs.size<=h1.objs.size->R (ts.map bR) { s with heap:=h1,toks:=tk })->aT (aW X.prog X.w) X.A.in1 (Dj (.ref l)) R (λ_ _=>bu) s)(q:∀p,H p=S->Q (.ref p) (upd H p (.lst ((dX kss).map λi=>.ref (ts.getD i 0))))):aT (aW X.prog X.w) X.A (call (.builtin "sorted") [.ref l]) (EP X pins U Q) X.xe s:=by
 let#[k1,k2,k3]:=n9 hk;have hl:=(Paired.length ht).symm;refine IT (λh' k h2=>zO (Paired.imp' (λv ks x=>o5.keep' x k) (Em I.hok ht)) k2 k3 h2) (by grind) hc λh' a c tk keep hle e=>?_;have eo:gD (ts.map bR) (vG kss)=(dX kss).map λi=>(ts.map bR).getD i eN:=by
  unfold gD dX;rw[aa,hl]
 have lt:∀i∈dX kss,i<zl ts:=λi hi=>by rw[hl];exact uV _ _ i hi
 refine#[.ref a,_,I.laid (o:=.lst ((dX kss).map λi=>.ref (ts.getD i 0))) keep hle #[?_,_,c,uU ts _ lt,?_],rfl,q _ (I.hok.fresh hle)]
 .rw[aa];unfold dX;rw[n6,bY];lia
 .rw[<-eo];exact e
theorem Hr:∀{kvs:M (M Key×V)}{xs:M (M Key×Addr×Z)},Paired (λ(p:M Key×V) (q:M Key×Addr×Z)=>p.1=q.1/\H q.2.1=L (.tup (p.1.map kV))/\RelV p.2 q.2.2) kvs xs->jX H (kvs.map (·.1)) (xs.map λx=>x.2.1)
|_,_,.nil=>.nil
|_,_,.cons e r=>.cons e.2.1 (Hr r)
def Np{E:Z->ay->Prop}{R:M Z->ay->Prop}(hS:(d==iC)=B)(hh:A.handled=S)(x:rD s.heap d es ep)(hn:es.size<=aj)(q:∀h' tk acc,(∀b o,s.heap.get? b=L o->h'.get? b=L o)->s.heap.objs.size<=h'.objs.size->su (λi v=>∃u,es[i]?=L u/\v=u.key) acc es.size->R acc.toList { s with heap:=h',toks:=tk }):aT (aW prog w) A (Dj (.ref d)) R E s:=by
 have hd:=let⟨_,e,_⟩:=x;aO e
 have new:(s.heap.push { cls:=.type "list",data:=.seq #[] }).get? s.heap.objs.size=L { cls:=.type "list",data:=.seq #[] }:=aS _ rfl;refine ai (IA (gQ Au ?_));rw[eL vd _];refine(ai (ie (aL #[jn lB _,gQ Fe ?_])));rw[eL lB _];have run:=kdl_extend (prog:=prog) (w:=w) (s:={ s with heap:=s.heap.push { cls:=.type "list",data:=.seq #[] } })
  (R:=λz s'=>∃h' tk acc c,z=.ok (.ret (.ref s.heap.objs.size))/\s'={ s with heap:=h',toks:=tk }/\(∀b o,s.heap.get? b=L o->h'.get? b=L o)/\h'.get? s.heap.objs.size=L { cls:=.type "list",dict:=S,data:=.seq acc c,slots:=#[] }/\su (λi v=>∃u,es[i]?=L u/\v=u.key) acc es.size)
  (Zx hS) hh (x.keep λo e=>az _ e) s.heap.objs.size (ja hd) (ja hd) (.ref s.heap.objs.size) 0 new
  (λh' tk acc c k e it=>#[h',tk,acc,c,rfl,rfl,λb o eb=>k b o (bG (aO eb)) (az _ eb),e,it]) hn
 have fin:∀(h':Heap) (tk:Nat) (acc:Array Z) (c:Nat),(∀b o,s.heap.get? b=L o->h'.get? b=L o)->h'.get? s.heap.objs.size=L { cls:=.type "list",dict:=S,data:=.seq acc c,slots:=#[] }->su (λi v=>∃u,es[i]?=L u/\v=u.key) acc es.size->R acc.toList { s with heap:=h',toks:=tk }:=λh' tk acc c k e it=>q h' tk acc k (fP (aO e)) it;refine gZ run (λfl s' z=>?_) λ_ _ z=>?_
 .cases fl with
  |done f=>
   let#[h',tk,acc,c,ef,rfl,k,e,it]:=z;cases ef;exact ai (vV e (aL (fin h' tk acc c k e it)))
  |again g=>
   refine#[z.1,kU z.2 λr s2 y=>?_];let#[h',tk,acc,c,rfl,rfl,k,e,it]:=y;exact ai (vV e (aL (fin h' tk acc c k e it)))
 .obtain⟨_,_,_,_,ez,_⟩:=z;cases ez
def Ly(hc:X.calm=W):mE X (.builtin "sorted") (λvs H Q=>∃a kvs,vs=[.ref a]/\Rd H a (.dT kvs)/\sortable (kvs.map (·.1))=W /\
  ∀(ts:M Addr),jX H (kvs.map (·.1)) ts->∀p,H p=S->Q (.ref p) (upd H p (.lst ((dX (kvs.map (·.1))).map λi=>.ref (ts.getD i 0))))):=by
 intro pins s U H vs us Q I r h;let#[a,kvs,rfl,hd,hk,q]:=h;let#[u,rfl,ru]:=vals1 r;cases ru;let#[hz,hS,xs,rx,o,es,ep,h1,h2,h3,h4,h5]:=(O7 I.hok hd);have hts:=Hr rx;have hlen:=(Paired.length rx).symm;have hsz:es.size=zl xs:=by rw[<-ee,h4,aa]
 refine O_ I hts hk (λR hR=>?_) (q _ hts);refine Np hS (I.ok.hd hc) (#[o,h1,h2,h3]:rD s.heap a es ep) (by lia) λh' tk acc keep hle it=>?_;have ea:acc.toList=(xs.map λx=>x.2.1).map bR:=by
  apply kX
  .rw[ee,it.1,hsz,aa,aa]
  .intro i a1 a2;have hi:i<acc.size:=by rw[<-ee];exact a1
   let#[u,e1,e2]:=it.2 i acc[i] (kq hi);have e3:es[i]?=(xs.map (QL (fy (fq X.prog X.w))))[i]?:=by rw[<-h4,iN]
   have hx:i<zl xs:=by rw[<-hsz,<-it.1];exact hi
   rw[e3,bg,aq hx]at e1;cases e1;rw[Array.getElem_toList,e2,dc,dc];rfl
 rw[ea];exact hR h' tk keep hle
theorem Bj(h:bP us vs):∀idx:M Nat,(∀i∈idx,i<zl us)->bP (idx.map λi=>us.getD i .non) (idx.map λi=>vs.getD i eN)
|[],_=>.nil
|i::r,hi=>.cons (nZ h i (hi i aB)) (Bj h r λj hj=>hi j (ao _ hj))
theorem Lz:∀{ts:M Addr}{vs:M Z},bP (ts.map V.ref) vs->vs=ts.map bR
|[],_,.nil=>rfl
|_::_,_,.cons h r=>by cases h;rw[Lz r];rfl
def LA:mE X (.builtin "sorted") (λvs H Q=>∃a us kss,vs=[.ref a]/\Rd H a (.lst us)/\Lx H us kss/\sortable kss=W/\∀p,H p=S->Q (.ref p) (upd H p (.lst ((dX kss).map λi=>us.getD i .non)))):=by
 intro pins s U H vs us Q I r h;let#[a,xs,kss,rfl,hd,hk,hs,q]:=h;let#[u,rfl,ru]:=vals1 r;cases ru;let#[its,r1,p1,_]:=I.list (.inl hd:jh X.K H a xs);let#[k1,k2,k3]:=n9 hs;have hl:its.length=kss.length:=by
  rw[<-r1.length];rcases hk with⟨ts,rfl,ht⟩|⟨ss,rfl,rfl⟩|⟨ss,rfl,rfl⟩
  .rw[aa];exact(Paired.length ht).symm
  .simp
  .simp
 refine Nn (lt:=vG kss) p1.isList (λh' k h2=>?_) (by lia) λh' b c tk keep hle e=>?_
 .rcases hk with⟨ts,rfl,ht⟩|⟨ss,rfl,rfl⟩|⟨ss,rfl,rfl⟩
  .have e:=Lz r1;subst e;exact zO (Paired.imp' (λv ks x=>o5.keep' x k) (Em I.hok ht)) k2 k3 h2
  .exact U4 r1 h2
  .exact U5 r1 h2
 .have lt:∀i∈dX kss,i<xs.length:=λi hi=>by rw[r1.length,hl];exact uV _ _ i hi
  refine#[.ref b,_,I.laid (o:=.lst ((dX kss).map λi=>xs.getD i .non)) keep hle #[?_,_,c,Bj r1 _ lt,?_],rfl,q _ (I.hok.fresh hle)]
  .rw[aa];unfold dX;rw[n6,bY];lia
  .have eo:gD its (vG kss)=(dX kss).map λi=>its.getD i eN:=by
    unfold gD dX;rw[hl]
   rw[<-eo];exact e
end
end L2
end
section
namespace PySem
section
variable{prog:bO}{w:bL}{K:Type} [eT K] {knd:KeyKind prog w K}{A:cQ}{s:ay}{R:Cj->ay->Prop}
def Bk(knd:KeyKind prog w K)(h:Heap)(items:Array Z)(ps:M (M K×Addr×Z)):Prop:=
 items.size=zl ps/\∀(i:Nat) (k:M K) (b:Addr) (v:Z),ps[i]?=L (k,b,v)->∃t,items[i]?=L (.ref t)/\h.IsTuple t (List.toArray [.ref b,v])/\nK knd h k b
def Bk.keep(x:Bk knd h items ps)(hk:∀t xs,h.IsTuple t xs->h'.IsTuple t xs)(hb:∀k b,nK knd h k b->nK knd h' k b):Bk knd h' items ps:=
 #[x.1,λi k b v e=>let⟨t,h1,h2,h3⟩:=x.2 i k b v e;#[t,h1,hk t _ h2,hb k b h3]]
def CZ(x:nK knd h k b)(hb:∀o,h.get? b=L o->h'.get? b=L o):nK knd h' k b:=
 let⟨o,its,n,e,r⟩:=x;#[o,its,n,hb o e,r]
def xM{h h':Heap}(x:h.DictOfH (fy knd) d xs)(hd:∀o,h.get? d=L o->h'.get? d=L o)(hk:∀b o,h.get? b=L o->o.cls=.type "tuple"->h'.get? b=L o):h'.DictOfH (fy knd) d xs:=by
 let#[o,es,ep,e,r1,r2,r3,r4,r5]:=x;refine#[o,es,ep,hd o e,r1,r2,r3,λy hy=>?_,r5];let#[o',its,n,e',c',r]:=r4 y hy;exact#[o',its,n,hk _ o' e' c',c',r]
def yt{h:Heap}(e:h.get? b=L o)(c:o.cls=.type "tuple")(a:h.IsListIter it l i):b≠it:=by
 rintro rfl;let#[o',h3,h4,_]:=a;rw[e]at h3;cases h3;rw[c]at h4;exact aH h4 (by decide)
def DG{h:Heap}(x:nK knd h k b)(a:h.IsListIter it l i):b≠it:=
 let⟨_,_,_,e,c,_⟩:=x;yt e c a
def xN{h:Heap}(e:h.get? b=L o)(x:h.DictOfH (fy knd) d xs)(hc:(o.cls==Value.type "dict")=B):b≠d:=by
 rintro rfl;let#[o',es,ep,h3,hx,_]:=x;rw[e]at h3;cases h3;rw[hx.1]at hc;exact aH hc (by decide)
def LB(x:nK knd h k b)(y:h.DictOfH (fy knd) d xs):b≠d:=
 let⟨_,_,_,e,c,_⟩:=x;xN e y (by rw[c];decide)
def Ht{h:Heap}(a:h.IsTuple t us)(y:h.DictOfH (fy knd) d xs):t≠d:=
 let⟨_,e,c,_⟩:=a;xN e y (by rw[c];decide)
def J7{h:Heap}(a:h.IsList t us)(y:h.DictOfH (fy knd) d xs):t≠d:=
 let⟨_,e,c,_⟩:=a;xN e y (by rw[c];decide)
def vg{h:Heap}(a:h.IsListIter it l i)(y:h.DictOfH (fy knd) d xs):it≠d:=
 let⟨_,e,c,_⟩:=a;xN e y (by rw[c];decide)
def Nq(xs:M (M K×Addr×Z))(k:M K)(a:Addr)(v:Z):zl (sj xs k a v)<=zl xs+1:=by
 unfold sj;split
 .simp
 .simp
noncomputable def vO(acc:M (M K×Addr×Z))(ps:M (M K×Addr×Z)):M (M K×Addr×Z):=ps.foldl (λa p=>sj a p.1 p.2.1 p.2.2) acc
def Dl{it l d:Addr}(hh:A.in1.handled=S)(hu:A.in1.units<eS)(res:Z)(hsz:zl ps<=aj):∀(k i:Nat) (s:ay) (acc:M (M K×Addr×Z)),zl ps-i=k->i<=zl ps->zl acc<=i->s.heap.IsListIter it l i->s.heap.IsList l items->Bk knd s.heap items ps->s.heap.DictOfH (fy knd) d acc->
  (∀(h':Heap) (tk:Nat),s.toks<=tk->h'.DictOfH (fy knd) d (vO acc (ps.drop i))->(∀b o,b≠d->b≠it->s.heap.get? b=L o->h'.get? b=L o)->R (.ok (.ret res)) { s with heap:=h',toks:=tk })->
  kE (aW prog w) A (.builtin "dict.update.loop" #[[.ref d,.ref it,tN (i:J),res],[]]) R s:=by
 intro k;induction k with
 |zero=>
  intro i s acc hk hi hacc hit hl hp hd hR;have hin:i=zl ps:=by lia
  subst hin;refine gQ F.qS ?_;rw[eL F.jg _];refine ai (r9 hh hit hl (by rw[qL];rw[hp.1];exact aK _) λh' hs=>?_);have:=hR h' s.toks (aK _) (by
   rw[EZ];exact xM hd (λo e=>hs d o (vg hit hd).symm e) λb o e c=>hs b o (yt e c hit) e) (λb o _ hb e=>hs b o hb e)
  exact ai (aL (aL this))
 |succ k ih=>
  intro i s acc hk hi hacc hit hl hp hd hR;have hlt:i<zl ps:=by omega
  let#[t,e1,ht,hkey]:=hp.2 i ps[i].1 ps[i].2.1 ps[i].2.2 (aq hlt);refine gQ F.qS ?_;rw[eL F.jg _];refine ai (qM hit hl e1 λh' hit' hs=>?_);have ht':=IsTuple.sameBut ht hs (qT ht hit);have hl':=IsList.sameBut hl hs (A7 hl hit);have hd':=xM hd (λo e=>(hs.2 d (vg hit hd).symm).trans e) λb o e c=>(hs.2 b (yt e c hit)).trans e;have hkey':=CZ hkey λo e=>(hs.2 _ (DG hkey hit)).trans e;have hp':=hp.keep (λt xs a=>IsTuple.sameBut a hs (qT a hit)) λk b x=>CZ x λo e=>(hs.2 _ (DG x hit)).trans e;refine ai (fK ?_);refine ai (Io ?_);let#[o,ho,hc,n,hdat]:=ht';refine ai (pq #[o,ho,hc] ?_);rw[aF (by decide)];refine ai (zw ho hdat (aL ?_));refine fK ?_;refine wpAny_dictSet_heap hu hkey' hd' λh2 hd2 hs2=>?_;have hit2:=IsListIter.sameBut hit' hs2 (vg hit' hd');have hl2:=IsList.sameBut hl' hs2 (J7 hl' hd');have hp2:=hp'.keep (λt xs a=>IsTuple.sameBut a hs2 (Ht a hd')) λk b x=>CZ x λo e=>(hs2.2 _ (LB x hd')).trans e;have hlen:zl (sj acc ps[i].1 ps[i].2.1 ps[i].2.2)<=i+1:=by
   have:=Nq acc ps[i].1 ps[i].2.1 ps[i].2.2
   lia
  have q:=ih (i+1) { s with heap:=h2,toks:=s.toks+(fy knd).draws ps[i].1 } (sj acc ps[i].1 ps[i].2.1 ps[i].2.2) (by lia) hlt hlen hit2 hl2 hp2 hd2 (λh3 tk htk hd3 hk3=>by
   refine hR h3 tk (cH (rP _ _) htk) ?_ ?_
   .rw[iO hlt];exact hd3
   .intro b o hb1 hb2 e;exact hk3 b o hb1 hb2 ((hs2.2 b hb1).trans ((hs.2 b hb2).trans e)))
  exact aL #[jn F.jg _,q]
end
section
variable{prog:bO}{w:bL}{K:Type} [eT K] {knd:KeyKind prog w K}{A:cQ}{E:Z->ay->Prop}{s:ay}
def En{l:Addr}{Q:Z->ay->Prop}(hA:A.handled=S)(hu:A.in1.in1.units<eS)(ho:s.heap.get? l=L o)(hc:o.cls=.type "list")(hdat:o.data=.seq items n)(hno:o.dict=S)(hp:Bk knd s.heap items ps)(hsz:zl ps<=aj)(h:∀(h':Heap) (tk:Nat),h'.DictOfH (fy knd) s.heap.objs.size (vO [] ps)->(∀b o,s.heap.get? b=L o->h'.get? b=L o)->Q (.ref s.heap.objs.size) { s with heap:=h',toks:=tk }):aT (aW prog w) A (call (.type "dict") [.ref l]) Q E s:=by
 refine uB (Q₁:=λmade st=>made=.ref s.heap.objs.size/\st={ s with heap:=s.heap.push { cls:=.type "dict",data:=.dict #[] } }) F.kt_called_dict (F.kt_typeCall_dict_1 _) F.entry_dict_init (E1 _ #[rfl,rfl]) ?_;rintro made st ⟨rfl,rfl⟩;have void:(s.heap.push { cls:=.type "dict",data:=.dict #[] }).DictOfH (fy knd) s.heap.objs.size []:=XW s.heap;have hl1:(s.heap.push { cls:=.type "dict",data:=.dict #[] }).get? l=L o:=az _ ho;have hT1:({ s with heap:=s.heap.push { cls:=.type "dict",data:=.dict #[] } }:ay).TypeIs (.ref l) "list":=#[o,hl1,hc];refine#[void.typeIs,F.args_dict_init_2 _ _,?_]
 delta zq.«dict.__init__»;refine ai ?_;delta w9
 refine ai (r_ void.typeIs ?_);change aT _ _ (pure (s.heap.objs.size,[bR l])) _ _ _;refine aL ?_;show aT _ _ (ly "dict.__init__" s.heap.objs.size (.ref l) [] .none) _ _ _
 delta ly
 refine ai (pq hT1 ?_);rw[aF (by decide)];have hA2:A.in1.in1.handled=S:=hA;refine ai (A8 hl1 hc hdat hno hA2 λh2 tk2 hk2=>?_);show aT _ _ (rule _ >>= _) _ _ _;refine ai (Am ?_);have hl2:h2.IsList l items:=#[o,hk2 _ _ hl1,hc,n,hdat];refine ai (ql hl2 ?_);have hk1:∀b o,s.heap.get? b=L o->h2.get? b=L o:=λb o e=>hk2 b o (az _ e);have hk3:∀b o,h2.get? b=L o->(h2.push { cls:=.type "list_iterator",data:=.fields (List.toArray [.ref l,.int 0 0]) }).get? b=L o:=λb o e=>az _ e;have hd2:h2.DictOfH (fy knd) s.heap.objs.size []:=xM void (λo e=>hk2 _ o e) λb o e _=>hk2 b o e;refine aL #[jn F.jg _,Dl hA2 hu .none hsz (zl ps) 0 _ [] rfl (dg _) (aK _)
  #[_,aS _ rfl,rfl,rfl] (IsList.keep hl2 hk3) (hp.keep (λt xs a=>IsTuple.keep (IsTuple.keep a hk1) hk3) λk b x=>CZ x λo e=>hk3 _ _ (hk1 _ _ e)) (xM hd2 (λo e=>hk3 _ o e) λb o e _=>hk3 b o e) λh4 tk4 _ hd4 hk4=>?_]
 refine#[rfl,h h4 tk4 hd4 λb o e=>hk4 b o ?_ ?_ (hk3 _ _ (hk1 _ _ e))]
 .rintro rfl;exact aH (aO e) (c8 _)
 .rintro rfl;exact aH (aO (hk1 _ _ e)) (c8 _)
end
end PySem
end
section
namespace L2
open PySem PySem.W PySem.Calls PyProof.Rows
section
def Pb(K:ak)(H:Hp):M V->M (M Key×V)->Prop:=Paired λx p=>∃t b,x=.ref t/\tZ K H t [.ref b,p.2]/\H b=L (.tup (p.1.map kV))
def qB(kvs more:M (M Key×V)):M (M Key×V):=more.foldl (λa p=>putK a p.1 p.2) kvs
variable{X:Cx}
theorem N4(I:Inv X pins U H s):∀{xs:M V}{ps:M (M Key×V)}{its:M Z},Pb X.K H xs ps->bP xs its->
 ∃rs:M (M Key×Addr×Z),KT H ps rs/\zl its=zl rs/\∀(i:Nat) (k:M Key) (b:Addr) (v:Z),rs[i]?=L (k,b,v)->∃t,its[i]?=L (.ref t)/\s.heap.IsTuple t (List.toArray [.ref b,v])/\nK (fq X.prog X.w) s.heap k b
|_,_,_,.nil,.nil=>#[[],.nil,rfl,λi k b v e=>by simp at e]
|_,_,_,.cons (b:=p) hp r,.cons hu ru=>by
 let#[rs,h1,h2,h3]:=N4 I r ru;let#[t,b,rfl,ht,hb]:=hp;cases hu;let#[jts,rj,tp,_]:=I.tuple ht;let#[uk,uv,rfl,rk,rvv]:=vals2 rj;cases rk;refine#[(p.1,b,uv)::rs,.cons #[rfl,hb,rvv] h1,by simp[h2],?_];intro i k b' v e;cases i with
 |zero=>
  simp at e;let#[rfl,rfl,rfl]:=e;exact#[t,rfl,tp,uR I.hok hb]
 |succ i=>exact h3 i k b' v (by simpa using e)
theorem Fx:∀{ps:M (M Key×V)}{rs:M (M Key×Addr×Z)}{kvs:M (M Key×V)}{xs:M (M Key×Addr×Z)},KT H ps rs->KT H kvs xs->KT H (qB kvs ps) (vO xs rs)
|_,_,_,_,.nil,x=>x
|_,_,kvs,xs,.cons (a:=p) (b:=r) h t,x=>by
 have e:sj xs r.1 r.2.1 r.2.2=sj xs p.1 r.2.1 r.2.2:=by rw[h.1]
 have q:=Fx t (KT.put x p.1 h.2.1 h.2.2);rw[<-e]at q;exact q
theorem zP:∀(ps kvs:M (M Key×V)),zl (qB kvs ps)<=zl kvs+zl ps
|[],kvs=>aK _
|p::r,kvs=>by
 have h:=zP r (putK kvs p.1 p.2);have h2:=yo kvs p.1 p.2;show(qB (putK kvs p.1 p.2) r).length<=_;rw[cL]
 lia
def Hu(hc:X.calm=W)(hu:X.A.units+60<eS):mE X (.type "dict") (λvs H Q=>∃a xs ps,vs=[.ref a]/\jh X.K H a xs/\Pb X.K H xs ps/\∀p,H p=S->Q (.ref p) (upd H p (.dT (qB [] ps)))):=by
 intro pins s U H vs us Q I r h;let#[a,xs,ps,rfl,hx,hp,q]:=h;let#[u,rfl,ru]:=vals1 r;cases ru;let#[its,rv,#[o,n,e,hcl,hno,hdat],hz]:=I.list hx;let#[rs,kt,hl,hrs]:=N4 I hp rv;have hps:=(Paired.length hp).symm;have hlen:=(Paired.length kt).symm;refine En (I.ok.hd hc) (show X.A.units+1+1<eS by lia) e (by first|exact hcl|exact hno) hdat (by first|exact hno|exact hcl) #[by simpa using hl,λi k b v z=>by
  let#[t,h1,h2,h3]:=hrs i k b v z;exact#[t,by simpa using h1,h2,h3]] (by lia) λh' tk hd hk=>?_
 let#[od,es,ep,d1,d2,d3,d4,_,d5]:=hd;have fresh:=I.hok.fresh (aK _);refine#[.ref s.heap.objs.size,_,I.laid (o:=.dT (qB [] ps)) hk (aK _) #[?_,?_,vO [] rs,(Fx kt .nil).keeps λb ys eb=>?_,od,es,ep,d1,d2,d3,d4,d5],rfl,q _ fresh]
 .have:=zP ps [];rw[jU]at this
  lia
 .have:=I.big;rw[fi];intro z;rw[z]at this;exact aH this (c8 _)
 .rw[aY (λz=>by rw[z,fresh]at eb;cases eb)];exact eb
end
end L2
end
section
namespace L2
open PySem PySem.W PySem.Calls PyProof.Rows PySem.SeqAt
section
variable{prog:bO}{w:bL}{A:cQ}{E:Z->ay->Prop}{s:ay}{l:Addr}{bs:M Bool}{its:M Z}{k:Bool}{Q:Z->ay->Prop}
noncomputable def isI(k:J):Z->Bool
|.int b _=>b==k
|_=>B
theorem N5:∀{ns:M J}{its:M Z},bP (ns.map V.int) its->zl its=zl ns/\∀i,i<zl ns->∃t,its[i]?=L (.int (ns.getD i 0) t)
|[],_,.nil=>#[rfl,λi h=>aH h (oU i)]
|b::bs,_,.cons r q=>by
 let#[h1,h2]:=N5 q;let#[t,rfl]:=r;refine#[by simp[h1],λi hi=>?_];cases i with
 |zero=>exact#[t,rfl]
 |succ i=>simpa using h2 i (by simpa using hi)
def Pc{ns:M J}{k:J}{tk:Tok}(hl:s.heap.IsList l its.toArray)(r:bP (ns.map V.int) its)(hz:zl ns<=aj)(hk:k∈ns)(h:Q (.int (ns.idxOf k:Nat) s.toks) { s with toks:=s.toks+1 }):aT (aW prog w) A (call (.builtin "list.index") [.ref l,.int k tk]) Q E s:=by
 let#[h1,h2]:=N5 r;let#[#[cls,dd,data,sl],ho,hc,n,hd]:=id hl;simp only at hc hd;subst hc hd;have hj:ns.idxOf k<zl ns:=xm.mpr hk;have hs:=bY;have hat:∀i (hi:i<its.toArray.size),isI k its.toArray[i]=(ns.getD i 0==k):=λi hi=>by
  have hi':i<zl ns:=by rw[aV,h1]at hi;exact hi
  let#[t,e]:=h2 i hi';rw[aq (by omega)]at e;have e:=cB e;simp only[List.getElem_toArray];rw[e];rfl
 refine nI Nc #[_,ho,rfl] M2 (K1 _ _)
  (list_indexAt l _ n dd sl (.int k tk) (isI k) (ns.idxOf k) (by rw[aV,h1];exact hj) (by lia) ?_ ?_) #[ho,λy hy=>?_,h]
 .rw[hat];have:=List.getElem_idxOf hj;rw[aZ,aq hj];simp[this]
 .intro m hm hlt;have:=List.not_of_lt_findIdx (p:=(·==k)) (xs:=ns) (i:=m) hlt;rw[hat];have hm':m<zl ns:=kW hlt hj;rw[aZ,aq hm'];simpa using this
 .have hy:y∈its:=by simpa using hy
  let#[i,hi,e]:=gI hy;let#[t,e2]:=h2 i (by lia);rw[aq hi,e]at e2;have e2:=cB e2;subst e2;exact EqAt.int_int _ t k tk
end
end L2
end
section
namespace L2
open PySem PySem.Spec PyProof.Rows
def Sz6(vs:Array Z):Prop:=vs.size=6/\vs[2]?=L .none
noncomputable def mw(P:bO)(w:bL):Bc:=λ_ _ _ _ _ _=>bu
def Eo(X:Cx)(E:XK):Z->ay->Prop:=λ_ _=>bu
section
variable{X:Cx}{E:XK}
def N6:uP (mw X.prog X.w) (X.sC (Eo X E)) E:=λ_ _ _ _ _ _ _ z=>z.elim
def Pd(hst:X.stack=X.env::X.outer)(hf:X.env.frame=L X.env.locals):yc (aW X.prog X.w) X.A X.env (Eo X E):=λ_ _ z=>z.elim
end
def acg{P:bO}{w:bL}{K:ak}{mg:Str->abM Z}{base:Heap}{N:M Str}{qual:Str}{scope:fH}{f:Addr}{cd:Z}{A:cQ}{outer:M Env}{s:ay}{H:Hp}{E:XK}{v:Z}{s':ay}(h:Eo (sL (mw P w) P w K mg base N qual scope f cd A outer s H E) E v s'):(sL (mw P w) P w K mg base N qual scope f cd A outer s H E).xe v s':=h.elim
def ach{P:bO}{w:bL}{K:ak}{mg:Str->abM Z}{base:Heap}{N:M Str}{qual:Str}{scope:fH}{f:Addr}{cd:Z}{A:cQ}{outer:M Env}{s:ay}{H:Hp}{E:XK}{body:M Stmt}{t:TS}(h:yT ((sL (mw P w) P w K mg base N qual scope f cd A outer s H E).sC (Eo (sL (mw P w) P w K mg base N qual scope f cd A outer s H E) E)) body t):yT (sL (mw P w) P w K mg base N qual scope f cd A outer s H E) body t:=
 λpins s1 U H1 D I hw=>gZ (h pins s1 U H1 D (I.sC _) hw) (λ_ _ q=>q.uO) λ_ _ q=>acg q
def exF(m:Bool)(e C:Addr)(od:abM Addr)(h:Heap):Prop:=∃oe vs,h.get? e=L oe/\oe.cls=.ref C/\oe.dict=od/\oe.data=.fields vs/\(Sz6 vs/\(m=W->vs[1]?=L .none))
noncomputable def exH(m:Bool)(e C:Addr)(od:abM Addr):HO:=.ext (exF m e C od)
section
variable{X:Cx}{pins:M (Addr×Obj)}{U σ':St}{H:Hp}{s:ay}
def Inv.aev(I:Inv X pins U H s)(f:sE X pins H b)(ok:fX X.prog X.w (upd H b o) s.heap b o):Inv X pins U (upd H b o) s:=by
 let#[f0,f1,f2,f3,f4,f5]:=f;have ne:∀c u,H c=L u->c≠b:=λc u q z=>by rw[z,f0]at q;cases q
 refine#[I.ok,I.os,I.bare,#[I.base.keep,I.base.slot,λc u q n x=>?_,I.base.there,λc xs q=>?_,λc u w q=>?_,λc ps q=>?_],I.loc,I.cell,?_,λx c q=>?_,λp hp=>?_,λa u q=>?_,I.len]
 .have hcb:c≠b:=λz=>by
   subst z;rcases f3 with z|z
   .exact x z
   .exact aH (bT (aO q) z) (c8 _)
  rw[aY hcb];exact I.base.free c u q n x
 .have z:=I.base.tups c xs q;rw[aY (ne c _ z)];exact z
 .have z:=I.base.aA c u w q;rw[aY (ne c _ z)];exact z
 .obtain⟨more,z⟩:=I.base.tbls c ps q;exact#[more,by rw[aY (ne c _ z)];exact z]
 .rw[aY (gf f1)];exact I.free
 .rw[aY (f4 x c q)];exact I.freeC x c q
 .obtain⟨h1,h2,h3⟩:=I.pin p hp;exact#[h1,by rw[aY (f5 p hp)];exact h2,h3]
 .by_cases z:a=b
  .subst z;rw[bQ]at q;cases q;exact ok
  .rw[aY z]at q;exact(I.hok a u q).stay (λ_ _ _ k=>k) (λc k=>by rw[aY (ne c _ k)];exact k) (λc xs k=>by rw[aY (ne c _ k)];exact k) λc o xs k=>by rw[aY (ne c _ k)];exact k
end
end L2
end
section
namespace L3
open PySem PySem.Spec L2
inductive Bf where
 |len|all|any|int|str|list|tuple|dict|sum|abs|bool|min|max|sorted|dictT
 deriving eT
noncomputable def Bf.name:Bf->Str
|.len=>"len"|.all=>"all"|.any=>"any"|.int=>"int"|.str=>"str"|.list=>"list"|.tuple=>"tuple"|.dict=>"dict"|.sum=>"sum"|.abs=>"abs"|.bool=>"bool"|.min=>"min"|.max=>"max"|.sorted=>"sorted"|.dictT=>"dict"
inductive Mt where
 |append|insert|startswith|split|count|index|join|get|items|pop|extend|clear|upper
 deriving eT
noncomputable def Mt.name:Mt->Str
|.append=>"append"|.insert=>"insert"|.startswith=>"startswith"|.split=>"split"|.count=>"count"|.index=>"index"|.join=>"join"|.get=>"get"|.items=>"items"|.pop=>"pop"|.extend=>"extend"|.clear=>"clear"|.upper=>"upper"
inductive Ty where
 |int|bool|str|list|tuple|dict|none
 deriving eT
noncomputable def Ty.name:Ty->Str
|.int=>"int"|.bool=>"bool"|.str=>"str"|.list=>"list"|.tuple=>"tuple"|.dict=>"dict"|.none=>"NoneType"
set_option genCtorIdx false
mutual
inductive CE where
|var (i:Nat)
|con (v:V)
|bin (op:Ao) (a b:CE)
|neg (a:CE)
|not (a:CE)
|and (a b:CE)
|or (a b:CE)
|ite (c a b:CE)
|cmp (op:K4) (a b:CE)
|call (g:Nat) (as:iV)
|blt (f:Bf) (as:iV)
|isi (a:CE) (t:Ty)
|mth (m:Mt) (o:CE) (as:iV)
|ix (a b:CE)
|sl (a:CE) (lo hi:CO)
|lst (as:iV)
|tup (as:iV)
|dct
|comp (nl:M Str) (fr:M Nat) (elt:CE) (tg:CG) (src:CI) (cond:CO)
|att (g:Nat) (a:CE) (f:Str)
|dcT
|trg (as:iV)
|skl (g:Nat) (fr:M Nat) (n body:CE)
|sit (a:CE)
|lrv (a:CE)
inductive iV where
|nil
|cons (a:CE) (r:iV)
inductive CO where
|none
|some (a:CE)
inductive CG where
|name (i:Nat)
|tup (gs:xO)
|sub (o i:CE)
inductive xO where
|nil
|cons (g:CG) (r:xO)
inductive CI where
|seq (a:CE)
|range (as:iV)
|enum (a:CE)
|rev (a:CE)
|rrg (a:CE)
|kys (a:CE)
end
inductive CB where
|call (g:Nat) (as:iV)
|ite (c:CE) (a b:CB)
mutual
inductive CS where
|expr (e:CE)
|asg (g:CG) (e:CE)
|casg (i:Nat) (e:CE)
|acl (i g:Nat) (as:iV)
|rcl (g:Nat) (as:iV)
|sfld (g k:Nat) (f:Str) (e:CE)
|agi (k j:Nat) (n:J)
|rite (c a b:CE)
|mov (i j:Nat)
|dfs (i:Nat) (nl:M Str) (j k:Nat)
|aug (i:Nat) (e:CE)
|tasg (g:CG) (e:CE)
|ret (e:CE)
|ifs (c:CE) (a b:cF)
|whil (c:CE) (b:cF)
|forr (g:CG) (src:CI) (b:cF)
|brk
|cont
|never
inductive cF where
|nil
|cons (s:CS) (r:cF)
end
noncomputable def xO.len:xO->Nat
|.nil=>0
|.cons _ r=>r.len+1
set_option genCtorIdx true
inductive G where
|val (v:V)
|tup (a:Addr) (xs:M V)
|fn (sp:Sp) (dvs:M V)
|jO (C:Addr) (as:M Str)
|fh (sp:Sp)
|lam (P:Addr)
|nop
noncomputable def Bl(H:Hp)(e:Addr):Hp:=λb=>if b=e then S else H b
def spE(e:Addr)(sp:Sp):Sp:=λvs H Q _=>∃C od,H e=L (exH B e C od)/\sp vs (Bl H e) (λv H2=>H2 e=S->Q v (upd H2 e (exH B e C od))) E0
def KSq(K:ak)(a:Addr)(t:Bool)(xs:M V):Prop:=
 ∃(o:Obj) (its:Array Z) (n:Nat),K.lookup a=L o/\o.cls=.type (if t then "tuple" else "list")/\o.dict=S/\o.data=.seq its n/\its.size<=aj/\bP xs its.toList
noncomputable def Ep(H:Hp)(a:Addr):abM (Bool×M V):=match H a with
|some (.lst xs)=>L (B,xs)
|some (.tup xs)=>L (W,xs)
|some (.bq _ (.lst xs))=>L (B,xs)
|some (.bq _ (.tup xs))=>L (W,xs)
|_=>S
def iW(K:ak)(H:Hp)(a:Addr)(t:Bool)(xs:M V):Prop:=Ep H a=L (t,xs)\/KSq K a t xs
def tupS(h:H a=L (.tup xs)):iW K H a W xs:=.inl (by unfold Ep;rw[h])
def Er(K:ak)(H:Hp)(a:Addr)(k:Bool->M V->Prop):Prop:=∃t xs,iW K H a t xs/\k t xs
inductive D where
|non|bl (b:Bool)|int (i:J)|str (x:Str)
|lst (o:Bool) (xs:M D)
|tup (xs:M D)
|cW (o:Bool) (ks:M Key) (xs:M D)
|bS (o:Bool) (ks:M (M Key)) (xs:M D)
|obj (o:Bool) (C:Addr) (ks:M Str) (xs:M D)
mutual
noncomputable def bq:D->D
|.non=>.non
|.bl b=>.bl b
|.int i=>.int i
|.str x=>.str x
|.lst _ xs=>.lst B (aA xs)
|.tup xs=>.tup (aA xs)
|.cW _ ks xs=>.cW B ks (aA xs)
|.bS _ ks xs=>.bS B ks (aA xs)
|.obj _ C ks xs=>.obj B C ks (aA xs)
noncomputable def aA:M D->M D
|[]=>[]
|d::r=>bq d::aA r
end
mutual
noncomputable def aU:D->Bool
|.lst o xs=>o&&aX xs
|.tup xs=>aX xs
|.cW o _ xs=>o&&aX xs
|.bS o _ xs=>o&&aX xs
|.obj o _ _ xs=>o&&aX xs
|_=>W
noncomputable def aX:M D->Bool
|[]=>W
|d::r=>aU d&&aX r
end
mutual
noncomputable def gT:D->D->Bool
|.non,y=>match y with
 |.non=>W
 |_=>B
|.bl a,y=>match y with
 |.bl b=>a==b
 |.int j=>(if a then 1 else 0)==j
 |_=>B
|.int i,y=>match y with
 |.int j=>i==j
 |.bl b=>i==(if b then 1 else 0)
 |_=>B
|.str a,y=>match y with
 |.str b=>a==b
 |_=>B
|.lst _ xs,y=>match y with
 |.lst _ ys=>nq xs ys
 |_=>B
|.tup xs,y=>match y with
 |.tup ys=>nq xs ys
 |_=>B
|.cW _ _ _,_=>B
|.bS _ _ _,_=>B
|.obj _ _ _ _,_=>B
noncomputable def nq:M D->M D->Bool
|[],ys=>match ys with
 |[]=>W
 |_=>B
|x::xs,ys=>match ys with
 |y::ys=>gT x y&&nq xs ys
 |[]=>B
end
mutual
noncomputable def fU:D->Nat->Bool
|.lst _ xs,n=>match n with
 |0=>B
 |n+1=>cU xs n
|.tup xs,n=>match n with
 |0=>B
 |n+1=>cU xs n
|.cW _ _ _,_=>B
|.bS _ _ _,_=>B
|.obj _ _ _ _,_=>B
|_,_=>W
noncomputable def cU:M D->Nat->Bool
|[],_=>W
|d::r,n=>fU d n&&cU r n
end
def dP(d:D):Bool:=fU d 12
def jw(ds:M D):Bool:=cU ds 12
noncomputable def keyOk:Key->Bool
|.inr x=>decide (x.length<=aj)
|.inl _=>W
def keysOk(ks:M Key):Bool:=ks.all keyOk
def nO(k:M Key):Bool:=keysOk k&&decide (zl k<=aj)
def fZ(ks:M (M Key)):Bool:=ks.all nO
mutual
def bx(K:ak)(H:Hp):D->V->Prop
|.non,v=>v=.non
|.bl b,v=>v=.bl b
|.int i,v=>v=.int i
|.str x,v=>v=.str x/\x.length<=aj
|.lst _ ds,v=>∃a vs,v=.ref a/\Rd H a (.lst vs)/\vs.length<=aj/\aM K H ds vs
|.tup ds,v=>∃a vs,v=.ref a/\H a=L (.tup vs)/\vs.length<=aj/\aM K H ds vs
|.cW _ ks ds,v=>∃a kvs,v=.ref a/\H a=L (.dK kvs)/\kvs.length<=aj/\(kvs.map (·.1)=ks/\keysOk ks=W)/\aM K H ds (kvs.map (·.2))
|.bS _ ks ds,v=>∃a kvs,v=.ref a/\H a=L (.dT kvs)/\kvs.length<=aj/\(kvs.map (·.1)=ks/\fZ ks=W)/\aM K H ds (kvs.map (·.2))
|.obj _ C ks ds,v=>∃a dx fs,v=.ref a/\(H a=L (.ins C dx fs)/\H dx=L (.own a))/\fs.length<=1000/\(fs.map (·.1)=ks/\ks.Nodup)/\aM K H ds (fs.map (·.2))
def aM(K:ak)(H:Hp):M D->M V->Prop
|[],vs=>vs=[]
|d::ds,vs=>∃v r,vs=v::r/\bx K H d v/\aM K H ds r
end
def U6(K:ak)(op:Ao)(x y:V)(H:Hp)(Q:VK):Prop:=match op,x,y with
|.Add,.int i,.int j=>Q (.int (i+j)) H
|.Sub,.int i,.int j=>Q (.int (i-j)) H
|.Mult,.int i,.int j=>rC i j/\Q (.int (i*j)) H
|.FloorDiv,.int i,.int j=>vf i j/\Q (.int (i / j)) H
|.Mod,.int i,.int j=>0<j/\Q (.int (i%j)) H
|.Add,.str i,.str j=>i.length+j.length<=aj/\Q (.str (i++j)) H
|.Mult,.str i,.int j=>(0<=j/\j<2 ^ 40/\i.length*j.toNat<=aj)/\Q (.str ⟨(aR j.toNat i.cps.toList).flatten.toArray⟩) H
|.Pow,.int i,.int j=>wg i j/\Q (.int (i ^ j.toNat)) H
|.Add,.ref a,.ref b=>(∃xs ys,Rd H a (.lst xs)/\Rd H b (.lst ys)/\xs.length+ys.length<=aj/\∀p,H p=S->Q (.ref p) (upd H p (.lst (xs++ys))))
  \/ (∃xs ys,iW K H a W xs/\iW K H b W ys/\xs≠[]/\ys≠[]/\xs.length+ys.length<=aj/\∀p,H p=S->Q (.ref p) (upd H p (.tup (xs++ys))))
|.Mult,.ref a,.int k=>∃xs,Rd H a (.lst xs)/\(-(2 ^ 63)<=k/\k<2 ^ 63)/\xs.length*k.toNat<=aj/\∀p,H p=S->Q (.ref p) (upd H p (.lst (aR k.toNat xs).flatten))
|_,_,_=>bu
def memD(x:D)(xs:M D):Bool:=xs.any λy=>gT y x
def Hv(K:ak)(op:K4)(x y:V)(H:Hp)(Q:VK):Prop:=match op,x,y with
|.Lt,.int i,.int j=>Q (.bl (decide (i<j))) H
|.Gt,.int i,.int j=>Q (.bl (decide (j<i))) H
|.Eq,x,y=>∃dx dy,bx K H dx x/\bx K H dy y/\dP dx=W/\dP dy=W/\Q (.bl (gT dx dy)) H
|.NotEq,x,y=>∃dx dy,bx K H dx x/\bx K H dy y/\dP dx=W/\dP dy=W/\Q (.bl (!gT dx dy)) H
|.Is,x,.non=>Q (.bl (decide (x=.non))) H
|.IsNot,x,.non=>Q (.bl (!decide (x=.non))) H
|.In,x,.ref a=>(∃t xs dx ds,iW K H a t xs/\bx K H dx x/\aM K H ds xs/\dP dx=W/\jw ds=W/\Q (.bl (memD dx ds)) H)
  \/ ∃kvs k b,Rd H a (.dT kvs)/\x=.ref b/\H b=L (.tup (k.map kV))/\Q (.bl (jo kvs k).isSome) H
|.NotIn,x,.ref a=>(∃t xs dx ds,iW K H a t xs/\bx K H dx x/\aM K H ds xs/\dP dx=W/\jw ds=W/\Q (.bl (!memD dx ds)) H)
  \/ ∃kvs k b,Rd H a (.dT kvs)/\x=.ref b/\H b=L (.tup (k.map kV))/\Q (.bl (!(jo kvs k).isSome)) H
|_,_,_=>bu
def qh(K:ak)(x:V)(H:Hp)(Q:Bool->Prop):Prop:=match x with
|.bl b=>Q b
|_=>bu
def LC(K:ak)(x y:V)(H:Hp)(Q:VK):Prop:=match x,y with
|.str z,.int i=>z.length<=aj/\∃c,dj z.cps.toList i=L c/\Q (.str ⟨#[c]⟩) H
|.ref a,y=>(∃t xs i v,y=.int i/\iW K H a t xs/\dj xs i=L v/\Q v H)\/(∃kvs k v,Rd H a (.dK kvs)/\y=kV k/\jo kvs k=L v/\Q v H)
  \/ ∃kvs k b v,Rd H a (.dT kvs)/\y=.ref b/\H b=L (.tup (k.map kV))/\jo kvs k=L v/\Q v H
|_,_=>bu
noncomputable def cut{α:Type}(xs:M α)(lo hi:abM J):M α:=(xs.drop (HT.oH (zl xs) 0 lo)).take (HT.oH (zl xs) (zl xs) hi-HT.oH (zl xs) 0 lo)
def Yb(K:ak)(x:V)(lo hi:abM J)(H:Hp)(Q:VK):Prop:=match x with
|.str z=>z.length<=aj/\Q (.str ⟨(cut z.cps.toList lo hi).toArray⟩) H
|.ref a=>(Er K H a λt xs=>t=B/\∀p,H p=S->Q (.ref p) (upd H p (.lst (cut xs lo hi))))
  \/ ∃(n:Nat) (xs:M V),iW K H a W xs/\lo=L (n:J)/\hi=S/\1<=n/\n<=xs.length/\∀p,H p=S->Q (.ref p) (upd H p (.tup (xs.drop n)))
|_=>bu
def U7(vs:M V)(H:Hp)(Q:VK):Prop:=match vs with
|[.int i,.int j]=>(-(2 ^ 62)<=i/\i<2 ^ 62/\-(2 ^ 62)<=j/\j<2 ^ 62/\(j-i).toNat<=2 ^ 24)/\∀p,H p=S->Q (.ref p) (upd H p (.tup ((bM (j-i).toNat).map λ(k:Nat)=>V.int (i+(k:J)))))
|_=>bu
noncomputable def sM:V->Bool
|.bl W=>W
|_=>B
noncomputable def aew:V->Bool
|.bl _=>W
|_=>B
def zQ(xs:M V):Bool:=xs.all aew
noncomputable def ack(i:J):Str:=toString i
def RH(K:ak)(H:Hp):M V->M (Key×V)->Prop:=Paired λx p=>∃t,x=.ref t/\tZ K H t [kV p.1,p.2]
def zR(K:ak)(f:Bf)(vs:M V)(H:Hp)(Q:VK):Prop:=match f,vs with
|.len,[.str z]=>z.length<=aj/\Q (.int z.length) H
|.len,[.ref a]=>Er K H a λ_ xs=>Q (.int xs.length) H
|.all,[.ref a]=>Er K H a λt xs=>t=B/\zQ xs=W/\Q (.bl (xs.all sM)) H
|.any,[.ref a]=>Er K H a λt xs=>t=B/\zQ xs=W/\Q (.bl (xs.any sM)) H
|.int,[.bl b]=>Q (.int (if b then 1 else 0)) H
|.max,[.int i,.int j]=>Q (.int (if j>i then j else i)) H
|.min,[.int i,.int j]=>Q (.int (if j<i then j else i)) H
|.tuple,[.ref a]=>∃xs,Rd H a (.lst xs)/\∀p,H p=S->Q (.ref p) (upd H p (.tup xs))
|.list,[.ref a]=>∃xs,Rd H a (.lst xs)/\∀p,H p=S->Q (.ref p) (upd H p (.lst xs))
|.dict,[.ref a]=>∃xs ps,jh K H a xs/\RH K H xs ps/\∀p,H p=S->Q (.ref p) (upd H p (.dK (uS [] ps)))
|.dictT,[.ref a]=>∃xs ps,jh K H a xs/\Pb K H xs ps/\∀p,H p=S->Q (.ref p) (upd H p (.dT (qB [] ps)))
|.sorted,[.ref a]=>(∃kvs,Rd H a (.dT kvs)/\sortable (kvs.map (·.1))=W/\∀ts,jX H (kvs.map (·.1)) ts->∀p,H p=S->Q (.ref p) (upd H p (.lst ((dX (kvs.map (·.1))).map λi=>.ref (ts.getD i 0)))))\/∃us kss,Rd H a (.lst us)/\Lx H us kss/\sortable kss=W/\∀p,H p=S->Q (.ref p) (upd H p (.lst ((dX kss).map λi=>us.getD i .non)))
|_,_=>bu
def Bm(K:ak)(t:Ty)(x:V)(H:Hp)(Q:Bool->Prop):Prop:=match x with
|.int _=>Q (decide (t=.int))
|.ref a=>∃xs,iW K H a W xs/\Q (decide (t=.tuple)||decide (t=.none))
|_=>bu
def pN(H:Hp)(a:Addr):Prop:=match H a with
|some (.lst _)=>True
|_=>bu
def zS(H:Hp)(a:Addr):Prop:=match H a with
|some (.dK _)=>True
|some (.dT _)=>True
|_=>bu
def xP(m:Mt)(x:V)(H:Hp):Prop:=match m,x with
|.append,.ref a=>pN H a
|.insert,.ref a=>pN H a
|.extend,.ref a=>pN H a
|.get,.ref a=>zS H a
|.index,.ref a=>∃xs,Rd H a (.lst xs)
|.index,.str _=>True
|_,_=>bu
def yu(K:ak)(m:Mt)(x:V)(vs:M V)(H:Hp)(Q:VK):Prop:=match m,x,vs with
|.append,.ref l,[y]=>match H l with
 |some (.lst xs)=>zl xs<aj/\Q .non (upd H l (.lst (xs++[y])))
 |_=>bu
|.insert,.ref l,[.int i,y]=>match H l with
 |some (.lst xs)=>(0<=i/\i<2 ^ 40/\zl xs<aj)/\Q .non (upd H l (.lst (xs.take i.toNat++y::xs.drop i.toNat)))
 |_=>bu
|.extend,.ref l,[.ref b]=>match H l with
 |some (.lst xs)=>∃zs,H b=L (.lst zs)/\zl xs+zl zs<=aj/\Q .non (upd H l (.lst (xs++zs)))
 |_=>bu
|.get,.ref l,[k]=>∃kvs k',Rd H l (.dK kvs)/\k=kV k'/\Q ((jo kvs k').getD .non) H
|.get,.ref l,[k,y]=>∃kvs k',Rd H l (.dK kvs)/\k=kV k'/\Q ((jo kvs k').getD y) H
|.index,.ref l,[.int k]=>∃ns:M J,Rd H l (.lst (ns.map V.int))/\k∈ns/\Q (.int (ns.idxOf k)) H
|_,_,_=>bu
inductive Item where
|v (x:V)
|tup (xs:M V)
def mkItem(it:Item)(H:Hp)(k:V->Hp->Prop):Prop:=match it with
|.v x=>k x H
|.tup xs=>∀p,H p=S->k (.ref p) (upd H p (.tup xs))
noncomputable def qU:Nat->M V->M Item
|_,[]=>[]
|n,x::r=>.tup [.int (n:J),x]::qU (n+1) r
noncomputable def acm:M V->M V->M Item
|x::xs,y::ys=>.tup [x,y]::acm xs ys
|_,_=>[]
abbrev TIt:=St->Hp->((Hp->Prop)->M Item->Hp->Prop)->Prop
def forL(ok:Hp->Prop)(g:TG)(body:TS)(D:Ends):M Item->St->Hp->Prop
|[],U,H=>ok H/\D.nx U H
|it::r,U,H=>ok H/\mkItem it H λx H1=>g x U H1 fun σ2 H2=>body { D with nx:=forL ok g body D r,ct:=forL ok g body D r,bk:=D.nx } σ2 H2
def sO(ok:Hp->Prop)(g:TG)(cond:TT)(elt:TE)(k:M V->Hp->Prop):M Item->M V->St->Hp->Prop
|[],acc,_,H=>ok H/\k acc H
|it::r,acc,U,H=>ok H/\zl acc<aj/\mkItem it H λx H1=>g x U H1 fun σ2 H2=>cond σ2 H2 λb H3=>
  if b=W then elt σ2 H3 λy H4=>sO ok g cond elt k r (acc++[y]) σ2 H4 else sO ok g cond elt k r acc σ2 H3
noncomputable def chars(z:Str):M V:=z.cps.toList.map λc=>V.str ⟨#[c]⟩
def Hw(K:ak)(x:V)(H:Hp)(k:(Hp->Prop)->M Item->Hp->Prop):Prop:=match x with
|.str z=>z.length<=aj/\k (λ_=>True) ((chars z).map .v) H
|.ref a=>Er K H a λt xs=>k (λH'=>iW K H' a t xs) (xs.map .v) H
|_=>bu
def Fy(vs:M V)(H:Hp)(k:(Hp->Prop)->M Item->Hp->Prop):Prop:=match vs with
|[.int j]=>(-(2 ^ 62)<=j/\j<2 ^ 62)/\k (λ_=>True) ((bM j.toNat).map λ(i:Nat)=>Item.v (.int (i:J))) H
|_=>bu
def gU(U:St)(i:Nat)(k:V->Prop):Prop:=match U[i]? with
|some (L v)=>k v
|_=>bu
def yU:M (M Key)->Hp->(M Addr->Hp->Prop)->Prop
|[],H,k=>k [] H
|x::r,H,k=>∀p,H p=S->yU r (upd H p (.tup (x.map kV))) λts H'=>k (p::ts) H'
noncomputable def mO(ps:M (Str×J)):M (M Key):=ps.map λp=>[.inr p.1,.inl p.2]
def U8(x:V)(H:Hp)(Q:VK):Prop:=∃a ps,x=.ref a/\Rd H a (.dK (ps.map λp:Str×J=>(.inr p.1,V.int p.2)))/\zl ps<64 /\
 yU (mO ps) H λts H1=>∀p,H1 p=S->Q (.ref p) (upd H1 p (.lst ((dX (mO ps)).map λi=>.ref (ts.getD i 0))))
def U9(x:V)(H:Hp)(Q:VK):Prop:=∃b xs,x=.ref b/\Rd H b (.lst xs)/\∀p,H p=S->Q (.ref p) (upd H p (.lst xs.reverse))
noncomputable def Bp(n:Nat):M Item:=(bM n).map λ(i:Nat)=>Item.v (.int ((n:J)-1-i))
abbrev LD(H:Hp)(a:Addr)(ob:Obj)(kvs:M (M Key×V)):Prop:=H a=L (.bq ob (.dT kvs))
noncomputable def yV(ts:M Addr):M Item:=ts.map λt=>Item.v (.ref t)
def RI(x:V)(H:Hp)(k:(Hp->Prop)->M Item->Hp->Prop):Prop:=∃a kvs,x=.ref a/\H a=L (.dT kvs)/\∀ob ts,jX H (kvs.map (·.1)) ts->k (λH'=>LD H' a ob kvs) (yV ts) (upd H a (.bq ob (.dT kvs)))
noncomputable def sP(i:J):M Key->abM (M Key)
|[x,y,z]=>if z=.inl i then L [x,y]else S
|_=>S
def Pe(i:J)(x:V)(H:Hp)(Q:VK):Prop:=∃a kvs,x=.ref a/\H a=L (.dT kvs)/\(zl kvs<=aj/\fZ (kvs.map (·.1))=W/\∀k∈kvs.map (·.1),zl k=3) /\
 yU ((kvs.map (·.1)).filterMap (sP i)) H λts H1=>∀p,H1 p=S->Q (.ref p) (upd H1 p (.lst (ts.map V.ref)))
def LF(O:M G)(g:Nat)(f:Str)(x:V)(H:Hp)(Q:VK):Prop:=match O[g]? with
|some (.jO C as)=>match x with
 |.ref e=>∃dx fs v,H e=L (.ins C dx fs)/\f∈as/\fs.lookup f=L v/\Q v H
 |_=>bu
|_=>bu
def Pf:V->abM Str
|.str x=>L x
|.int i=>if i.natAbs.log2<1920 then L (ack i)else S
|_=>S
def Yc(U:L2.St):M (Str×Nat)->Str->abM Str
|[],a=>L a
|p::r,a=>match U[p.2]? with
 |some (L v)=>(Pf v).bind λy=>Yc U r (a++p.1++y)
 |_=>S
def Pg(tb:TE)(cs:L2.St)(k:M (Addr×M Key)->Hp->Prop):Nat->Nat->M (Addr×M Key)->Hp->Prop
|0,_,ks,H=>k ks H
|m+1,i,ks,H=>tb (L (.int (i:J))::cs) H λy H1=>∃b kk,y=.ref b/\Pg tb cs k m (i+1) (ks++[(b,kk)]) H1
def Ph(te tb:TE)(fr:M Nat):TE:=λU H Q=>te U H λn H1=>∃k:Nat,n=.int (k:J)/\k<64/\∀H2,(H2=H1\/∃c oc P,H1 c=S/\H2=upd H1 c (.bq oc (.own P)))->
 Pg tb (fr.map λi=>U.getD i S) (λks H3=>((∀p∈ks,H3 p.1=L (.tup (p.2.map kV)))/\L2.sortable (ks.map (·.2))=W)/\∀p,H3 p=S->Q (.ref p) (upd H3 p (.lst ((dX (ks.map (·.2))).map λ(i:Nat)=>V.int (i:J))))) k 0 [] H2
mutual
def wE(K:ak)(O:M G)(E:XK):CE->TE
|.var i=>λU H Q=>gU U i λv=>Q v H
|.con v=>λ_ H Q=>Q v H
|.bin op a b=>λU H Q=>wE K O E a U H λx H1=>wE K O E b U H1 λy H2=>U6 K op x y H2 Q
|.neg a=>λU H Q=>wE K O E a U H λx H1=>match x with
 |.int i=>Q (.int (-i)) H1
 |_=>bu
|.not a=>λU H Q=>wE K O E a U H λx H1=>qh K x H1 λb=>Q (.bl (!b)) H1
|.and a b=>λU H Q=>wE K O E a U H λx H1=>match x with
 |.bl c=>if c=W then wE K O E b U H1 Q else Q (.bl B) H1
 |_=>bu
|.or a b=>λU H Q=>wE K O E a U H λx H1=>match x with
 |.bl c=>if c=W then Q (.bl W) H1 else wE K O E b U H1 Q
 |_=>bu
|.ite c a b=>λU H Q=>wT K O E c U H λk H1=>if k=W then wE K O E a U H1 Q else wE K O E b U H1 Q
|.cmp op a b=>λU H Q=>wE K O E a U H λx H1=>wE K O E b U H1 λy H2=>Hv K op x y H2 Q
|.call g as=>λU H Q=>match O[g]? with
 |some (.fn sp dvs)=>wEs K O E as U H λvs H1=>sp (vs++dvs) H1 Q E
 |_=>bu
|.blt f as=>λU H Q=>wEs K O E as U H λvs H1=>zR K f vs H1 Q
|.isi a t=>λU H Q=>wE K O E a U H λx H1=>Bm K t x H1 λb=>Q (.bl b) H1
|.mth m o as=>λU H Q=>wE K O E o U H λx H1=>xP m x H1/\wEs K O E as U H1 λvs H2=>yu K m x vs H2 Q
|.ix a b=>λU H Q=>wE K O E a U H λx H1=>wE K O E b U H1 λy H2=>LC K x y H2 Q
|.sl a lo hi=>λU H Q=>wE K O E a U H λx H1=>wO K O E lo U H1 λl H2=>wO K O E hi U H2 λh H3=>Yb K x l h H3 Q
|.lst as=>λU H Q=>wEs K O E as U H λvs H1=>zl vs<=aj/\∀p,H1 p=S->Q (.ref p) (upd H1 p (.lst vs))
|.tup as=>λU H Q=>wEs K O E as U H λvs H1=>zl vs<=aj/\∀p,H1 p=S->Q (.ref p) (upd H1 p (.tup vs))
|.dct=>λ_ H Q=>∀p,H p=S->Q (.ref p) (upd H p (.dK []))
|.comp nl fr elt tg src cond=>λU H Q=>wI K O E src U H λok items H1=>
  sO ok (wG K O E0 tg) (wC K O E0 cond) (wE K O E0 elt) (λvs H2=>∀p,H2 p=S->Q (.ref p) (upd H2 p (.lst vs))) items [] (nl.map (λ_=>S)++fr.map (λi=>U.getD i S)) H1
|.att g a f=>λU H Q=>wE K O E a U H λx H1=>LF O g f x H1 Q
|.dcT=>λ_ H Q=>∀p,H p=S->Q (.ref p) (upd H p (.dT []))
|.trg as=>λU H Q=>wEs K O E as U H λvs H1=>U7 vs H1 Q
|.skl g fr n body=>λU H Q=>match O[g]? with
 |some (.lam _)=>Ph (wE K O E n) (wE K O E0 body) fr U H Q
 |_=>bu
|.sit a=>λU H Q=>wE K O E a U H λx H1=>U8 x H1 Q
|.lrv a=>λU H Q=>wE K O E a U H λx H1=>U9 x H1 Q
def wT(K:ak)(O:M G)(E:XK):CE->TT
|.not a=>λU H Q=>wT K O E a U H λb H1=>Q (!b) H1
|.and a b=>λU H Q=>wT K O E a U H λc H1=>if c=W then wT K O E b U H1 Q else Q B H1
|.or a b=>λU H Q=>wT K O E a U H λc H1=>if c=W then Q W H1 else wT K O E b U H1 Q
|.ite c a b=>λU H Q=>wT K O E c U H λk H1=>if k=W then wT K O E a U H1 Q else wT K O E b U H1 Q
|.cmp op a b=>λU H Q=>wE K O E a U H λx H1=>wE K O E b U H1 λy H2=>Hv K op x y H2 λz H3=>match z with
 |.bl k=>Q k H3
 |_=>bu
|.var i=>λU H Q=>gU U i λv=>qh K v H λb=>Q b H
|.ix a b=>λU H Q=>wE K O E a U H λx H1=>wE K O E b U H1 λy H2=>LC K x y H2 λv H3=>qh K v H3 λb=>Q b H3
|.call g as=>λU H Q=>match O[g]? with
 |some (.fn sp dvs)=>wEs K O E as U H λvs H1=>sp (vs++dvs) H1 (λx H2=>qh K x H2 λb=>Q b H2) E
 |_=>bu
|.blt f as=>λU H Q=>wEs K O E as U H λvs H1=>zR K f vs H1 λx H2=>qh K x H2 λb=>Q b H2
|.isi a t=>λU H Q=>wE K O E a U H λx H1=>Bm K t x H1 λb=>qh K (.bl b) H1 λb=>Q b H1
|.mth m o as=>λU H Q=>wE K O E o U H λx H1=>xP m x H1/\wEs K O E as U H1 λvs H2=>yu K m x vs H2 λy H3=>qh K y H3 λb=>Q b H3
|_=>λ_ _ _=>bu
def wEs(K:ak)(O:M G)(E:XK):iV->TA
|.nil=>λ_ H Q=>Q [] H
|.cons a r=>λU H Q=>wE K O E a U H λx H1=>wEs K O E r U H1 λxs H2=>Q (x::xs) H2
def wO(K:ak)(O:M G)(E:XK):CO->St->Hp->(abM J->Hp->Prop)->Prop
|.none=>λ_ H Q=>Q S H
|.some a=>λU H Q=>wE K O E a U H λx H1=>match x with
 |.int i=>Q (L i) H1
 |_=>bu
def wC(K:ak)(O:M G)(E:XK):CO->TT
|.none=>λ_ H Q=>Q W H
|.some a=>wT K O E a
def wG(K:ak)(O:M G)(E:XK):CG->TG
|.name i=>λv U H Q=>Q (U.set i (L v)) H
|.tup gs=>λv U H Q=>match v with
 |.ref a=>Er K H a λt xs=>t=W/\zl xs=gs.len/\N7 K O E gs xs U H Q
 |_=>bu
|.sub o i=>λv U H Q=>wE K O E o U H λx H1=>wE K O E i U H1 λy H2=>match x with
 |.ref a=>match H2 a with
  |some (.lst xs)=>∃k j,y=.int k/\iU (zl xs) k=L j/\Q U (upd H2 a (.lst (xs.set j v)))
  |some (.dK kvs)=>∃k,y=kV k/\zl kvs<aj/\Q U (upd H2 a (.dK (putK kvs k v)))
  |some (.dT kvs)=>∃k b,y=.ref b/\H2 b=L (.tup (k.map kV))/\zl kvs<aj/\Q U (upd H2 a (.dT (putK kvs k v)))
  |_=>bu
 |_=>bu
def N7(K:ak)(O:M G)(E:XK):xO->Le
|.nil=>λvs U H Q=>match vs with
 |[]=>Q U H
 |_=>bu
|.cons g r=>λvs U H Q=>match vs with
 |v::vr=>wG K O E g v U H fun σ' H'=>N7 K O E r vr σ' H' Q
 |_=>bu
def wI(K:ak)(O:M G)(E:XK):CI->TIt
|.seq a=>λU H k=>wE K O E a U H λx H1=>Hw K x H1 k
|.range as=>λU H k=>wEs K O E as U H λvs H1=>Fy vs H1 k
|.enum a=>λU H k=>wE K O E a U H λx H1=>match x with
 |.ref b=>∃xs,Rd H1 b (.lst xs)/\k (λH'=>Rd H' b (.lst xs)) (qU 0 xs) H1
 |_=>bu
|.rev a=>λU H k=>wE K O E a U H λx H1=>match x with
 |.ref b=>∃xs,Rd H1 b (.lst xs)/\k (λH'=>Rd H' b (.lst xs)) (xs.reverse.map .v) H1
 |_=>bu
|.rrg a=>λU H k=>wE K O E a U H λx H1=>∃n:Nat,x=.int (n:J)/\n<2 ^ 40/\k (λ_=>True) (Bp n) H1
|.kys a=>λU H k=>wE K O E a U H λx H1=>RI x H1 k
end
mutual
def wS(K:ak)(O:M G)(E:XK):CS->TS
|.expr e=>λD U H=>wE K O E e U H λ_ H1=>D.nx U H1
|.asg g e=>λD U H=>wE K O E e U H λx H1=>wG K O E g x U H1 D.nx
|.casg i e=>λD U H=>wE K O E e U H λx H1=>D.nx (U.set i (L x)) H1
|.acl i g as=>λD U H=>wE K O E (.call g as) U H λx H1=>wG K O E (.name i) x U H1 D.nx
|.agi k j n=>λD U H=>gU U k λx=>gU U j λy=>∃a xs i p m,x=.ref a/\H a=L (.lst xs)/\y=.int i/\iU (zl xs) i=L p/\xs[p]?=L (.int m)/\D.nx U (upd H a (.lst (xs.set p (.int (m+n)))))
|.dfs i nl j k=>λD U H=>zl nl=3/\gU U j λy=>gU U k λx=>∃n,y=.int n/\Pe n x H λv H'=>D.nx (U.set i (L v)) H'
|.sfld g k f e=>λD U H=>wE K O E e U H λy H1=>match O[g]? with
 |some (.jO C as)=>f∈as/\gU U k λv=>∃a dx fs,v=.ref a/\H1 a=L (.ins C dx fs)/\zl fs<1000/\D.nx U (upd H1 a (.ins C dx (kG f y fs)))
 |_=>bu
|.aug i e=>L2.abJ i (wE K O E e) (L2.ipI λi j=>i+j)
|.tasg g e=>λD U H=>wE K O E e U H λx H1=>wG K O E g x U H1 D.nx
|.ret e=>λD U H=>wE K O E e U H D.rt
|.rcl g as=>λD U H=>wE K O E (.call g as) U H D.rt
|.rite c a b=>λD U H=>wE K O E (.ite c a b) U H D.rt
|.mov i j=>λD U H=>wE K O E (.var j) U H λx H1=>wG K O E (.name i) x U H1 D.nx
|.ifs c a b=>λD U H=>wT K O E c U H λk H1=>if k=W then wSs K O E a D U H1 else wSs K O E b D U H1
|.whil c b=>λD U H=>∃abq:Nat->St->Hp->Prop,(∃m,abq m U H)/\∀m U H,abq m U H->
  wT K O E c U H λk H1=>if k=W then ∃N:St->Hp->Prop,(∀σ' H',N σ' H'->∃m',m'<m/\abq m' σ' H')/\wSs K O E b { D with nx:=N,ct:=N,bk:=D.nx } U H1 else D.nx U H1
|.forr g src b=>λD U H=>wI K O E src U H λok items H1=>forL ok (wG K O E g) (wSs K O E b) D items U H1
|.brk=>λD U H=>D.bk U H
|.cont=>λD U H=>D.ct U H
|.never=>λ_ _ _=>bu
def wSs(K:ak)(O:M G)(E:XK):cF->TS
|.nil=>λD U H=>D.nx U H
|.cons s r=>λD U H=>wS K O E s { D with nx:=wSs K O E r D } U H
end
end L3
end
section
namespace L3
open PySem PySem.Spec PyProof.Rows L2
def iW.sq{K:ak}(h:iW K H a t xs):(t=B/\jh K H a xs)\/(t=W/\tZ K H a xs):=by
 rcases h with h|⟨o,its,n,hk,hc,hd,hs,hz,r⟩
 .unfold Ep at h;split at h<;>first|(cases h)|skip
  .exact .inl #[rfl,.inl (.inl (by assumption))]
  .exact .inr #[rfl,.inl (.inl (by assumption))]
  .exact .inl #[rfl,.inl (.inr #[_,by assumption])]
  .exact .inr #[rfl,.inl (.inr #[_,by assumption])]
 .cases t with
  |false=>exact .inl #[rfl,.inr #[o,its,n,hk,hc,hd,hs,hz,r]]
  |true=>exact .inr #[rfl,.inr #[o,its,n,hk,hc,hs,hz,r]]
def iW.t8{K:ak}(h:iW K H a W xs):tZ K H a xs:=by
 rcases h.sq with⟨z,_⟩|⟨_,z⟩
 .cases z
 .exact z
def iW.RJ{K:ak}(h:iW K H a B xs):jh K H a xs:=by
 rcases h.sq with⟨_,z⟩|⟨z,_⟩
 .exact z
 .cases z
section
variable{X:Cx}
def toList_replicate(j:Nat)(x:Str):(⟨(aR j x.cps).foldl (·++·) #[]⟩:Str)=⟨(aR j x.cps.toList).flatten.toArray⟩:=by
 have h:∀(j:Nat) (acc:Array Nat),((aR j x.cps).foldl (·++·) acc)=acc++(aR j x.cps.toList).flatten.toArray:=by
  intro j;induction j with
  |zero=>intro acc;simp
  |succ j ih=>
   intro acc;rw[eB,G3,ih,eB,gC];apply QW;simp
 rw[h];simp
def Pj:nM X (jA .Mult) (λx y H Q=>∃i j,x=.str i/\y=.int j/\(0<=j/\j<2 ^ 40/\i.length*j.toNat<=aj)/\Q (.str ⟨(aR j.toNat i.cps.toList).flatten.toArray⟩) H):=by
 intro pins s U H x y v u Q I rx ry h;let#[i,j,rfl,rfl,#[h0,h1,h2],q]:=h;let#[t,rfl]:=rx;let#[t',rfl]:=ry;have hs:=bY;refine SB.mul #[?_,λhn hc=>?_,λhn hc=>?_] λt' k=>#[.str (OS i j),H,I.tok _,#[_,rfl],?_]
 .have e1:decide (j < -(2 ^ 63:J))=B:=bW (by lia);have e2:decide (j≥2 ^ 63)=B:=bW (by lia);rw[e1,e2];rfl
 .have hj:0<j:=by omega
  intro hgt;have h3:=hgt;have h4:=(Int.ediv_lt_iff_lt_mul hj).mp h3;have h5:((i.length*j.toNat:Nat):J)=(i.length:J)*j:=by
   rw[Int.natCast_mul,Int.toNat_of_nonneg h0]
  omega
 .unfold Q9;simp only[decide_eq_false_iff_not]
  lia
 .have e:OS i j=⟨(aR j.toNat i.cps.toList).flatten.toArray⟩:=by
   unfold OS;by_cases h3:j<1
   .have:j.toNat=0:=by lia
    rw[aF h3,this];rfl
   .rw[aG h3];by_cases h4:(j==1||i.length==0)=W
    .rw[aF h4];rw[Bool.or_eq_true]at h4;rcases h4 with h4|h4
     .have:j=1:=by simpa using h4
      subst this;simp
     .have h5:i.length=0:=by simpa using h4
      have h6:i.cps.toList=[]:=by
       apply jr;simpa[iD]using h5
      rw[h6];cases i with
      |mk c=>
       simp at h6;subst h6;simp
    .rw[aG h4,toList_replicate]
  rw[e];exact q
def Inv.DH(I:L2.Inv X pins U H s)(hH:Rd H l (.lst xs)):xs.length<=aj/\∃(its:M Z) (n:Nat),bP xs its/\xs.length=its.length/\s.heap.get? l=L { cls:=.type "list",data:=.seq its.toArray n }:=by
 let#[z,its,n,r,e]:=hH.ok I.hok;exact#[z,its,n,r,r.length,e]
def op_cat':nM X (jA .Add) (λx y H Q=>∃l b xs zs,x=.ref l/\y=.ref b/\Rd H l (.lst xs)/\Rd H b (.lst zs)/\zl xs+zl zs<=aj/\∀p,H p=S->Q (.ref p) (upd H p (.lst (xs++zs)))):=by
 intro pins s U H x y v u Q I rx ry h;let#[l,b,xs,zs,rfl,rfl,hH,hB,hz,q]:=h;cases rx;cases ry;let#[z,its,n,r,hl,e]:=Inv.DH I hH;let#[z2,its2,n2,r2,hl2,e2]:=Inv.DH I hB;refine XX e e2 ?_ (by grind);have ea:its.toArray++its2.toArray=(its++its2).toArray:=by simp
 rw[ea];exact#[.ref _,_,I.ab8 (r.append r2) (by rw[bf];omega),rfl,q _ I.fresh]
def op_rep':nM X (jA .Mult) (λx y H Q=>∃l k xs,x=.ref l/\y=.int k/\Rd H l (.lst xs)/\-(2 ^ 63)<=k/\k<2 ^ 63/\zl xs*k.toNat<=aj/\∀p,H p=S->Q (.ref p) (upd H p (.lst (aR k.toNat xs).flatten))):=by
 intro pins s U H x y v u Q I rx ry h;let#[l,k,xs,rfl,rfl,hH,h1,h2,hz,q]:=h;cases rx;let#[t,rfl]:=ry;let#[z,its,n,r,hl,e]:=Inv.DH I hH;have hlen:its.toArray.size*k.toNat<=aj:=by rw[aV,<-hl];exact hz
 have hcap:¬its.toArray.size*k.toNat>(2 ^ 63-1) / 8:=by
  have:(aj:Nat)<=(2 ^ 63-1) / 8:=by decide
  lia
 have hfit:¬(!vD k)=W:=by
  rw[IB h1 h2];exact bU
 have hlong:¬pD (its.toArray.size*k.toNat)=W:=by
  rw[Lo hlen];exact bU
 have hnew:G2 (λx1 x2=>x1++x2) #[] (aR (if its.toArray.isEmpty=W then 0 else k.toNat) its.toArray)=(aR k.toNat its).flatten.toArray:=by
  have f0:∀m:Nat,G2 (λx1 x2=>x1++x2) #[] (aR m its.toArray)=(aR m its).flatten.toArray:=λm=>by
   have:=foldl_rep its m [];rw[oW]at this;exact this
  rw[f0];cases its with
  |nil=>simp
  |cons a r'=>rfl
 refine wpAny_binaryOp_repeat_ref (by decide) #[_,e,rfl] (λs'=>G1 s' k t) noFill_list_mul F.fills_int_mul F.slot_int_rmul repeat_list F.slot_int_index.lookup
  (nI F.slot_int_rmul (G1 s k t) F.entry_int_rmul (F.args_int_rmul_2 _ _) (int___rmul___int_list k t l its.toArray n)
   #[e,rfl,#[_,e,rfl],nI F.slot_list_mul #[_,e,rfl] F.entry_list_mul (F.args_list_mul_2 _ _) (Eg l its.toArray n k t hfit hcap hlong) #[e,?_]])
 rw[hnew];exact#[.ref _,_,I.ab8 (r.rep k.toNat) (by rw[len_rep,Nat.mul_comm];exact hz),rfl,q _ I.fresh]
def aex(op:Ao):nM X (jA op) (U6 X.K op):=by
 intro pins s U H x y v u Q I rx ry h;cases op<;>first|(cases x<;>first|exact aC h|(cases y<;>exact aC h))|skip
 case Add=>
  cases x<;>first|exact aC h|(cases y<;>first|exact aC h|skip)
  .exact abS pins s U H _ _ v u Q I rx ry #[_,_,rfl,rfl,h]
  .exact OZ pins s U H _ _ v u Q I rx ry #[_,_,rfl,rfl,h]
  .rcases h with⟨xs,ys,h1,h2,h3,h4⟩|⟨xs,ys,h1,h2,h3,h4,h5,h6⟩
   .exact op_cat' pins s U H _ _ v u Q I rx ry #[_,_,xs,ys,rfl,rfl,h1,h2,h3,h4]
   .have t1:=h1.t8;have t2:=h2.t8;exact Zo pins s U H _ _ v u Q I rx ry #[_,_,xs,ys,rfl,rfl,t1,t2,h3,h5,λz=>aH z h4,λ_=>h6]
 case Sub=>
  cases x<;>first|exact aC h|(cases y<;>first|exact aC h|skip)
  .exact abT pins s U H _ _ v u Q I rx ry #[_,_,rfl,rfl,h]
 case Mult=>
  cases x<;>first|exact aC h|(cases y<;>first|exact aC h|skip)
  .exact abU pins s U H _ _ v u Q I rx ry #[_,_,rfl,rfl,h]
  .exact Pj pins s U H _ _ v u Q I rx ry #[_,_,rfl,rfl,h]
  .obtain⟨xs,h1,⟨h2,h3⟩,h4,h5⟩:=h;exact op_rep' pins s U H _ _ v u Q I rx ry #[_,_,xs,rfl,rfl,h1,h2,h3,h4,h5]
 case FloorDiv=>
  cases x<;>first|exact aC h|(cases y<;>first|exact aC h|skip)
  .exact Zf pins s U H _ _ v u Q I rx ry #[_,_,rfl,rfl,h]
 case Mod=>
  cases x<;>first|exact aC h|(cases y<;>first|exact aC h|skip)
  .exact abV pins s U H _ _ v u Q I rx ry #[_,_,rfl,rfl,h]
 case Pow=>
  cases x<;>first|exact aC h|(cases y<;>first|exact aC h|skip)
  .exact abW pins s U H _ _ v u Q I rx ry #[_,_,rfl,rfl,h]
section
open PySem.SeqAt
variable{pins:M (Addr×Obj)}{U:L2.St}{H:Hp}{s:ay}
theorem aM.len'{K:ak}:∀{ds:M D}{vs:M V},aM K H ds vs->zl vs=zl ds
|[],_,h=>by cases h;rfl
|d::ds,_,h=>by
 let#[v,r,rfl,_,h3]:=h;simp[aM.len' h3]
def Rd.wo{K:ak}(h:Rd H a (.lst xs)):jh K H a xs:=.inl h
mutual
theorem Hx(I:L2.Inv X pins U H s):∀(dx dy:D) (v:V) (n m:Nat),fU dx n=W->fU dy m=W->bx X.K H dx v->bx X.K H dy v->gT dx dy=W
|.non,dy,v,n,m,hn,hm,r,q=>by
 cases r;cases dy with
 |non=>rfl
 |str z=>cases q.1
 |lst o es=>let#[a,vs,z,_]:=q;cases z
 |tup es=>let#[a,vs,z,_]:=q;cases z
 |cW o ks es=>cases hm
 |bS o ks es=>cases hm
 |obj _ _ _ _=>cases hm
 |_=>cases q
|.bl b,dy,v,n,m,hn,hm,r,q=>by
 cases r;cases dy with
 |bl c=>cases q;simp[gT]
 |str z=>cases q.1
 |lst o es=>let#[a,vs,z,_]:=q;cases z
 |tup es=>let#[a,vs,z,_]:=q;cases z
 |cW o ks es=>cases hm
 |bS o ks es=>cases hm
 |obj _ _ _ _=>cases hm
 |_=>cases q
|.int b,dy,v,n,m,hn,hm,r,q=>by
 cases r;cases dy with
 |int c=>cases q;simp[gT]
 |str z=>cases q.1
 |lst o es=>let#[a,vs,z,_]:=q;cases z
 |tup es=>let#[a,vs,z,_]:=q;cases z
 |cW o ks es=>cases hm
 |bS o ks es=>cases hm
 |obj _ _ _ _=>cases hm
 |_=>cases q
|.str b,dy,v,n,m,hn,hm,r,q=>by
 let#[rfl,_]:=r;cases dy with
 |str c=>cases q.1;simp[gT]
 |lst o es=>let#[a,vs,z,_]:=q;cases z
 |tup es=>let#[a,vs,z,_]:=q;cases z
 |cW o ks es=>cases hm
 |bS o ks es=>cases hm
 |obj _ _ _ _=>cases hm
 |_=>cases q
|.lst o ds,dy,v,n,m,hn,hm,r,q=>by
 let#[a,vs,rfl,h2,h3,h4]:=r;cases n with
 |zero=>cases hn
 |succ n=>
 cases dy with
 |lst o' es=>
  let#[a',us,e,k2,k3,k4]:=q;cases e;cases m with
  |zero=>cases hm
  |succ m=>
  have e:=I.zJ (Rd.wo h2) (Rd.wo k2);subst e;exact Es I ds es vs n m hn hm h4 k4
 |tup es=>
  let#[a',us,e,k2,k3,k4]:=q;cases e;let#[its,_,#[o1,n1,e1,c1,_],_]:=I.list (Rd.wo h2);let#[its2,_,#[o2,e2,c2,_],_]:=I.tuple (tupS k2).t8;rw[e1]at e2;cases e2;rw[c1]at c2;exact aH c2 (by decide)
 |str z=>cases q.1
 |cW o ks es=>cases hm
 |bS o ks es=>cases hm
 |obj _ _ _ _=>cases hm
 |_=>cases q
|.tup ds,dy,v,n,m,hn,hm,r,q=>by
 let#[a,vs,rfl,h2,h3,h4]:=r;cases n with
 |zero=>cases hn
 |succ n=>
 cases dy with
 |tup es=>
  let#[a',us,e,k2,k3,k4]:=q;cases e;cases m with
  |zero=>cases hm
  |succ m=>
  have e:=I.IG (tupS h2).t8 (tupS k2).t8;subst e;exact Es I ds es vs n m hn hm h4 k4
 |lst o es=>
  let#[a',us,e,k2,k3,k4]:=q;cases e;let#[its,_,#[o1,n1,e1,c1,_],_]:=I.list (Rd.wo k2);let#[its2,_,#[o2,e2,c2,_],_]:=I.tuple (tupS h2).t8;rw[e1]at e2;cases e2;rw[c1]at c2;exact aH c2 (by decide)
 |str z=>cases q.1
 |cW o ks es=>cases hm
 |bS o ks es=>cases hm
 |obj _ _ _ _=>cases hm
 |_=>cases q
|.cW _ _ _,dy,v,n,m,hn,hm,r,q=>by cases hn
|.bS _ _ _,dy,v,n,m,hn,hm,r,q=>by cases hn
|.obj _ _ _ _,dy,v,n,m,hn,hm,r,q=>by cases hn
theorem Es(I:L2.Inv X pins U H s):∀(ds es:M D) (vs:M V) (n m:Nat),cU ds n=W->cU es m=W->aM X.K H ds vs->aM X.K H es vs->nq ds es=W
|[],es,vs,n,m,hn,hm,r,q=>by
 cases r;cases es with
 |nil=>rfl
 |cons e es=>let#[_,_,z,_]:=q;cases z
|d::ds,es,vs,n,m,hn,hm,r,q=>by
 let#[v,r',rfl,r1,r2]:=r;cases es with
 |nil=>cases q
 |cons e es=>
  let#[w,q',z,q1,q2]:=q;cases z;have hn':fU d n=W/\cU ds n=W:=by simpa[cU]using hn
  have hm':fU e m=W/\cU es m=W:=by simpa[cU]using hm
  show(gT d e&&nq ds es)=W;rw[Hx I d e v n m hn'.1 hm'.1 r1 q1,Es I ds es r' n m hn'.2 hm'.2 r2 q2];rfl
end
structure Eqs (A:cQ) (s:ay) (v u:Z) (b:Bool):Prop where
 eq:EqAt A s v u b
 rc:RcAt A s v u b
 ne:RcNeAt A s v u (!b)
def ug(A:cQ)(s:ay):M D->M D->M Z->M Z->Prop
|d::ds,e::es,v::vs,u::us=>EqAt A s v u (gT d e)/\ug A s ds es vs us
|_,_,_,_=>True
theorem ug.get:∀{ds es:M D}{vs us:M Z} (j:Nat) {d e:D}{v u:Z},ug A s ds es vs us->ds[j]?=L d->es[j]?=L e->vs[j]?=L v->us[j]?=L u->EqAt A s v u (gT d e)
|d::ds,e::es,v::vs,u::us,0,_,_,_,_,h,a,b,c,f=>by
 simp at a b c f;subst a b c f;exact h.1
|d::ds,e::es,v::vs,u::us,j+1,_,_,_,_,h,a,b,c,f=>ug.get j h.2 (by simpa using a) (by simpa using b) (by simpa using c) (by simpa using f)
|[],_,_,_,j,_,_,_,_,_,a,_,_,_=>by simp at a
|_::_,[],_,_,j,_,_,_,_,_,_,b,_,_=>by simp at b
|_::_,_::_,[],_,j,_,_,_,_,_,_,_,c,_=>by simp at c
|_::_,_::_,_::_,[],j,_,_,_,_,_,_,_,_,f=>by simp at f
def eqAt'(ds es:M D)(j:Nat):Bool:=match ds[j]?,es[j]? with
|some d,L e=>gT d e
|_,_=>W
theorem Et:∀(ds es:M D),zl ds=zl es->(bM (zl ds)).all (eqAt' ds es)=nq ds es
|[],[],_=>rfl
|d::ds,e::es,h=>by
 have ih:=Et ds es (by simpa using h);rw[cL,List.range_succ_eq_map,AV,M3];show(gT d e&&(bM (zl ds)).all (eqAt' (d::ds) (e::es)∘Nat.succ))=(gT d e&&nq ds es);rw[<-ih];congr 1
|[],_::_,h=>by simp at h
|_::_,[],h=>by simp at h
theorem Eu:∀(ds es:M D),zl ds≠zl es->nq ds es=B
|[],[],h=>aH rfl h
|[],_::_,_=>rfl
|_::_,[],_=>rfl
|d::ds,e::es,h=>by
 show(gT d e&&nq ds es)=B;rw[Eu ds es (λz=>h (by simp[z]))];simp
def RK(hl:s.heap.IsList a its.toArray)(hb:s.heap.IsList b its2.toArray)(l1:zl its=zl ds)(l2:zl its2=zl es)(hu:A.units<eS)(he:ug A.in1 s ds es its its2):RcAt A s (.ref a) (.ref b) (nq ds es)/\RcNeAt A s (.ref a) (.ref b) (!nq ds es):=by
 by_cases hz:zl ds=zl es
 .have hsz:its.toArray.size=its2.toArray.size:=by simp;lia
  have he':∀j (h1:j<its.toArray.size) (h2:j<its2.toArray.size),EqAt A.in1 s its.toArray[j] its2.toArray[j] (eqAt' ds es j):=by
   intro j h1 h2;have g1:j<zl its:=by simpa using h1
   have g2:j<zl its2:=by simpa using h2
   have e1:=aq (l:=ds) (i:=j) (by lia);have e2:=aq (l:=es) (i:=j) (by lia);have:=he.get j e1 e2 (aq g1) (aq g2);unfold eqAt';rw[e1,e2];simpa using this
  have r1:=RcAt.lists hl hb hsz hu he';have r2:=RcNeAt.lists hl hb hsz hu he';have ez:its.toArray.size=zl ds:=by simp;omega
  rw[ez,Et ds es hz]at r1 r2;exact#[r1,r2]
 .have hsz:(its.toArray.size != its2.toArray.size)=W:=by simp;lia
  rw[Eu ds es hz];exact#[RcAt.lists_lengths hl hb hsz hu,RcNeAt.lists_lengths hl hb hsz hu]
def Pk(hl:s.heap.IsTuple a its.toArray)(hb:s.heap.IsTuple b its2.toArray)(l1:zl its=zl ds)(l2:zl its2=zl es)(hu:A.units<eS)(he:ug A.in1 s ds es its its2):RcAt A s (.ref a) (.ref b) (nq ds es)/\RcNeAt A s (.ref a) (.ref b) (!nq ds es):=by
 have he':∀j (h1:j<its.toArray.size) (h2:j<its2.toArray.size),EqAt A.in1 s its.toArray[j] its2.toArray[j] (eqAt' ds es j):=by
  intro j h1 h2;have g1:j<zl its:=by simpa using h1
  have g2:j<zl its2:=by simpa using h2
  have e1:=aq (l:=ds) (i:=j) (by lia);have e2:=aq (l:=es) (i:=j) (by lia);have:=he.get j e1 e2 (aq g1) (aq g2);unfold eqAt';rw[e1,e2];simpa using this
 have r1:=RcAt.tuples hl hb hu he';have r2:=RcNeAt.tuples hl hb hu he';have key:((bM (min its.toArray.size its2.toArray.size)).all (eqAt' ds es)&&its.toArray.size==its2.toArray.size)=nq ds es:=by
  by_cases hz:zl ds=zl es
  .have e1:min its.toArray.size its2.toArray.size=zl ds:=by simp;lia
   have e2:(its.toArray.size==its2.toArray.size)=W:=by simp;lia
   rw[e1,e2,Et ds es hz,nY]
  .have e2:(its.toArray.size==its2.toArray.size)=B:=by simp;lia
   rw[e2,p8,Eu ds es hz]
 rw[key]at r1 r2;exact#[r1,r2]
def PlainL.is(p:PlainL h a its):h.IsList a its:=by
 let#[o,n,e,c,_,d]:=p;exact#[o,e,c,n,d]
def IsTup.is(p:IsTup h a its):h.IsTuple a its:=p
mutual
theorem Kz(I:L2.Inv X pins U H s):∀(dx dy:D) (n m:Nat) (x y:V) (v u:Z) (A:cQ),fU dx n=W->fU dy m=W->bx X.K H dx x->L2.RelV x v->bx X.K H dy y->L2.RelV y u->A.units+n<eS->Eqs A s v u (gT dx dy)
|.non,dy,n,m,x,y,v,u,A,hn,hm,r,rv,q,qu,hu=>by
 have hu':A.units<eS:=by omega
 cases r;cases rv;cases dy with
 |non=>cases q;cases qu;exact#[EqAt.same _,RcAt.none_none,RcNeAt.none_none]
 |bl b=>cases q;cases qu;exact#[EqAt.none_bool b,RcAt.none_bool b,RcNeAt.none_bool b]
 |int i=>cases q;let#[t,rfl]:=qu;exact#[EqAt.none_int i t,RcAt.none_int i t,RcNeAt.none_int i t]
 |str z=>let#[rfl,_]:=q;let#[t,rfl]:=qu;exact#[EqAt.none_str z t,RcAt.none_str z t,RcNeAt.none_str z t]
 |lst o es=>
  let#[b,us,rfl,k2,k3,k4]:=q;cases qu;let#[its,_,p,_]:=I.list (Rd.wo k2);exact#[EqAt.none_list (PlainL.is p) hu',RcAt.none_list (PlainL.is p) hu',RcNeAt.none_list (PlainL.is p) hu']
 |tup es=>
  let#[b,us,rfl,k2,k3,k4]:=q;cases qu;let#[its,_,p,_]:=I.tuple (tupS k2).t8;exact#[EqAt.none_tuple (IsTup.is p) hu',RcAt.none_tuple (IsTup.is p) hu',RcNeAt.none_tuple (IsTup.is p) hu']
 |cW _ _ _=>cases hm
 |bS _ _ _=>cases hm
 |obj _ _ _ _=>cases hm
|.bl a,dy,n,m,x,y,v,u,A,hn,hm,r,rv,q,qu,hu=>by
 have hu':A.units<eS:=by omega
 cases r;cases rv;cases dy with
 |non=>cases q;cases qu;exact#[EqAt.bool_none a,RcAt.bool_none a,RcNeAt.bool_none a]
 |bl b=>cases q;cases qu;exact#[EqAt.bool_bool a b,RcAt.bool_bool a b,RcNeAt.bool_bool a b]
 |int i=>cases q;let#[t,rfl]:=qu;exact#[EqAt.bool_int a i t,RcAt.bool_int a i t,RcNeAt.bool_int a i t]
 |str z=>let#[rfl,_]:=q;let#[t,rfl]:=qu;exact#[EqAt.bool_str a z t,RcAt.bool_str a z t,RcNeAt.bool_str a z t]
 |lst o es=>
  let#[b,us,rfl,k2,k3,k4]:=q;cases qu;let#[its,_,p,_]:=I.list (Rd.wo k2);exact#[EqAt.bool_list a (PlainL.is p) hu',RcAt.bool_list a (PlainL.is p) hu',RcNeAt.bool_list a (PlainL.is p) hu']
 |tup es=>
  let#[b,us,rfl,k2,k3,k4]:=q;cases qu;let#[its,_,p,_]:=I.tuple (tupS k2).t8;exact#[EqAt.bool_tuple a (IsTup.is p) hu',RcAt.bool_tuple a (IsTup.is p) hu',RcNeAt.bool_tuple a (IsTup.is p) hu']
 |cW _ _ _=>cases hm
 |bS _ _ _=>cases hm
 |obj _ _ _ _=>cases hm
|.int a,dy,n,m,x,y,v,u,A,hn,hm,r,rv,q,qu,hu=>by
 have hu':A.units<eS:=by omega
 cases r;let#[tt,rfl]:=rv;cases dy with
 |non=>cases q;cases qu;exact#[EqAt.int_none a tt,RcAt.int_none a tt,RcNeAt.int_none a tt]
 |bl b=>cases q;cases qu;exact#[EqAt.int_bool a tt b,RcAt.int_bool a tt b,RcNeAt.int_bool a tt b]
 |int i=>cases q;let#[t,rfl]:=qu;exact#[EqAt.int_int a tt i t,RcAt.int_int a tt i t,RcNeAt.int_int a tt i t]
 |str z=>let#[rfl,_]:=q;let#[t,rfl]:=qu;exact#[EqAt.int_str a tt z t,RcAt.int_str a tt z t,RcNeAt.int_str a tt z t]
 |lst o es=>
  let#[b,us,rfl,k2,k3,k4]:=q;cases qu;let#[its,_,p,_]:=I.list (Rd.wo k2);exact#[EqAt.int_list a tt (PlainL.is p) hu',RcAt.int_list a tt (PlainL.is p) hu',RcNeAt.int_list a tt (PlainL.is p) hu']
 |tup es=>
  let#[b,us,rfl,k2,k3,k4]:=q;cases qu;let#[its,_,p,_]:=I.tuple (tupS k2).t8;exact#[EqAt.int_tuple a tt (IsTup.is p) hu',RcAt.int_tuple a tt (IsTup.is p) hu',RcNeAt.int_tuple a tt (IsTup.is p) hu']
 |cW _ _ _=>cases hm
 |bS _ _ _=>cases hm
 |obj _ _ _ _=>cases hm
|.str a,dy,n,m,x,y,v,u,A,hn,hm,r,rv,q,qu,hu=>by
 have hu':A.units<eS:=by omega
 let#[rfl,_]:=r;let#[tt,rfl]:=rv;cases dy with
 |non=>cases q;cases qu;exact#[EqAt.str_none a tt,RcAt.str_none a tt,RcNeAt.str_none a tt]
 |bl b=>cases q;cases qu;exact#[EqAt.str_bool a tt b,RcAt.str_bool a tt b,RcNeAt.str_bool a tt b]
 |int i=>cases q;let#[t,rfl]:=qu;exact#[EqAt.str_int a tt i t,RcAt.str_int a tt i t,RcNeAt.str_int a tt i t]
 |str z=>let#[rfl,_]:=q;let#[t,rfl]:=qu;exact#[EqAt.str_str a tt z t,RcAt.str_str a tt z t,RcNeAt.str_str a tt z t]
 |lst o es=>
  let#[b,us,rfl,k2,k3,k4]:=q;cases qu;let#[its,_,p,_]:=I.list (Rd.wo k2);exact#[EqAt.str_list a tt (PlainL.is p) hu',RcAt.str_list a tt (PlainL.is p) hu',RcNeAt.str_list a tt (PlainL.is p) hu']
 |tup es=>
  let#[b,us,rfl,k2,k3,k4]:=q;cases qu;let#[its,_,p,_]:=I.tuple (tupS k2).t8;exact#[EqAt.str_tuple a tt (IsTup.is p) hu',RcAt.str_tuple a tt (IsTup.is p) hu',RcNeAt.str_tuple a tt (IsTup.is p) hu']
 |cW _ _ _=>cases hm
 |bS _ _ _=>cases hm
 |obj _ _ _ _=>cases hm
|.lst o ds,dy,n,m,x,y,v,u,A,hn,hm,r,rv,q,qu,hu=>by
 have hu':A.units<eS:=by omega
 have hr:=r;let#[a,vs,rfl,h2,h3,h4]:=r;cases rv;let#[its,rits,p,_]:=I.list (Rd.wo h2);have hn0:=hn;cases n with
 |zero=>cases hn
 |succ n=>
 cases dy with
 |non=>cases q;cases qu;exact#[EqAt.list_none (PlainL.is p) hu',RcAt.list_none (PlainL.is p) hu',RcNeAt.list_none (PlainL.is p) hu']
 |bl b=>cases q;cases qu;exact#[EqAt.list_bool b (PlainL.is p) hu',RcAt.list_bool b (PlainL.is p) hu',RcNeAt.list_bool b (PlainL.is p) hu']
 |int i=>cases q;let#[t,rfl]:=qu;exact#[EqAt.list_int i t (PlainL.is p) hu',RcAt.list_int i t (PlainL.is p) hu',RcNeAt.list_int i t (PlainL.is p) hu']
 |str z=>let#[rfl,_]:=q;let#[t,rfl]:=qu;exact#[EqAt.list_str z t (PlainL.is p) hu',RcAt.list_str z t (PlainL.is p) hu',RcNeAt.list_str z t (PlainL.is p) hu']
 |lst o' es=>
  have hq:=q;let#[b,us,rfl,k2,k3,k4]:=q;cases qu;let#[its2,rits2,p2,_]:=I.list (Rd.wo k2);have hm0:=hm;cases m with
  |zero=>cases hm
  |succ m=>
  let#[r1,r2]:=RK (A:=A) (ds:=ds) (es:=es) (PlainL.is p) (PlainL.is p2) (by rw[<-rits.length,aM.len' h4]) (by rw[<-rits2.length,aM.len' k4]) hu' (LG I ds es n m vs us its its2 A.in1 hn hm h4 rits k4 rits2 (by show A.units+1+n<eS;omega));refine#[?_,r1,r2];by_cases e:a=b
  .subst e;have z:=Hx I (.lst o ds) (.lst o' es) (.ref a) (n+1) (m+1) hn0 hm0 hr hq;rw[z];exact EqAt.same _
  .exact EqAt.of_refs e r1
 |tup es=>
  let#[b,us,rfl,k2,k3,k4]:=q;cases qu;let#[its2,_,p2,_]:=I.tuple (tupS k2).t8;exact#[EqAt.list_tuple (PlainL.is p) (IsTup.is p2) hu',RcAt.list_tuple (PlainL.is p) (IsTup.is p2) hu',RcNeAt.list_tuple (PlainL.is p) (IsTup.is p2) hu']
 |cW _ _ _=>cases hm
 |bS _ _ _=>cases hm
 |obj _ _ _ _=>cases hm
|.tup ds,dy,n,m,x,y,v,u,A,hn,hm,r,rv,q,qu,hu=>by
 have hu':A.units<eS:=by omega
 have hr:=r;let#[a,vs,rfl,h2,h3,h4]:=r;cases rv;let#[its,rits,p,_]:=I.tuple (tupS h2).t8;have hn0:=hn;cases n with
 |zero=>cases hn
 |succ n=>
 cases dy with
 |non=>cases q;cases qu;exact#[EqAt.tuple_none (IsTup.is p) hu',RcAt.tuple_none (IsTup.is p) hu',RcNeAt.tuple_none (IsTup.is p) hu']
 |bl b=>cases q;cases qu;exact#[EqAt.tuple_bool b (IsTup.is p) hu',RcAt.tuple_bool b (IsTup.is p) hu',RcNeAt.tuple_bool b (IsTup.is p) hu']
 |int i=>cases q;let#[t,rfl]:=qu;exact#[EqAt.tuple_int i t (IsTup.is p) hu',RcAt.tuple_int i t (IsTup.is p) hu',RcNeAt.tuple_int i t (IsTup.is p) hu']
 |str z=>let#[rfl,_]:=q;let#[t,rfl]:=qu;exact#[EqAt.tuple_str z t (IsTup.is p) hu',RcAt.tuple_str z t (IsTup.is p) hu',RcNeAt.tuple_str z t (IsTup.is p) hu']
 |tup es=>
  have hq:=q;let#[b,us,rfl,k2,k3,k4]:=q;cases qu;let#[its2,rits2,p2,_]:=I.tuple (tupS k2).t8;have hm0:=hm;cases m with
  |zero=>cases hm
  |succ m=>
  let#[r1,r2]:=Pk (A:=A) (ds:=ds) (es:=es) (IsTup.is p) (IsTup.is p2) (by rw[<-rits.length,aM.len' h4]) (by rw[<-rits2.length,aM.len' k4]) hu' (LG I ds es n m vs us its its2 A.in1 hn hm h4 rits k4 rits2 (by show A.units+1+n<eS;omega));refine#[?_,r1,r2];by_cases e:a=b
  .subst e;have z:=Hx I (.tup ds) (.tup es) (.ref a) (n+1) (m+1) hn0 hm0 hr hq;rw[z];exact EqAt.same _
  .exact EqAt.of_refs e r1
 |lst o es=>
  let#[b,us,rfl,k2,k3,k4]:=q;cases qu;let#[its2,_,p2,_]:=I.list (Rd.wo k2);exact#[EqAt.tuple_list (IsTup.is p) (PlainL.is p2) hu',RcAt.tuple_list (IsTup.is p) (PlainL.is p2) hu',RcNeAt.tuple_list (IsTup.is p) (PlainL.is p2) hu']
 |cW _ _ _=>cases hm
 |bS _ _ _=>cases hm
 |obj _ _ _ _=>cases hm
|.cW _ _ _,dy,n,m,x,y,v,u,A,hn,hm,r,rv,q,qu,hu=>by cases hn
|.bS _ _ _,dy,n,m,x,y,v,u,A,hn,hm,r,rv,q,qu,hu=>by cases hn
|.obj _ _ _ _,dy,n,m,x,y,v,u,A,hn,hm,r,rv,q,qu,hu=>by cases hn
theorem LG(I:L2.Inv X pins U H s):∀(ds es:M D) (n m:Nat) (vs us:M V) (its its2:M Z) (A:cQ),cU ds n=W->cU es m=W->aM X.K H ds vs->bP vs its->aM X.K H es us->bP us its2->A.units+n<eS->ug A s ds es its its2
|[],es,n,m,vs,us,its,its2,A,hn,hm,r,rv,q,qu,hu=>by cases its<;>trivial
|d::ds,[],n,m,vs,us,its,its2,A,hn,hm,r,rv,q,qu,hu=>by cases its<;>trivial
|d::ds,e::es,n,m,vs,us,its,its2,A,hn,hm,r,rv,q,qu,hu=>by
 have hn':fU d n=W/\cU ds n=W:=by simpa[cU]using hn
 have hm':fU e m=W/\cU es m=W:=by simpa[cU]using hm
 let#[x,vr,rfl,r1,r2]:=r;let#[y,ur,rfl,q1,q2]:=q;cases rv with
 |cons rv1 rv2=>
  cases qu with
  |cons qu1 qu2=>
   exact#[(Kz I d e n m x y _ _ A hn'.1 hm'.1 r1 rv1 q1 qu1 hu).eq,LG I ds es n m vr ur _ _ A hn'.2 hm'.2 r2 rv2 q2 qu2 hu]
end
end
def aey(hu:X.A.units+60<eS):nM X (lU .Eq) (λx y H Q=>∃dx dy,bx X.K H dx x/\bx X.K H dy y/\dP dx=W/\dP dy=W/\Q (.bl (gT dx dy)) H):=by
 intro pins s U H x y v u Q I rx ry h;let#[dx,dy,h1,h2,h3,h4,q]:=h;exact(Kz I dx dy 12 12 x y v u X.A h3 h4 h1 rx h2 ry (by lia)).rc X.prog X.w X.xe _ #[.bl (gT dx dy),H,I,rfl,q]
def aez(hu:X.A.units+60<eS):nM X (lU .NotEq) (λx y H Q=>∃dx dy,bx X.K H dx x/\bx X.K H dy y/\dP dx=W/\dP dy=W/\Q (.bl (!gT dx dy)) H):=by
 intro pins s U H x y v u Q I rx ry h;let#[dx,dy,h1,h2,h3,h4,q]:=h;exact(Kz I dx dy 12 12 x y v u X.A h3 h4 h1 rx h2 ry (by lia)).ne X.prog X.w X.xe _ #[.bl (!gT dx dy),H,I,rfl,q]
def RL:∀(ds:M D) (its:M Z),zl its=zl ds->(∀(j:Nat) d v,ds[j]?=L d->its[j]?=L v->xo A s v x (gT d dx))->
  ∃e:Z->Bool,(∀y,y∈its.toArray->xo A s y x (e y))/\its.toArray.any e=memD dx ds:=by
 intro ds its hl he
 classical
 refine#[λv=>decide (∃(j:Nat) (d:D),its[j]?=L v/\ds[j]?=L d/\gT d dx=W),λy hy=>?_,?_]
 .have hy:y∈its:=by simpa using hy
  let#[j,hj,ej]:=gI hy;dsimp only;by_cases h:∃(j:Nat) (d:D),its[j]?=L y/\ds[j]?=L d/\gT d dx=W
  .rw[a_ h];let#[k,d,h1,h2,h3]:=h;have:=he k d y h2 h1;rw[h3]at this;exact this
  .rw[bW h];have e1:ds[j]?=L ds[j]:=aq (by omega);have e2:its[j]?=L y:=by rw[aq hj,ej]
   have:=he j _ y e1 e2;cases q:gT ds[j] dx with
   |true=>exact aH #[j,_,e2,e1,q] h
   |false=>rw[q]at this;exact this
 .rw[yj];unfold memD;simp only[List.any_toArray,kZ,eF];constructor
  .rintro⟨v,_,j,d,h1,h2,h3⟩;exact#[d,fT h2,h3]
  .rintro⟨d,hd,h3⟩;let#[j,hj,ej]:=gI hd;have g1:its[j]?=L its[j]:=aq (by omega);exact#[its[j],cz _,j,d,g1,by rw[aq hj,ej],h3]
theorem Ew(hu:X.A.units+60<eS)(I:L2.Inv X pins U H s)(rx:bx X.K H dx x)(rv:L2.RelV x v)(hx:fU dx 12=W):∀{ds:M D}{xs:M V}{its:M Z},aM X.K H ds xs->bP xs its->cU ds 12=W->∀(j:Nat) d w,ds[j]?=L d->its[j]?=L w->xo X.A.in1 s w v (gT d dx)
|[],_,_,_,_,_,j,d,w,h,_=>by simp at h
|e::ds,_,_,r,rr,ho,j,d,w,h1,h2=>by
 let#[y,ys,rfl,r1,r2]:=r;have ho':fU e 12=W/\cU ds 12=W:=by simpa[cU]using ho
 cases rr with
 |cons ra rb=>
  cases j with
  |zero=>
   simp at h1 h2;subst h1 h2;exact(Kz I e dx 12 12 y x _ v X.A.in1 ho'.1 hx r1 ra rx rv (by lia)).eq
  |succ j=>exact Ew hu I rx rv hx r2 rb ho'.2 j d w (by simpa using h1) (by simpa using h2)
set_option tactic.hygienic true in
def Yd(hu:X.A.units+60<eS)(op:K4):nM X (lU op) (Hv X.K op):=by
 intro pins s U H x y v u Q I rx ry h;cases op<;>first|(cases x<;>first|exact aC h|(cases y<;>exact aC h))|skip
 case Lt=>
  cases x<;>first|exact aC h|(cases y<;>first|exact aC h|skip)
  exact ael pins s U H _ _ v u Q I rx ry #[_,_,rfl,rfl,h]
 case Gt=>
  cases x<;>first|exact aC h|(cases y<;>first|exact aC h|skip)
  exact aem pins s U H _ _ v u Q I rx ry #[_,_,rfl,rfl,h]
 case Eq=>exact aey hu pins s U H _ _ v u Q I rx ry h
 case NotEq=>exact aez hu pins s U H _ _ v u Q I rx ry h
 case Is=>
  cases y<;>first|exact aC h|skip
  exact abY pins s U H _ _ v u Q I rx ry #[rfl,h]
 case IsNot=>
  cases y<;>first|exact aC h|skip
  exact Zg pins s U H _ _ v u Q I rx ry #[rfl,h]
 all_goals
  cases y<;>first|exact aC h|skip
  rename_i a;cases ry;rcases h with⟨t,xs,dx,ds,hx,h1,h2,h3,h4,q⟩|⟨kvs,k,b,hk,rfl,hb,q⟩;rcases t with _|_
  .obtain⟨its,r,p,_⟩:=I.list hx.RJ;let#[e,e1,e2]:=RL ds its (by rw[<-r.length,aM.len' h2]) (Ew hu I h1 rx h3 h2 r h4);rw[<-e2]at q
   first|exact OT e (PlainL.is p) e1 ⟨.bl _,H,I,rfl,q⟩|exact M4 e (PlainL.is p) e1 ⟨.bl _,H,I,rfl,q⟩
  .obtain⟨its,r,p,_⟩:=I.tuple hx.t8;let#[e,e1,e2]:=RL ds its (by rw[<-r.length,aM.len' h2]) (Ew hu I h1 rx h3 h2 r h4);rw[<-e2]at q
   first|exact NP e (IsTup.is p) e1 ⟨.bl _,H,I,rfl,q⟩|exact K5 e (IsTup.is p) e1 ⟨.bl _,H,I,rfl,q⟩
  .have w:Bg H a (.ref b) (jo kvs k):=.inr #[kvs,k,b,hk,rfl,hb,rfl]
   first|exact d_in (by lia) I w rx λs3 I3=>#[.bl _,H,I3,rfl,q]|exact Zu (by lia) I w rx λs3 I3=>#[.bl _,H,I3,rfl,q]
def Ye:TruR X (λx H Q=>qh X.K x H λb=>Q b H):=by
 intro pins s U H x v Q I rx h;cases x with
 |bl b=>cases rx;exact mK #[H,I,h]
 |_=>exact aC h
def N8(hu:X.A.units+60<eS):N1 X (λx y H Q=>∃a v,x=.ref a/\Bg H a y (L v)/\Q v H):=by
 intro value slice pins s U H x y v u Q I rx ry h hs;let#[a,z,rfl,g,q]:=h;cases(show v=bR a from rx);have hT:=Nl I g;unfold Ks;refine ai ?_;rw[getitemInPython_of_ne hT.not_modules];refine ai (tT hT K6.lookup ?_);have fin:aT (aW X.prog X.w) X.A (Ed slice B (.ref a) u) (λr ahz=>aT (aW X.prog X.w) X.A (letTemporaryGo value (.ref a) r >>= λ_=>pure r) (EP X pins U Q) X.xe ahz) X.xe s:=by
  rw[hs];exact wpAny_operating (gZ (Rz (by lia) I g ry λw' s3 I3 rw'=>(#[z,H,I3,rw',q]:EP X pins U Q w' s3)) (λr ahz ahL=>ai (wpAny_letTemporaryGo (aL ahL))) λ_ _ x=>x)
 first
  |exact aL (ai fin)
  |exact ai (aL (ai fin))
  |exact ai fin
def ixOk(hu:X.A.units+60<eS):N1 X (LC X.K):=by
 intro value slice pins s U H x y v u Q I rx ry h;unfold LC at h;split at h
 .obtain⟨hz,c,e,q⟩:=h;exact ab5 value slice pins s U H _ _ v u Q I rx ry #[_,_,c,rfl,rfl,hz,e,q]
 .rcases h with⟨t,xs,i,w,rfl,hx,e,q⟩|⟨kvs,k,w,hk,rfl,e,q⟩|⟨kvs,k,b,w,hk,rfl,hb,e,q⟩
  .rcases hx.sq with⟨_,z⟩|⟨_,z⟩
   .exact Zp value slice pins s U H _ _ v u Q I rx ry #[_,xs,_,w,rfl,rfl,z,e,q]
   .exact ab4 value slice pins s U H _ _ v u Q I rx ry #[_,xs,_,w,rfl,rfl,z,e,q]
  .exact N8 hu value slice pins s U H _ _ v u Q I rx ry #[_,w,rfl,.inl #[kvs,k,hk,rfl,e.symm],q]
  .exact N8 hu value slice pins s U H _ _ v u Q I rx ry #[_,w,rfl,.inr #[kvs,k,b,hk,rfl,hb,e.symm],q]
 .exact h.elim
end
def KA(n d:Nat)(v:J):max 0 (min (if v<0 then v+(n:J)else v) (n:J))=((HT.oH n d (L v):Nat):J):=by
 show max 0 (min (if v<0 then v+(n:J)else v) (n:J))=(((if v<0 then(v+(n:J)).toNat else min v.toNat n):Nat):J);by_cases hv:v<0
 .simp only[aF hv];lia
 .simp only[aG hv];lia
def Hz(a b:Nat):QX (a:J) (b:J) 1=(bM (b-a)).map λm=>a+m:=by
 unfold QX;have h1:(1:J)>0:=by lia
 simp only[h1,jT];have e3:(if(a:J)<(b:J)then((b:J)-(a:J)+1-1) / 1 else 0).toNat=b-a:=by lia
 rw[e3];congr 1;funext k
 lia
def idx_eq(lo hi:abM J)(n:Nat):fB lo hi 1 n=(bM (HT.oH n n hi-HT.oH n 0 lo)).map λm=>HT.oH n 0 lo+m:=by
 rw[<-Hz];have h1:(1:J)>0:=by lia
 unfold fB;simp only[h1,jT];cases lo with
 |none=>cases hi with
  |none=>rfl
  |some v=>simp only[KA n n v];rfl
 |some w=>cases hi with
  |none=>simp only[KA n 0 w];rfl
  |some v=>simp only[KA n n v,KA n 0 w]
def Pn{α:Type}(l:M α)(i:Nat):∀k:Nat,((bM k).map λ(m:Nat)=>i+m).filterMap (l[·]?)=(l.drop i).take k:=by
 intro k;induction k with
 |zero=>simp
 |succ k ih=>
  rw[List.range_succ,bE,List.filterMap_append,ih,ve,oA,List.filterMap_nil];cases h:l[i+k]? with
  |none=>
   have hl:=List.getElem?_eq_none_iff.mp h;simp only[d_];rw[fV (by rw[dz];omega),fV (by rw[dz];omega)]
  |some c=>
   rw[List.take_succ,List.getElem?_drop,h];rfl
def U_(a:Array Nat):∀is:M Nat,is.filterMap (a[·]?)=is.filterMap (a.toList[·]?)
|[]=>rfl
|i::r=>by simp
def LH(x:Str)(lo hi:abM J):(fB lo hi 1 x.length).filterMap (x.cps[·]?)=cut x.cps.toList lo hi:=by
 have len:x.cps.toList.length=x.length:=by rfl
 rw[U_,idx_eq,Pn];unfold cut;rw[len]
def yW{α:Type}(l:M α)(lo hi:abM J):zl (cut l lo hi)<=zl l:=by
 unfold cut;rw[cR,dz]
 lia
def Zy(x:Str)(lo hi:abM J)(h:(fB lo hi 1 x.length).length=x.length):cut x.cps.toList lo hi=x.cps.toList:=by
 have len:x.cps.toList.length=x.length:=by simp[iD]
 rw[idx_eq,aa,ig]at h;have h2:=HT.ab2 x.length x.length (aK _) hi;unfold cut;rw[len];by_cases hz:x.length=0
 .have:x.cps.toList=[]:=jr (by lia);rw[this];simp
 .have e0:HT.oH x.length 0 lo=0:=by lia
  rw[e0,IC,fV (by lia)]
section
variable{X:Cx}
set_option tactic.hygienic true in
def slOk:SlR X (Yb X.K):=by
 intro pins s U H x v vl vu lo hi sl Q I rx hs pl pu h;unfold Yb at h;split at h
 .rename_i z;let#[hz,q]:=h;let#[t,rfl]:=rx;refine#["str",_,E6.lookup,G0 s z t,?_];have key:∀l u:abM (J×Tok),vl=partValue l->vu=partValue u->l.map (·.1)=lo->u.map (·.1)=hi->aT (aW X.prog X.w) X.A (zy (.str z t) (.ref sl)) (EP X pins U Q) X.xe s:=by
   rintro l u rfl rfl rfl rfl;have hs':=hs;refine wpAny_getItem_str_slice (st:=S) hs' rfl ?_;have len:z.cps.toList.length=z.length:=by rfl
   have hle:=yW z.cps.toList (l.map (·.1)) (u.map (·.1));have ec:=LH z (l.map (·.1)) (u.map (·.1));have fin:∀t' k,EP X pins U Q (.str ⟨(cut z.cps.toList (l.map (·.1)) (u.map (·.1))).toArray⟩ t') { s with toks:=k }:=λt' k=>#[V.str ⟨(cut z.cps.toList (l.map (·.1)) (u.map (·.1))).toArray⟩,H,I.tok _,#[t',rfl],q];show(if((1:J)==1&&(fB (l.map (·.1)) (u.map (·.1)) 1 z.length).length==z.length)=W then Made.val (.str z t)else Made.str ⟨((fB (l.map (·.1)) (u.map (·.1)) 1 z.length).filterMap (z.cps[·]?)).toArray⟩).post (EP X pins U Q) s;rw[ec];by_cases hc:((1:J)==1&&(fB (l.map (·.1)) (u.map (·.1)) 1 z.length).length==z.length)=W
   .rw[aF hc];have hall:cut z.cps.toList (l.map (·.1)) (u.map (·.1))=z.cps.toList:=Zy z _ _ (by
     rw[cu]at hc;simpa using hc.2)
    have f:=fin t s.toks;rw[hall]at f;exact f
   .rw[aG hc];exact#[by show(List.toArray _).size<=aj;rw[aV];lia,fin _ _]
  cases pl with
  |none=>cases pu with
   |none=>exact key S S rfl rfl rfl rfl
   |int j tj=>exact key S (L (j,tj)) rfl rfl rfl rfl
  |int i ti=>cases pu with
   |none=>exact key (L (i,ti)) S rfl rfl rfl rfl
   |int j tj=>exact key (L (i,ti)) (L (j,tj)) rfl rfl rfl rfl
 .rcases h with⟨t,xs,hx,ht,q⟩|⟨n,xs,hx,rfl,rfl,h1,h2,q⟩
  .rcases hx.sq with⟨_,z⟩|⟨hf,z⟩
   .exact Zq pins s U H _ v vl vu lo hi sl Q I rx hs pl pu #[_,xs,rfl,z,q]
   .rw[ht]at hf;cases hf
  .cases rx;let#[its,r,pt,hz]:=I.tuple hx.t8;have hlen:=r.length;cases pl with
   |int _ tl=>
    cases pu;refine#["tuple",_,Cy.lookup,IsTup.typeIs pt,?_];refine getItem_tuple_from pt hs h1 (by grind) ?_ (by grind);refine#[.ref s.heap.objs.size,_,I.laid (o:=.tup (xs.drop n)) (λb ob q=>az _ q) (aK _) #[by rw[dz];lia,its.drop n,r.drop n,IsTup.new _ _],rfl,q _ (I.hok.fresh (aK _))]
 .exact h.elim
end
def Bf.val:Bf->Z
|.len=>.builtin "len"|.all=>.builtin "all"|.any=>.builtin "any"|.int=>.type "int"|.str=>.type "str"|.list=>.type "list"|.tuple=>.type "tuple"|.dict=>.type "dict"|.sum=>.builtin "sum"|.abs=>.builtin "abs"|.bool=>.type "bool"|.min=>.builtin "min"|.max=>.builtin "max"|.sorted=>.builtin "sorted"|.dictT=>.type "dict"
def Bf.boot:∀f:Bf,tP f.name=L f.val:=by
 intro f;cases f<;>decide +kernel
def Bf.ok(f:Bf):f.name≠"__name__"/\(f.name==("__debug__":Str))=B:=by
 cases f<;>decide +kernel
section
variable{X:Cx}
def Fz{Q:Z->ay->Prop}{E:Z->ay->Prop}(hc:X.calm=W)(I:L2.Inv X pins U H s)(hx:jh X.K H a xs)(h:∀(its:M Z),bP xs its->zl xs<=aj->∀ahr:ay,ahr={ s with heap:=s.heap.push { cls:=.type "list_iterator",data:=.fields (List.toArray [.ref a,.int 0 0]) } }->
   Walks X.prog X.w X.A.in1 s.heap.objs.size [s.heap.objs.size,a] [s.heap.objs.size] its.toArray.size (λi v=>its.toArray[i]?=L v) (λi h=>h.IsListIter s.heap.objs.size a i/\h.IsList a its.toArray)->
   (ahr.heap.IsListIter s.heap.objs.size a 0/\ahr.heap.IsList a its.toArray)->(∀b∈[s.heap.objs.size,a],b<ahr.heap.objs.size)->
   (∀h' tk,(∀b o,b∉[s.heap.objs.size]->ahr.heap.get? b=L o->h'.get? b=L o)->L2.Inv X pins U H { ahr with heap:=h',toks:=tk })->Q (.ref s.heap.objs.size) ahr):
  aT (aW X.prog X.w) X.A.in1 (xf (.ref a)) Q E s:=by
 let#[its,r,pl,hz]:=I.list hx;have hlt:a<s.heap.objs.size:=by let#[o,n,e,_]:=pl;exact aO e
 refine ql pl.isList ?_;have hh:X.A.in1.handled=S:=I.ok.hd hc;refine h its r hz _ rfl (Walks.list hh s.heap.objs.size a (bG hlt) its.toArray) #[#[_,aS _ rfl,rfl,rfl],pl.isList.push _] (λb hb=>?_) λh' tk k=>?_
 .rw[g8];rcases be.mp hb with rfl|hb
  .exact iE _
  .rw[aQ.mp hb];exact qx hlt
 .exact I.kept λb o e=>k b o (λz=>aH (aO e) (by rw[aQ.mp z];exact c8 _)) (az _ e)
def range_all{p:Nat->Bool}{xs:M V}(f:V->Bool)(h:∀i x,xs[i]?=L x->p i=f x):(bM (zl xs)).all p=xs.all f:=by
 rw[yj,bz,bz];constructor
 .intro q x hx;let#[i,hi]:=Av hx;rw[<-h i x hi];exact q i (gc.mpr (bN.mp hi).1)
 .intro q i hi;have hi:=gc.mp hi;rw[h i xs[i] (aq hi)];exact q _ (cz hi)
def N9{A:cQ}{xs:M V}{its:M Z}(rv:bP xs its)(hb:zQ xs=W){i:Nat}{v:Z}{s':ay}{Q':Bool->ay->Prop}{E':Z->ay->Prop}(hi:its[i]?=L v)(hQ:Q' ((xs[i]?.map sM).getD B) s'):aT (aW X.prog X.w) A (MX v) Q' E' s':=by
 have hlen:=rv.length;have hl:i<xs.length:=by grind
 have hxi:xs[i]?=L xs[i]:=aq hl;let#[u,hu,ru]:=rv.get hxi;rw[hi]at hu;cases hu;have hQ:Q' ((xs[i]?.map sM).getD B) s':=hQ;rw[hxi]at hQ;have hbl:∃b,xs[i]=.bl b:=by
  have:=bz.mp hb _ (cz hl);revert this;cases xs[i]<;>intro this<;>first|exact⟨_,rfl⟩|(exact aH (show B=W from this) bU)
 let#[b,eb]:=hbl;rw[eb]at ru hQ;cases ru;refine mK ?_;cases b<;>exact hQ
def J8(hc:X.calm=W):mE X (.builtin "all") (λvs H Q=>∃a xs,vs=[.ref a]/\jh X.K H a xs/\zQ xs=W/\Q (.bl (xs.all sM)) H):=by
 intro pins s U H vs us Q I r h;let#[a,xs,rfl,hx,hb,q]:=h;let#[u,rfl,ru]:=vals1 r;cases ru;refine call_all_walk (Fz hc I hx λits rv hz ahr e abq st hfp fin=>#[_,_,_,_,_,_,λi=>(xs[i]?.map sM).getD B,rfl,abq,st,?_,λh' tk k=>?_])
 .intro i v s' Q' E' hP hQ;exact N9 rv hb (by simpa using hP) hQ
 .have e1:its.toArray.size=zl xs:=by rw[aV];exact rv.length.symm
  rw[e1];have e2:=range_all (p:=λi=>(xs[i]?.map sM).getD B) (xs:=xs) sM (λi x hi=>by rw[hi];rfl);rw[e2];exact#[.bl _,H,fin h' tk k,rfl,q]
def range_any{p:Nat->Bool}{xs:M V}(f:V->Bool)(h:∀i x,xs[i]?=L x->p i=f x):(bM (zl xs)).any p=xs.any f:=by
 rw[yj,kZ,kZ];constructor
 .rintro⟨i,hi,q⟩;have hi:=gc.mp hi;rw[h i xs[i] (aq hi)]at q;exact#[_,cz hi,q]
 .rintro⟨x,hx,q⟩;let#[i,hi]:=Av hx;rw[<-h i x hi]at q;exact#[i,gc.mpr (bN.mp hi).1,q]
def J9(hc:X.calm=W):mE X (.builtin "any") (λvs H Q=>∃a xs,vs=[.ref a]/\jh X.K H a xs/\zQ xs=W/\Q (.bl (xs.any sM)) H):=by
 intro pins s U H vs us Q I r h;let#[a,xs,rfl,hx,hb,q]:=h;let#[u,rfl,ru]:=vals1 r;cases ru;refine call_any_walk (Fz hc I hx λits rv hz ahr e abq st hfp fin=>#[_,_,_,_,_,_,λi=>(xs[i]?.map sM).getD B,rfl,abq,st,?_,λh' tk k=>?_])
 .intro i v s' Q' E' hP hQ;exact N9 rv hb (by simpa using hP) hQ
 .have e1:its.toArray.size=zl xs:=by rw[aV];exact rv.length.symm
  rw[e1];have e2:=range_any (p:=λi=>(xs[i]?.map sM).getD B) (xs:=xs) sM (λi x hi=>by rw[hi];rfl);rw[e2];exact#[.bl _,H,fin h' tk k,rfl,q]
def vN(h:RelV (kV k) u):(fq P w).is k u=W:=by
 cases k with
 |inl i=>let#[t,rfl]:=h;exact Dz P w i t
 |inr x=>let#[t,rfl]:=h;exact DA P w x t
theorem RM(I:L2.Inv X pins U H s):∀{xs:M V}{ps:M (Key×V)}{its:M Z},RH X.K H xs ps->bP xs its->
 ∃rs:M (Key×Z),KV ps rs/\zl its=zl rs/\∀(i:Nat) (k:Key) (v:Z),rs[i]?=L (k,v)->∃t kv,its[i]?=L (.ref t)/\s.heap.IsTuple t (List.toArray [kv,v])/\(fq X.prog X.w).is k kv=W
|_,_,_,.nil,.nil=>#[[],.nil,rfl,λi k v e=>by simp at e]
|_,_,_,.cons (b:=p) hp r,.cons hu ru=>by
 let#[rs,h1,h2,h3]:=RM I r ru;let#[t,rfl,ht]:=hp;cases hu;let#[jts,rj,tp,_]:=I.tuple ht;let#[uk,uv,rfl,rk,rvv]:=vals2 rj;refine#[(p.1,uv)::rs,.cons #[rfl,rvv] h1,by simp[h2],?_];intro i k v e;cases i with
 |zero=>
  simp at e;let#[rfl,rfl]:=e;exact#[t,uk,rfl,tp,vN rk]
 |succ i=>exact h3 i k v (by simpa using e)
theorem FA:∀(ps acc:M (Key×V)),zl (uS acc ps)<=zl acc+zl ps
|[],acc=>aK _
|p::r,acc=>by
 have h:=FA r (putK acc p.1 p.2);have h2:zl (putK acc p.1 p.2)<=zl acc+1:=by
  unfold putK;split
  .rw[aa];lia
  .rw[bf,f_];lia
 show(uS (putK acc p.1 p.2) r).length<=_;rw[cL]
 lia
def J_(hc:X.calm=W):mE X (.type "dict") (λvs H Q=>∃a xs ps,vs=[.ref a]/\jh X.K H a xs/\RH X.K H xs ps/\∀p,H p=S->Q (.ref p) (upd H p (.dK (uS [] ps)))):=by
 intro pins s U H vs us Q I r h;let#[a,xs,ps,rfl,hx,hp,q]:=h;let#[u,rfl,ru]:=vals1 r;cases ru;let#[its,rv,#[o,n,e,hcl,hno,hdat],hz]:=I.list hx;let#[rs,kv,hl,hrs]:=RM I hp rv;have hps:=(Paired.length hp).symm;have hlen:=(Paired.length kv).symm;refine Fp (I.ok.hd hc) e (by first|exact hcl|exact hno) hdat (by first|exact hno|exact hcl) #[by simpa using hl,λi k v z=>by
  let#[t,uk,h1,h2,h3]:=hrs i k v z;exact#[t,uk,by simpa using h1,h2,h3]] (by lia) λh' tk hd hk=>?_
 refine#[.ref s.heap.objs.size,_,I.laid (o:=.dK (uS [] ps)) hk (aK _) #[?_,?_,merged [] rs,KV.merge kv .nil,hd],rfl,q _ (I.hok.fresh (aK _))]
 .have:=FA ps [];rw[jU]at this
  lia
 .have:=I.big;rw[fi];intro z;rw[z]at this;exact aH this (c8 _)
set_option tactic.hygienic true in
def aeA(hc:X.calm=W)(hu:X.A.units+60<eS)(f:Bf):mE X f.val (zR X.K f):=by
 intro pins s U H vs us Q I r h;cases f<;>cases vs<;>first|exact aC h|skip
 case len.cons y w=>
  cases y<;>first|exact aC h|(cases w<;>first|exact aC h|skip)
  .obtain⟨hz,q⟩:=h;exact Lm pins s U H _ us Q I r #[_,rfl,hz,q]
  .obtain⟨t,xs,hx,q⟩:=h;refine Ll pins s U H _ us Q I r #[_,xs,rfl,?_,q];rcases hx.sq with⟨_,z⟩|⟨_,z⟩
   .exact .inl z
   .exact .inr z
 case all.cons y w=>
  cases y<;>first|exact aC h|(cases w<;>first|exact aC h|skip)
  .obtain⟨t,xs,hx,ht,hb,q⟩:=h;subst ht;exact J8 hc pins s U H _ us Q I r #[_,xs,rfl,hx.RJ,hb,q]
 case any.cons y w=>
  cases y<;>first|exact aC h|(cases w<;>first|exact aC h|skip)
  .obtain⟨t,xs,hx,ht,hb,q⟩:=h;subst ht;exact J9 hc pins s U H _ us Q I r #[_,xs,rfl,hx.RJ,hb,q]
 case int.cons y w=>
  cases y<;>first|exact aC h|(cases w<;>first|exact aC h|skip)
  .exact Rp pins s U H _ us Q I r (.inr #[_,rfl,h])
 case list.cons y w=>
  cases y<;>first|exact aC h|(cases w<;>first|exact aC h|skip)
  .obtain⟨xs,hx,q⟩:=h;exact Ln pins s U H _ us Q I r #[_,xs,rfl,.inl (.inl hx),q]
 case tuple.cons y w=>
  cases y<;>first|exact aC h|(cases w<;>first|exact aC h|skip)
  .obtain⟨xs,h1,h2⟩:=h;exact J6 pins s U H _ us Q I r #[_,xs,rfl,.inl #[.inl h1,h2]]
 case dict.cons y w=>
  cases y<;>first|exact aC h|(cases w<;>first|exact aC h|skip)
  .obtain⟨xs,ps,h1,h2,q⟩:=h;exact J_ hc pins s U H _ us Q I r #[_,xs,ps,rfl,h1,h2,q]
 case min.cons y w=>
  cases y<;>first|exact aC h|(cases w<;>first|exact aC h|skip)
  rename_i y w;cases y<;>first|exact aC h|(cases w<;>first|exact aC h|skip)
  .exact Ro hc pins s U H _ us Q I r #[_,_,rfl,h]
 case max.cons y w=>
  cases y<;>first|exact aC h|(cases w<;>first|exact aC h|skip)
  rename_i y w;cases y<;>first|exact aC h|(cases w<;>first|exact aC h|skip)
  .exact Rn hc pins s U H _ us Q I r #[_,_,rfl,h]
 case sorted.cons y w=>
  cases y<;>first|exact aC h|(cases w<;>first|exact aC h|skip)
  .rcases h with⟨kvs,h1,h2,h3⟩|⟨xs,kss,h1,h2,h3,h4⟩
   .exact Ly hc pins s U H _ us Q I r #[_,kvs,rfl,h1,h2,h3]
   .exact LA pins s U H _ us Q I r #[_,xs,kss,rfl,h1,h2,h3,h4]
 case dictT.cons y w=>
  cases y<;>first|exact aC h|(cases w<;>first|exact aC h|skip)
  .obtain⟨xs,ps,h1,h2,q⟩:=h;exact Hu hc hu pins s U H _ us Q I r #[_,xs,ps,rfl,h1,h2,q]
end
end L3
end
section
namespace L3
open PySem PySem.Spec PyProof.Rows L2
open PySem.Builtin PySem.Builtin.Str
section
variable{X:Cx}
noncomputable def KC:Mt->V->String
|_,.str _=>"str"
|.get,_=>"dict"
|_,_=>"list"
noncomputable def Po:Mt->V->String
|.append,_=>"list.append"
|.insert,_=>"list.insert"
|.extend,_=>"list.extend"
|.get,_=>"dict.get"
|.index,.str _=>"str.index"
|.index,_=>"list.index"
|_,_=>""
structure Zz (T:String) (m:Mt) (id:String):Prop where
 pa:PlainAttrs T
 slot:Slot T m.name id
 ty:typeOf (.builtin id)=pure (.type "method_descriptor")
def LI(m:Mt)(x:V)(H:Hp)(h:xP m x H):Zz (KC m x) m (Po m x):=by
 cases m<;>cases x<;>first
  |exact aC h
  |exact⟨F.plainAttrs_list,F.slot_list_append,F.type_list_append⟩
  |exact⟨F.plainAttrs_list,F.slot_list_insert,F.type_list_insert⟩
  |exact⟨F.plainAttrs_str,F.slot_str_startswith,F.type_str_startswith⟩
  |exact⟨F.plainAttrs_str,F.slot_str_upper,F.type_str_upper⟩
  |exact⟨F.plainAttrs_str,F.slot_str_split,F.type_str_split⟩
  |exact⟨F.plainAttrs_str,F.slot_str_count,F.type_str_count⟩
  |exact⟨F.plainAttrs_str,F.slot_str_index,F.type_str_index⟩
  |exact⟨F.plainAttrs_str,F.slot_str_join,F.type_str_join⟩
  |exact⟨F.plainAttrs_dict,F.slot_dict_get,F.type_dict_get⟩
  |exact⟨F.plainAttrs_list,F.slot_list_pop,F.type_list_pop⟩
  |exact⟨F.plainAttrs_list,F.slot_list_count,F.type_list_count⟩
  |exact⟨F.plainAttrs_list,F.slot_list_index,F.type_list_index⟩
  |exact⟨F.plainAttrs_list,F.slot_list_extend,F.type_list_extend⟩
  |exact⟨F.plainAttrs_list,F.slot_list_clear,F.type_list_clear⟩
def N_(I:L2.Inv X pins U H s)(r:RelV x v)(h:xP m x H):s.TypeIs v (KC m x)/\∀a,v=.ref a->∃ob,s.heap.get? a=L ob/\ob.dict=S:=by
 have hl:∀a,x=.ref a->pN H a->Rv X.K "list" x H:=by
  rintro a rfl h;unfold pN at h;split at h
  .exact .inl #[rfl,_,.inl (.inl (by assumption))]
  .exact h.elim
 have hd:∀a,x=.ref a->zS H a->Rv X.K "dict" x H:=by
  rintro a rfl h;unfold zS at h;split at h
  .exact .inr (.inr (.inl #[rfl,.inl #[_,by assumption]]))
  .exact .inr (.inr (.inl #[rfl,.inr #[_,by assumption]]))
  .exact h.elim
 have hr:∀a,x=.ref a->(∃xs,Rd H a (.lst xs))->Rv X.K "list" x H:=by
  rintro a rfl ⟨xs,h⟩;exact .inl #[rfl,xs,.inl h]
 cases m<;>cases x<;>first|exact aC h|exact Ft I r (hl _ rfl h)|exact Ft I r (hr _ rfl h)|exact Ft I r rfl|exact Ft I r (hd _ rfl h)
def ZA(its:M Z)(u:Z)(j:Nat):(its.toArray.extract 0 (min j its.toArray.size)).push u++its.toArray.extract (min j its.toArray.size)=(its.take j++u::its.drop j).toArray:=by
 apply QW;rw[lu,Array.toList_push,Aw,Aw];simp only[aV];by_cases h:j<=zl its
 .rw[G7 h];simp[vX];rw[fV (by rw[dz];lia)]
 .rw[Ff (by lia)];have e1:its.take j=its:=fV (by lia);have e2:its.drop j=[]:=jC (by lia);rw[e1,e2];simp[vX]
def RN:MtM X "list.insert" (λx vs H Q=>∃l xs i y,x=.ref l/\vs=[.int i,y]/\H l=L (.lst xs)/\(0<=i/\i<2 ^ 40/\zl xs<aj)/\Q .non (upd H l (.lst (xs.take i.toNat++y::xs.drop i.toNat)))):=by
 intro pins s U H x vs v us Q I rx rv h;let#[l,xs,i,y,rfl,rfl,hH,#[h0,h1,hz],q]:=h;cases rx;let#[u,w,rfl,ru,rw']:=vals2 rv;let#[t,rfl]:=ru;let#[z,its,n,r,hl,e]:=I.O6 hH;have hfit:¬(!vD i)=W:=by
  rw[IB (by lia) (by lia)];exact bU
 refine nI F.slot_list_insert #[_,e,rfl] F.entry_list_insert (F.args_list_insert_3 _ _ _) (CJ l its.toArray n i t w hfit (by grind)) #[e,?_];refine#[.non,_,I.UU hH e ?_ ((bP.take _ r).append (.cons rw' (bP.drop _ r))) ?_,rfl,q]
 .have e2:(if i<0 then(i+((its.toArray.size:Nat):J)).toNat else min i.toNat its.toArray.size)=min i.toNat its.toArray.size:=aG (by lia);rw[e2];exact ZA its w i.toNat
 .rw[bf,cR,cL,dz]
  lia
set_option tactic.hygienic true in
def Oa(hu:X.A.units+60<eS)(I:L2.Inv X pins U H s)(rx:RelV x v)(rv:bP vs us)(h:yu X.K m x vs H Q):aT (aW X.prog X.w) X.A (call (.builtin (Po m x)) (v::us)) (EP X pins U Q) X.xe s:=by
 cases m<;>cases x<;>first|exact aC h|skip
 case append.ref l=>
  cases vs<;>first|exact aC h|skip
  rename_i y r;cases r<;>first|exact aC h|skip
  .dsimp only[yu]at h;split at h
   .exact Rw pins s U H _ _ v us Q I rx rv #[_,_,_,rfl,rfl,by assumption,h.1,h.2]
   .exact h.elim
 case insert.ref l=>
  cases vs<;>first|exact aC h|skip
  rename_i c r;cases c<;>first|exact aC h|(cases r<;>first|exact aC h|skip)
  rename_i c r;cases r<;>first|exact aC h|skip
  .dsimp only[yu]at h;split at h
   .exact RN pins s U H _ _ v us Q I rx rv #[_,_,_,_,rfl,rfl,by assumption,h.1,h.2]
   .exact h.elim
 case index.ref l=>
  cases vs<;>first|exact aC h|skip
  rename_i c r;cases c<;>first|exact aC h|(cases r<;>first|exact aC h|skip)
  .obtain⟨ns,hx,hk,q⟩:=h;let#[u,rfl,ru]:=vals1 rv;cases rx;let#[t,rfl]:=ru;let#[its,r,p,hz]:=I.list (.inl hx:jh X.K H l _);exact Pc (PlainL.is p) r (by rw[aa]at hz;exact hz) hk #[.int _,H,I.tok _,#[_,rfl],q]
 case get.ref l=>
  cases vs<;>first|exact aC h|skip
  rename_i c r;cases r with
  |nil=>
   let#[kvs,k',hk,rfl,q]:=h;let#[u,rfl,ru]:=vals1 rv;cases rx;exact ace (by lia) I (.inl #[kvs,k',hk,rfl,rfl]) ru λw' s' I' r'=>#[_,H,I',r',q]
  |cons d r=>
  cases r<;>first|exact aC h|skip
  .obtain⟨kvs,k',hk,rfl,q⟩:=h;let#[u,w,rfl,ru,rw']:=vals2 rv;cases rx;exact acf (by lia) I (.inl #[kvs,k',hk,rfl,rfl]) ru rw' λw' s' I' r'=>#[_,H,I',r',q]
 case extend.ref l=>
  cases vs<;>first|exact aC h|skip
  rename_i c r;cases c<;>first|exact aC h|(cases r<;>first|exact aC h|skip)
  rename_i b
  .dsimp only[yu]at h;split at h
   .obtain⟨zs,h1,h2,h3⟩:=h;exact Rx pins s U H _ _ v us Q I rx rv #[_,_,_,zs,rfl,rfl,by assumption,h1,h2,h3]
   .exact h.elim
noncomputable def Ty.val:Ty->Z
|.int=>.type "int"|.bool=>.type "bool"|.str=>.type "str"|.list=>.type "list"|.tuple=>.type "tuple"|.dict=>.type "dict"|.none=>.type "NoneType"
def Ty.boot:∀t:Ty,t≠.none->tP t.name=L t.val:=by
 intro t h;cases t<;>first|decide +kernel|exact aH rfl h
def aco{Q:Bool->Prop}(I:L2.Inv X pins U H s)(rx:RelV x v)(h:Bm X.K ty x H Q)(ht:ty≠.none):aT (aW X.prog X.w) X.A (call (.builtin "isinstance") [v,ty.val]) (EP X pins U λu H'=>H'=H/\∃b,u=.bl b/\Q b) X.xe s:=by
 cases x with
 |int i=>
  let#[t,rfl]:=rx;have key:∀b:Bool,ID X.K (.type "int") ty.val=L b->Q b->aT (aW X.prog X.w) X.A (call (.builtin "isinstance") [.int i t,ty.val]) (EP X pins U λu H'=>H'=H/\∃b,u=.bl b/\Q b) X.xe s:=
   λb e q=>G8 XY I.uM nJ e (λz=>nomatch z) λtk=>#[.bl b,H,I.tok _,rfl,rfl,b,rfl,q]
  cases ty with
  |int=>exact key W rfl h
  |none=>exact aH rfl ht
  |_=>exact key B rfl h
 |ref a=>
  let#[xs,hx,h]:=h;let#[its,_,#[o,h1,h2,_],_]:=I.tuple hx.t8;cases rx;have key2:∀b:Bool,ID X.K (.type "tuple") ty.val=L b->Q b->aT (aW X.prog X.w) X.A (call (.builtin "isinstance") [.ref a,ty.val]) (EP X pins U λu H'=>H'=H/\∃b,u=.bl b/\Q b) X.xe s:=
   λb e q=>G8 Up I.uM #[o,h1,h2] e (λz=>nomatch z) λtk=>#[.bl b,H,I.tok _,rfl,rfl,b,rfl,q]
  cases ty with
  |tuple=>exact key2 W rfl h
  |none=>exact aH rfl ht
  |_=>exact key2 B rfl h
 |_=>exact aC h
end
end L3
end
section
namespace L3
open PySem PySem.Spec PyProof.Rows L2
noncomputable def Yg(z:Str):It:=#[λi _=>i<z.length,λi H x H'=>H'=H/\∃c,z.cps[i]?=L c/\x=.str ⟨#[c]⟩,λi _=>z.length<=i]
def Va{w:bL}{K:ak}{tg:Expr}(it:Addr)(z:Str)(t:Tok)(T:String)(hT:T="str_ascii_iterator"\/T="str_iterator"):Turn P w K tg (Yg z) [it] it (λi h=>h.IsStrIter it T z t i) where
 mem:=by simp
 obj:=λi h st b hb=>by
  have e:b=it:=by simpa using hb
  subst e;let#[o,e,c,d]:=st;exact#[o,e,λv z=>by rw[d]at z;cases z]
 keep:=λi h h' st k=>let⟨o,ho,r⟩:=st;#[o,k it (by simp) o ho,r]
 item:=by
  intro X hP hw hK hc i pins s U H E I hf st hg;subst hP hw hK;let#[f0,f1,f2,f3,f4,f5]:=hf it (by simp);have hh:=I.ok.hd hc;have abq:Walks X.prog X.w X.A it [it] [it] z.cps.size (SignAt z) (λi h=>h.IsStrIter it T z t i):=by
   rcases hT with rfl|rfl
   .exact Walks.strAscii hh it z t
   .exact Walks.strWide hh it z t
  refine abq.item i s _ _ hg st λv h' tk hv st' kk=>?_;let#[c,u,hc,rfl]:=hv;have I1:L2.Inv X pins U H { s with heap:=h',toks:=tk }:=I.turned (λb o hb e=>kk b o (by simpa using hb) e) f0 f1 f3 f4 f5;let#[o,e,c',d]:=id st';refine#[_,rfl,zK e c' d (by rcases hT with rfl|rfl<;>decide) #[.str ⟨#[c]⟩,H,I1,#[u,rfl],#[rfl,c,hc,rfl],st',λb hb=>(hf b hb).1]]
 done:=by
  intro X hP hw hK hc i pins s U H E I hf st hg;subst hP hw hK;let#[f0,f1,f2,f3,f4,f5]:=hf it (by simp);have hn:=Array.getElem?_eq_none_iff.mpr hg;rcases hT with rfl|rfl
  .exact wpAny_pyNext_ascii_end (I.ok.hd hc) st hn λh' eb=>#[rfl,I.turned (λb o hb e=>eb b o hb e) f0 f1 f3 f4 f5]
  .exact wpAny_pyNext_wide_end (I.ok.hd hc) st hn λh' eb=>#[rfl,I.turned (λb o hb e=>eb b o hb e) f0 f1 f3 f4 f5]
 self:=λ_ _ _ _ _ st h=>by
  rcases hT with rfl|rfl
  .exact wpAny_pyIter_striter_ascii st h
  .exact wpAny_pyIter_striter_wide st h
def Inv.HA{t':Nat}{ch:M Addr}(I:L2.Inv X pins U H s)(hf:∀b∈ch,sE X pins H b)(k:∀b o,b∉ch->s.heap.get? b=L o->h'.get? b=L o)(free:∀b o,b∉ch->s.heap.get? b=L o->H b=S->H' b=S)(grow:∀b o,H b=L o->H' b=L o)(hok:gR X.prog X.w H' h'):L2.Inv X pins U H' { s with heap:=h',toks:=t' }:=by
 refine I.step (λb hb=>?_) (λb o _ _ hc e _=>k b o hc e) (λb o _ _ hc e _=>#[o.slots,k b o hc e]) free
  (λb o hc e=>#[o,k b o hc e]) (λ_ _ e=>grow _ _ e) (λ_ _ _ e=>grow _ _ e) (λb ps e=>#[#[],by rw[grow _ _ e];simp]) (λm hm=>?_) hok I.bare
 .obtain⟨f0,f1,f2,f3,f4,f5⟩:=hf b hb;exact#[f3,f1,f4,f5]
 .obtain⟨o,es,ep,ho,r⟩:=hm;exact#[o,es,ep,k _ o (λz=>(hf _ z).2.1 rfl) ho,r]
def FE{X:Cx}{pins:M (Addr×Obj)}{H:Hp}{h h':Heap}{ch:M Addr}(x:gR X.prog X.w H h)(hf:∀b∈ch,H b=S)(k:∀b o,b∉ch->h.get? b=L o->h'.get? b=L o):gR X.prog X.w H h':=λb u e=>by
 refine(x b u e).stay (λc v hc q=>k c v (λz=>?_) q) (λ_ q=>q) (λ_ _ q=>q) λ_ _ _ q=>q;rcases hc with rfl|hc
 .simp_all
 .simp_all
def acp(a:Addr):It:=
 #[λi H=>∃xs x,Rd H a (.lst xs)/\xs[i]?=L x,λi H x H'=>∃p v,H p=S/\x=.ref p/\H'=upd H p (.tup [.int (i:J),v])/\∀xs,Rd H a (.lst xs)->xs[i]?=L v,λi H=>∃xs,Rd H a (.lst xs)/\zl xs<=i]
def RO{P:bO}{w:bL}{K:ak}{elts:M Expr}{x1}{pos:Pos}(a e it:Addr)(hne:e≠it):Turn P w K (.Tuple elts x1 pos) (acp a) [e,it] e (λi h=>(∃old,IsEnum h e it (i:J) old)/\h.IsListIter it a i) where
 mem:=by simp
 obj:=λi h st b hb=>by
  let#[#[old,st1],st2]:=st;have hb:b=e\/b=it:=by simpa using hb
  rcases hb with rfl|rfl
  .exact#[_,st1,λv z=>by cases z]
  .obtain⟨o,e,c,d⟩:=st2;exact#[o,e,λv z=>by rw[d]at z;cases z]
 keep:=λi h h' st k=>by
  let#[#[old,st1],st2]:=st;exact#[#[old,k e (by simp) _ st1],st2.at λo q=>k it (by simp) o q]
 item:=by
  intro X hP hw hK hc i pins s U H E I hf st hg;subst hP hw hK;let#[#[old,st1],st2]:=st;let#[xs,x,hq,hx]:=hg;let#[its,rv,p,hz]:=I.list (.inl hq:jh X.K H a xs);let#[u,hu,ru]:=rv.get hx;refine wpAny_pyNext_enum_item st1 st2 p.isList (by simpa using hu) hne λh1 heo hit1 ht1 hz1 hk1=>?_;refine#[_,rfl,wpAny_letOwnedTupleGo_enum heo λh2 he2 hs2=>?_];have lee:=aO st1;have ne_e:=ja lee;have ht2:=(hs2.2 _ ne_e).trans ht1;have hk2:∀b o,b∉[e,it]->s.heap.get? b=L o->h2.get? b=L o:=λb o hb q=>by
   have hb:b≠e/\b≠it:=by simpa using hb
   exact(hs2.2 b hb.1).trans (hk1 b o hb.1 hb.2 q)
  have hn:=I.hok.fresh (aK _);have hfr:=λb hb=>(hf b hb).1;have hok2:gR X.prog X.w (upd H s.heap.objs.size (.tup [.int (i:J),x])) h2:=by
   have h0:=FE (pins:=pins) I.hok hfr hk2;intro b o q;by_cases hb:b=s.heap.objs.size
   .subst hb;rw[bQ]at q;cases q;refine#[by show(2:Nat)<=_;have:=bY;lia,[.int (i:J) s.toks,u],.cons #[_,rfl] (.cons ru .nil),#[_,ht2,rfl,_,rfl]]
   .rw[aY hb]at q;exact(h0 b o q).stay (λ_ _ _ r=>r) (λc r=>by rw[aY (bZ r hn)];exact r) (λc ys r=>by rw[aY (bZ r hn)];exact r) λc o ys r=>by rw[aY (bZ r hn)];exact r
  have I2:L2.Inv X pins U (upd H s.heap.objs.size (.tup [.int (i:J),x])) { s with heap:=h2,toks:=s.toks+1 }:=
   Inv.HA I hf hk2 (λb o hb q n=>by rw[aY (bG (aO q))];exact n) (λb o q=>by rw[aY (bZ q hn)];exact q) hok2
  refine#[.ref s.heap.objs.size,_,I2,rfl,#[_,x,hn,rfl,rfl,λys hy=>by rw[I.zJ (.inl hy) (.inl hq:jh X.K H a xs)];exact hx],#[#[u,?_],?_],λb hb=>?_]
  .have:((i:J)+1)=((i+1:Nat):J):=by lia
   rw[<-this];exact he2
  .exact hit1.at λo q=>(hs2.2 it (gf hne)).trans q
  .have hlt:b<s.heap.objs.size:=by
    have hb:b=e\/b=it:=by simpa using hb
    rcases hb with rfl|rfl
    .exact lee
    .obtain⟨o,q,_⟩:=st2;exact aO q
   rw[aY (bG hlt)];exact hfr b hb
 done:=by
  intro X hP hw hK hc i pins s U H E I hf st hg;subst hP hw hK;let#[#[old,st1],st2]:=st;let#[xs,hq,hx]:=hg;let#[its,rv,p,hz]:=I.list (.inl hq:jh X.K H a xs);have hl:=rv.length;have hfr:=λb hb=>(hf b hb).1;refine wpAny_pyNext_enum_end (I.ok.hd hc) st1 st2 p.isList (by simp;lia) λh' eb=>#[rfl,?_];have hk:∀b o,b∉[e,it]->s.heap.get? b=L o->h'.get? b=L o:=λb o hb q=>eb b o (λz=>hb (by simp[z])) q;exact Inv.HA (ch:=[e,it]) I hf hk (λ_ _ _ _ n=>n) (λ_ _ q=>q) (FE (X:=X) (pins:=pins) I.hok hfr hk)
 self:=λ_ _ _ _ _ st h=>by
  let#[#[old,st1],_]:=st;exact Du st1 h
noncomputable def acq(K:ak)(a:Addr)(n:Nat):It:=
 #[λi H=>∃xs x,jh K H a xs/\zl xs=n/\xs.reverse[i]?=L x,λi H x H'=>H'=H/\∀xs,jh K H a xs->xs.reverse[i]?=L x,λi _=>n<=i]
def Vb{w:bL}{K:ak}{tg:Expr}(a it:Addr)(n:Nat):Turn P w K tg (acq K a n) [it] it (λi h=>i<=n/\h.IsRevIter it a ((n:J)-1-(i:J))) where
 mem:=by simp
 obj:=λi h st b hb=>by
  have e:b=it:=by simpa using hb
  subst e;let#[_,o,e,c,d]:=st;exact#[o,e,λv z=>by rw[d]at z;cases z]
 keep:=λi h h' st k=>#[st.1,st.2.at λo e=>k it (by simp) o e]
 item:=by
  intro X hP hw hK hc i pins s U H E I hf st hg;subst hP hw hK;let#[xs,x,hq,hn,hx]:=hg;let#[its,rv,p,hz]:=I.list hq;have hi:i<zl xs:=by
   have:=(bN.mp hx).1;simpa using this
  have hx':xs[zl xs-1-i]?=L x:=by
   rw[List.getElem?_reverse hi]at hx;exact hx
  let#[u,hu,ru]:=rv.get hx';let#[f0,f1,f2,f3,f4,f5]:=hf it (by simp);have e1:(n:J)-1-(i:J)=((zl xs-1-i:Nat):J):=by omega
  have st2:=st.2;rw[e1]at st2;refine wpAny_pyNext_rev_item st2 p.isList (by simpa using hu) λh' st' sb=>?_;have I1:=I.turned (t':=s.toks) (λb o hb e=>(sb.2 b hb).trans e) f0 f1 f3 f4 f5;let#[o,e,c,d]:=id st';refine#[u,rfl,zK e c d (by decide) #[x,H,I1,ru,#[rfl,λys hy=>by rw[I.zJ hy hq];exact hx],#[by lia,?_],λb hb=>(hf b hb).1]];have e2:(n:J)-1-((i+1:Nat):J)=((zl xs-1-i:Nat):J)-1:=by lia
  rw[e2];exact st'
 done:=by
  intro X hP hw hK hc i pins s U H E I hf st hg;subst hP hw hK;have e:=Nat.le_antisymm st.1 hg;subst e;let#[f0,f1,f2,f3,f4,f5]:=hf it (by simp);have st2:=st.2;have e1:(i:J)-1-(i:J)=-1:=by lia
  rw[e1]at st2;exact wpAny_pyNext_rev_end (I.ok.hd hc) st2 λh' eb=>#[rfl,I.turned (λb o hb e=>eb b o hb e) f0 f1 f3 f4 f5]
 self:=λ_ _ _ _ _ st h=>Ax st.2 h
structure rE (abt:It) (ok:Hp->Prop) (items:M Item):Prop where
 go:∀i H it,ok H->items[i]?=L it->abt.go i H
 yld:∀i H it x H',ok H->items[i]?=L it->abt.yld i H x H'->∀k,mkItem it H k->k x H'
 stop:∀i H,ok H->zl items<=i->abt.stop i H
def RP{K:ak}:rE (Itl K a) (λH=>jh K H a xs) (xs.map .v) where
 go:=λi H it ok hi=>by
  rw[bg]at hi;cases e:xs[i]? with
  |none=>rw[e]at hi;cases hi
  |some x=>exact#[xs,x,ok,e]
 yld:=λi H it x H' ok hi hy k hk=>by
  let#[rfl,hy]:=hy;rw[bg,hy xs ok]at hi;cases hi;exact hk
 stop:=λi H ok hi=>#[xs,ok,by rw[aa]at hi;exact hi]
theorem Bq:∀(xs:M V) (n i:Nat),(qU n xs)[i]?=(xs[i]?).map λx=>Item.tup [.int ((n+i:Nat):J),x]
|[],n,i=>by simp[qU]
|x::r,n,0=>by simp[qU]
|x::r,n,i+1=>by
 simp only[qU,xG,Bq r (n+1) i];have:n+1+i=n+(i+1):=by lia
 rw[this]
theorem IU:∀(xs:M V) (n:Nat),zl (qU n xs)=zl xs
|[],_=>rfl
|x::r,n=>by simp[qU,IU r (n+1)]
def RQ:rE (acp a) (λH=>Rd H a (.lst xs)) (qU 0 xs) where
 go:=λi H it ok hi=>by
  rw[Bq]at hi;cases e:xs[i]? with
  |none=>rw[e]at hi;cases hi
  |some x=>exact#[xs,x,ok,e]
 yld:=λi H it x H' ok hi hy k hk=>by
  let#[p,v,hp,rfl,rfl,hy]:=hy;rw[Bq,hy xs ok,xq]at hi;cases hi;exact hk p hp
 stop:=λi H ok hi=>#[xs,ok,by rw[IU]at hi;exact hi]
def Vc{K:ak}:rE (acq K a (zl xs)) (λH=>jh K H a xs) (xs.reverse.map .v) where
 go:=λi H it ok hi=>by
  rw[bg]at hi;cases e:xs.reverse[i]? with
  |none=>rw[e]at hi;cases hi
  |some x=>exact#[xs,x,ok,rfl,e]
 yld:=λi H it x H' ok hi hy k hk=>by
  let#[rfl,hy]:=hy;rw[bg,hy xs ok]at hi;cases hi;exact hk
 stop:=λi H ok hi=>by rw[aa,oB]at hi;exact hi
def Vd{K:ak}:rE (Itt K a) (λH=>tZ K H a xs) (xs.map .v) where
 go:=λi H it ok hi=>by
  rw[bg]at hi;cases e:xs[i]? with
  |none=>rw[e]at hi;cases hi
  |some x=>exact#[xs,x,ok,e]
 yld:=λi H it x H' ok hi hy k hk=>by
  let#[rfl,hy]:=hy;rw[bg,hy xs ok]at hi;cases hi;exact hk
 stop:=λi H ok hi=>#[xs,ok,by rw[aa]at hi;exact hi]
def Ve:rE (Yg z) (λ_=>True) ((chars z).map .v) where
 go:=λi H it ok hi=>by
  have:=(bN.mp hi).1;have:i<z.length:=by simpa[chars,iD]using this
  exact this
 yld:=λi H it x H' ok hi hy k hk=>by
  let#[rfl,c,hc,rfl]:=hy;unfold chars at hi;rw[bK,bg,iN,hc]at hi;cases hi;exact hk
 stop:=λi H ok hi=>by
  have:z.length<=i:=by simpa[chars,iD]using hi
  exact this
def Pp{lo:J}:rE (X6 lo n) (λ_=>True) ((bM n).map λ(i:Nat)=>Item.v (.int (lo+(i:J)))) where
 go:=λi H it ok hi=>by
  have:=(bN.mp hi).1;have:i<n:=by simpa using this
  exact this
 yld:=λi H it x H' ok hi hy k hk=>by
  let#[rfl,rfl]:=hy;have hl:=(bN.mp hi).1;have hl:i<n:=by simpa using hl
  rw[bg,oE hl]at hi;cases hi;exact hk
 stop:=λi H ok hi=>by
  have:n<=i:=by simpa using hi
  exact this
def rE.mono{ok ok':Hp->Prop}(h:rE abt ok items)(m:∀H,ok' H->ok H):rE abt ok' items:=
 #[λi H it o=>h.go i H it (m H o),λi H it x H' o=>h.yld i H it x H' (m H o),λi H o=>h.stop i H (m H o)]
def Vf{ok:Hp->Prop}{items:M Item}{g:TG}{body:TS}{D:Ends}{U:L2.St}{H:Hp}(hJ:rE abt ok items)(h:forL ok g body D items U H):∃abq:Nat->Nat->L2.St->Hp->Prop,(∃m,abq 0 m U H)/\∀i m U H,abq i m U H->
   (abt.stop i H/\D.nx U H)\/(abt.go i H/\∃N:L2.St->Hp->Prop,(∀σ' H',N σ' H'->∃m',m'<m/\abq (i+1) m' σ' H')/\∀x H',abt.yld i H x H'->g x U H' fun σ2 H2=>body { D with nx:=N,ct:=N,bk:=D.nx } σ2 H2):=by
 refine#[λi m U H=>m=zl items-i/\i<=zl items/\forL ok g body D (items.drop i) U H,#[zl items,by simp,dg _,by simpa using h],?_];rintro i m U H ⟨rfl,hi,p⟩;by_cases hlt:i<zl items
 .rw[iO hlt]at p;let#[hok,p]:=p;have e:=aq hlt;refine .inr #[hJ.go i H _ hok e,forL ok g body D (items.drop (i+1)),fun σ' H' p'=>#[zl items-(i+1),by omega,rfl,hlt,p'],λx H' y=>?_];exact hJ.yld i H _ x H' hok e y _ p
 .rw[jC (by omega)]at p;let#[hok,p]:=p;exact .inl #[hJ.stop i H hok (by omega),p]
section
variable{X:Cx}{tg:Expr}
def Vg(X:Cx)(pins:M (Addr×Obj))(U:L2.St)(tg:Expr)(k:(Hp->Prop)->M Item->Hp->Prop)(itv:Z)(s2:ay):Prop:=
 ∃(it:Addr) (fp:M Addr) (tn:Nat->Heap->Prop) (abt:It) (H':Hp),itv=.ref it/\L2.Inv X pins U H' s2/\Turn X.prog X.w X.K tg abt fp it tn/\tn 0 s2.heap/\(∀b∈fp,sE X pins H' b)/\∃ok items,rE abt ok items/\k ok items H'
def DJ(X:Cx)(tg iter:Expr)(wi:TIt):Prop:=
 ∀(pins:M (Addr×Obj)) (s:ay) (U:L2.St) (H:Hp) (k:(Hp->Prop)->M Item->Hp->Prop),L2.Inv X pins U H s->wi U H k->
  aT (aW X.prog X.w) X.A (eval iter X.env) (λv s1=>aT (aW X.prog X.w) X.A (xf v) (Vg X pins U tg k) X.xe s1) X.xe s
def aeB(hp:yc (aW X.prog X.w) X.A X.env X.xe)(hc:X.calm=W)(hi:DJ X tg iter wi)(hg:PG X tg g)(hb:yT X body tb)(hs:∀x,mH iter X.env x=pure x):PS X (.For tg iter body [] pos) (λD U H=>wi U H λok items H1=>forL ok g tb D items U H1):=by
 intro pins s U H D I h;have hI:PI X tg iter (fun σ0 H0 R=>wi σ0 H0 (λok items H1=>forL ok g tb D items U H1)/\∀ok items H1 abt,forL ok g tb D items U H1->rE abt ok items->R abt H1):=by
  intro pins' s' σ' H' R I' h';refine bA (hi pins' s' σ' H' _ I' h'.1) λv s1 h1=>bA h1 λitv s2 h2=>?_;let#[it,fp,tn,abt,H2,e,I2,T,st,hf,ok,items,hJ,hk]:=h2;exact#[it,fp,tn,abt,H2,e,I2,T,st,hf,h'.2 ok items H2 abt hk hJ]
 exact abO hp hc hI hg hb hs pins s U H D I #[h,λok items H1 abt hk hJ=>Vf hJ hk]
def ZC{e:Expr}{te:TE}(he:PE X e te):DJ X tg e (λU H k=>te U H λx H1=>Hw X.K x H1 k):=by
 intro pins s U H k I h;refine bA (he pins s U H _ I h) λv s1 ⟨x,H1,I1,r1,q1⟩=>?_;cases x with
 |str z=>
  let#[t,rfl]:=r1;let#[hz,q]:=q1;have fin:∀T,T="str_ascii_iterator"\/T="str_iterator"->Vg X pins U tg k (.ref s1.heap.objs.size) { s1 with heap:=s1.heap.push { cls:=.type T,data:=.fields (List.toArray [.str z t,.int 0 0]) } }:=λT hT=>by
   refine#[s1.heap.objs.size,[s1.heap.objs.size],_,_,H1,rfl,I1.kept λb o e=>az _ e,Va s1.heap.objs.size z t T hT,#[_,aS _ rfl,rfl,rfl],λb hb=>?_,_,_,Ve,q];have e:b=s1.heap.objs.size:=by simpa using hb
   subst e;exact I1.sG (aK _) (I1.hok.fresh (aK _))
  cases ha:z.cps.all (·<128)
  .exact wpAny_pyIter_wide ha (fin _ (.inr rfl))
  .exact wpAny_pyIter_ascii ha (fin _ (.inl rfl))
 |ref a=>
  let#[t,xs,hx,q]:=q1;cases r1;rcases hx.sq with⟨rfl,z⟩|⟨rfl,z⟩
  .obtain⟨its,rv,p,hz⟩:=I1.list z;refine ql p.isList ?_;refine#[s1.heap.objs.size,[s1.heap.objs.size],_,_,H1,rfl,I1.kept λb o e=>az _ e,Rk a _,#[_,aS _ rfl,rfl,rfl],λb hb=>?_,λH'=>iW X.K H' a B xs,_,RP.mono λH' o=>?_,q]
   .have e:b=s1.heap.objs.size:=by simpa using hb
    subst e;exact I1.sG (aK _) (I1.hok.fresh (aK _))
   .rcases o.sq with⟨_,z⟩|⟨hf,_⟩
    .exact z
    .cases hf
  .obtain⟨its,rv,p,hz⟩:=I1.tuple z;refine wpAny_pyIter_tuple p ?_;refine#[s1.heap.objs.size,[s1.heap.objs.size],_,_,H1,rfl,I1.kept λb o e=>az _ e,OX a _,#[_,aS _ rfl,rfl,rfl],λb hb=>?_,λH'=>iW X.K H' a W xs,_,Vd.mono λH' o=>?_,q]
   .have e:b=s1.heap.objs.size:=by simpa using hb
    subst e;exact I1.sG (aK _) (I1.hok.fresh (aK _))
   .rcases o.sq with⟨hf,_⟩|⟨_,z⟩
    .cases hf
    .exact z
 |_=>exact aC q1
def range_it'{k:(Hp->Prop)->M Item->Hp->Prop}{E:Z->ay->Prop}{lo hi:J}{t u v:Tok}{tk:Nat}(I:L2.Inv X pins U H s)(h1:-(2 ^ 62)<=lo)(h2:lo<2 ^ 62)(h3:-(2 ^ 62)<=hi)(h4:hi<2 ^ 62)(q:k (λ_=>True) ((bM (hi-lo).toNat).map λ(i:Nat)=>Item.v (.int (lo+(i:J)))) H):aT (aW X.prog X.w) X.A (xf (.ref s.heap.objs.size)) (Vg X pins U tg k) E { s with heap:=s.heap.push { cls:=.type "range",data:=.fields (List.toArray [.int lo t,.int hi u,.int 1 v]) },toks:=tk }:=by
 refine bA (UN (tg:=tg) (R:=λabt H'=>abt=X6 lo (hi-lo).toNat/\H'=H) I h1 h2 h3 h4 #[rfl,rfl]) λitv s2 h=>?_;let#[it,fp,tn,abt,H',e,I2,T,st,hf,rfl,rfl]:=h;exact#[it,fp,tn,_,H',e,I2,T,st,hf,_,_,Pp,q]
def Vh{x1:Nat}{tp:Pos}{e:Expr}{te:TE}{p pos:Pos}(hg:Gl X "enumerate")(hm:X.mg "enumerate"=S)(he:PE X e te)(hs:gH [e] X.env=[(B,eval e X.env)]):DJ X (.Tuple elts x1 tp) (.Call (.Name "enumerate" p) [e] [] pos) (λU H k=>te U H λx H1=>match x with
   |.ref b=>∃xs,Rd H1 b (.lst xs)/\k (λH'=>Rd H' b (.lst xs)) (qU 0 xs) H1
   |_=>bu):=by
 intro pins s U H k I h;have ha:=Hl he Lg hs;refine Ay (kF I hg hm boot_enumerate (cJ (bA (ha pos pins s U H (λvs H1=>match vs with
   |[x]=>(match x with
    |.ref b=>∃xs,Rd H1 b (.lst xs)/\k (λH'=>Rd H' b (.lst xs)) (qU 0 xs) H1
    |_=>bu)
   |_=>bu) I h) λus s1 ⟨vs,H1,I1,r1,q⟩=>?_) hs rfl))
 match vs,r1,q with
 |[],r1,q=>exact q.elim
 |_::_::_,r1,q=>exact q.elim
 |[x],r1,q=>
  let#[u,rfl,ru]:=vals1 r1;cases x with
  |ref b=>
   cases ru;let#[xs,hx,q]:=q;let#[its,rv,pl,hz]:=I1.list (.inl hx:jh X.K H1 b xs);refine call_enumerate_list pl.isList λh' he' hi' hz' hk'=>?_;refine Du he' ?_;refine#[s1.heap.objs.size+1,[s1.heap.objs.size+1,s1.heap.objs.size],_,_,H1,rfl,I1.kept hk',RO b _ _ (Nat.succ_ne_self _),#[#[_,he'],hi'],λc hc=>?_,_,_,RQ,q];have hc:c=s1.heap.objs.size+1\/c=s1.heap.objs.size:=by simpa using hc
   rcases hc with rfl|rfl
   .exact I1.sG (qN _) (I1.hok.fresh (qN _))
   .exact I1.sG (aK _) (I1.hok.fresh (aK _))
  |_=>exact aC q
def ZD{te:TE}{p pos:Pos}(hg:Gl X "reversed")(hm:X.mg "reversed"=S)(he:PE X e te)(hs:gH [e] X.env=[(B,eval e X.env)]):DJ X tg (.Call (.Name "reversed" p) [e] [] pos) (λU H k=>te U H λx H1=>match x with
   |.ref b=>∃xs,Rd H1 b (.lst xs)/\k (λH'=>Rd H' b (.lst xs)) (xs.reverse.map .v) H1
   |_=>bu):=by
 intro pins s U H k I h;have ha:=Hl he Lg hs;refine Ay (kF I hg hm AW (cJ (bA (ha pos pins s U H (λvs H1=>match vs with
   |[x]=>(match x with
    |.ref b=>∃xs,Rd H1 b (.lst xs)/\k (λH'=>Rd H' b (.lst xs)) (xs.reverse.map .v) H1
    |_=>bu)
   |_=>bu) I h) λus s1 ⟨vs,H1,I1,r1,q⟩=>?_) hs rfl))
 match vs,r1,q with
 |[],r1,q=>exact q.elim
 |_::_::_,r1,q=>exact q.elim
 |[x],r1,q=>
  let#[u,rfl,ru]:=vals1 r1;cases x with
  |ref b=>
   cases ru;let#[xs,hx,q]:=q;let#[its,rv,pl,hz]:=I1.list (.inl hx:jh X.K H1 b xs);refine CK pl.isList ?_;have el:its.toArray.size=zl xs:=by rw[aV];exact rv.length.symm
   rw[el];refine Ax #[_,aS _ rfl,rfl,rfl] ?_;refine#[s1.heap.objs.size,[s1.heap.objs.size],_,_,H1,rfl,I1.kept λb o e=>az _ e,Vb b _ (zl xs),#[dg _,_,aS _ rfl,rfl,by simp[revObj]],λc hc=>?_,λH'=>Rd H' b (.lst xs),_,Vc.mono λH' o=>.inl o,q];have hc:c=s1.heap.objs.size:=by simpa using hc
   subst hc;exact I1.sG (aK _) (I1.hok.fresh (aK _))
  |_=>exact aC q
def RS{p pos:Pos}(hg:Gl X "range")(hm:X.mg "range"=S)(ha:PA X (e::es) ta)(he:gH (e::es) X.env=(B,eval e X.env)::gH es X.env)(hpl:(w_ pos (gH es X.env)).any (·.1)=B):DJ X tg (.Call (.Name "range" p) (e::es) [] pos) (λU H k=>ta U H λvs H1=>Fy vs H1 k):=by
 intro pins s U H k I h;refine Ay (kF I hg hm boot_range (cJ (bA (ha pos pins s U H _ I h) λus s1 ⟨vs,H1,I1,r1,q⟩=>?_) he hpl));have q:Fy vs H1 k:=q;rcases vs with _|⟨v,_|⟨v2,r⟩⟩
 .exact aC q
 .cases v<;>first|exact aC q|skip
  let#[#[q1,q2],q]:=q;let#[u,rfl,ru]:=vals1 r1;let#[t,rfl]:=ru;refine CL (range_it' I1 (by omega) (by omega) q1 q2 ?_);simpa using q
 .cases v<;>exact aC q
end
section
variable{P:bO}{w:bL}{H:Hp}{h h':Heap}{a:Addr}{o:HO}
def RT(x:gR P w H h)(hn:H a=S)(new:fX P w (upd H a o) h a o):gR P w (upd H a o) h:=λb u e=>by
 by_cases hb:b=a
 .subst hb;rw[bQ]at e;cases e;exact new
 .rw[aY hb]at e;exact(x b u e).stay (λc v _ q=>q) (λc q=>by rw[aY (bZ q hn)];exact q) (λc xs q=>by rw[aY (bZ q hn)];exact q) λc o xs q=>by rw[aY (bZ q hn)];exact q
end
noncomputable def nu(cells:M (Str×Addr)):M (Str×je)->M (Str×Addr)->M (Str×Addr)
|[],acc=>acc
|(n,k)::r,acc=>if(k==.free)=W then(match cells.lookup n with|some c=>nu cells r ((n,c)::acc)|none=>nu cells r acc)else nu cells r acc
theorem zT:∀(names:M (Str×je)) (acc:M (Str×Addr)),(∀n,(n,dM)∈names->∃c,env.cells.lookup n=L c)->
 (forIn names acc λ(x:Str×je) (r:M (Str×Addr))=>(match x with
  |(name,kind)=>if(kind==.free)=W then(do let a <-Uq env name;pure (lW ((name,a)::r)))else pure (lW r):Sem (ForInStep (M (Str×Addr)))))=pure (nu env.cells names acc)
|[],acc,_=>rfl
|(n,k)::r,acc,hn=>by
 rw[List.forIn_cons];have hr:=λm hm=>hn m (ao _ hm);unfold nu;by_cases hk:(k==dM)=W
 .have e:k=.free:=by simpa using hk
  subst e;let#[c,hc]:=hn n aB;have hco:Uq env n=pure c:=by unfold Uq;rw[hc]
  simp only[hc,hco,beq_self_eq_true,jT];exact zT r _ hr
 .simp only[hk,iF];exact zT r _ hr
def vh(h:∀n,(n,dM)∈scope.names->∃c,env.cells.lookup n=L c):QY scope env=pure (nu env.cells scope.names []):=by
 have e:=zT scope.names [] h;exact rQ (jc (λt=>t >>= λcs=>pure cs) e) rfl
theorem wu:∀(names:M (Str×je)) (acc:M (Str×Addr)),(∀x c,acc.lookup x=L c->cells.lookup x=L c)->∀x c,(nu cells names acc).lookup x=L c->cells.lookup x=L c
|[],acc,h=>h
|(n,k)::r,acc,h=>by
 unfold nu;by_cases hk:(k==dM)=W
 .simp only[hk,jT];cases hc:cells.lookup n with
  |none=>exact wu r acc h
  |some c=>
   refine wu r _ λx d hx=>?_;rw[dB]at hx;cases e:x==n with
   |true=>lia
   |false=>rw[e]at hx;exact h x d hx
 .simp only[hk,iF];exact wu r acc h
theorem rF:∀(names:M (Str×je)) (acc:M (Str×Addr)) (x:Str),((∃c,acc.lookup x=L c)\/((x,dM)∈names/\∃c,cells.lookup x=L c))->∃c,(nu cells names acc).lookup x=L c
|[],acc,x,h=>by
 rcases h with h|⟨h,_⟩
 .exact h
 .cases h
|(n,k)::r,acc,x,h=>by
 unfold nu;by_cases hk:(k==dM)=W
 .simp only[hk,jT];have ek:k=.free:=by simpa using hk
  subst ek;cases hc:cells.lookup n with
  |none=>
   refine rF r acc x ?_;rcases h with h|⟨h,h2⟩
   .exact .inl h
   .rcases be.mp h with e|h
    .cases e;let#[c,hc2]:=h2;rw[hc]at hc2;cases hc2
    .exact .inr #[h,h2]
  |some c=>
   refine rF r _ x ?_;by_cases e:x=n
   .subst e;exact .inl #[c,by rw[dB];simp]
   .grind
 .simp only[hk,iF];refine rF r acc x ?_;rcases h with h|⟨h,h2⟩
  .exact .inl h
  .grind
def sQ{α:Type}{m x:Str}{n c:α}{acc:M (Str×α)}(h:((m,n)::acc).lookup x=L c):(x=m/\c=n)\/((x=m->bu)/\acc.lookup x=L c):=by grind
theorem zU:∀(names:M (Str×je)) (n:Nat) (acc:M (Str×Addr)) (x:Str) (c:Addr),(gp n names acc).lookup x=L c->(n<=c/\(x,dN)∈names)\/((x,dN)∉names/\acc.lookup x=L c)
|[],_,_,_,_,h=>.inr #[(λz=>nomatch z),h]
|(m,k)::r,n,acc,x,c,h=>by
 unfold gp at h;by_cases hk:(k==dN)=W
 .rw[aF hk]at h;have ek:k=.cell:=by simpa using hk
  subst ek;rcases zU r (n+1) _ x c h with⟨h1,h2⟩|⟨h1,h2⟩
  .exact .inl #[by lia,ao _ h2]
  .rcases sQ h2 with⟨e1,e2⟩|⟨e1,e2⟩
   .subst e1;subst e2;exact .inl #[aK _,aB]
   .refine .inr #[λz=>?_,e2];rcases be.mp z with q|q
    .cases q;exact e1 rfl
    .exact h1 q
 .rw[aG hk]at h;rcases zU r n acc x c h with⟨h1,h2⟩|⟨h1,h2⟩
  .exact .inl #[h1,ao _ h2]
  .grind
theorem Ey:∀(names:M (Str×je)) (n:Nat) (acc:M (Str×Addr)) (x:Str),(x,dN)∉names->(gp n names acc).lookup x=acc.lookup x
|[],_,_,_,_=>rfl
|(m,k)::r,n,acc,x,h=>by
 unfold gp;by_cases hk:(k==dN)=W
 .rw[aF hk,Ey r _ _ x λz=>h (ao _ z),dB];have ek:k=.cell:=by simpa using hk
  have ne:(x==m)=B:=fi.mpr λz=>h (by rw[z,ek];exact aB);rw[ne]
 .rw[aG hk];exact Ey r _ _ x λz=>h (ao _ z)
theorem HB:∀(names:M (Str×je)) (n:Nat) (acc:M (Str×Addr)) (x:Str),(x,dN)∈names\/(∃c,acc.lookup x=L c)->∃c,(gp n names acc).lookup x=L c
|[],_,_,_,h=>by
 rcases h with h|h
 .cases h
 .exact h
|(m,k)::r,n,acc,x,h=>by
 unfold gp;by_cases hk:(k==dN)=W
 .rw[aF hk];refine HB r _ _ x ?_;by_cases e:x=m
  .subst e;exact .inr #[n,by rw[dB];simp]
  .grind
 .rw[aG hk];refine HB r _ _ x ?_;rcases h with h|h
  .grind
  .exact .inr h
theorem HC:∀(names:M (Str×je)) (n:Nat) (acc:M (Str×Addr)),(∀x c,acc.lookup x=L c->c<n)->(∀x y c,acc.lookup x=L c->acc.lookup y=L c->x=y)->∀x y c,(gp n names acc).lookup x=L c->(gp n names acc).lookup y=L c->x=y
|[],_,_,_,h=>h
|(m,k)::r,n,acc,hb,h=>by
 unfold gp;by_cases hk:(k==dN)=W
 .rw[aF hk];refine HC r _ _ (λx c hx=>?_) λx y c hx hy=>?_
  .rcases sQ hx with⟨_,e⟩|⟨_,e⟩
   .rw[e];exact iE _
   .exact qx (hb x c e)
  .rcases sQ hx with⟨e1,e2⟩|⟨_,e2⟩<;>rcases sQ hy with⟨e3,e4⟩|⟨_,e4⟩
   .rw[e1,e3]
   .exact aH (hb y c e4) (by rw[e2];exact c8 _)
   .exact aH (hb x c e2) (by rw[e4];exact c8 _)
   .exact h x y c e2 e4
 .rw[aG hk];exact HC r n acc hb h
theorem Ez:∀(names:M (Str×je)) (h:Heap) (acc:M (Str×Addr)) (x:Str) (c:Addr),(gp h.objs.size names acc).lookup x=L c->(pushCells h names).IsCell c S\/acc.lookup x=L c
|[],_,_,_,_,e=>.inr e
|(m,k)::r,h,acc,x,c,e=>by
 unfold gp at e;unfold pushCells;by_cases hk:(k==dN)=W
 .rw[aF hk]at e ⊢;have e':(gp (h.push { cls:=.type "cell",data:=.cell S }).objs.size r ((m,h.objs.size)::acc)).lookup x=L c:=by rw[g8];exact e
  rcases Ez r _ _ x c e' with q|q
  .exact .inl q
  .rcases sQ q with⟨_,e2⟩|⟨_,e2⟩
   .subst e2;exact .inl #[_,yk r _ _ _ (aS _ rfl),rfl]
   .exact .inr e2
 .rw[aG hk]at e ⊢;exact Ez r h acc x c e
def Vi{E:Z->ay->Prop}{Q:Env->ay->Prop}(hQ:∀h',h'.Ns s.heap.objs.size (λ_=>S)->(∀b o,s.heap.get? b=L o->h'.get? b=L o)->(∀x c,(gp (s.heap.objs.size+1) scope.names closure).lookup x=L c->h'.IsCell c S\/closure.lookup x=L c)->
   Q { scope,locals:=s.heap.objs.size,globals:=env.globals,cells:=gp (s.heap.objs.size+1) scope.names closure,qual:=env.qual,func:=S,code:=env.code,frame:=env.frame,builtins:=env.builtins } { s with heap:=h' }):
  aT abl A (zE scope env.globals closure [] env.qual S .none (L env)) Q E s:=by
 simp only[zE,Cz,jT];refine ai (wpAny_alloc ?_);refine ai (wpAny_layCells _ (λname kind cells=>by cases hkc:kind==dN<;>simp[hkc]) _ _ _ _ ?_);have hc:=Ez scope.names (s.heap.push { cls:=.type "dict",data:=.dict #[] }) closure;rw[g8]at hc;rw[show({ s with heap:=s.heap.push { cls:=.type "dict",data:=.dict #[] } }:ay).heap.objs.size=s.heap.objs.size+1 from g8 ..];rw[List.forIn_nil];exact ai (aL (aL (hQ _ ((Heap.Ns.new s.heap (.type "dict")).keeps (yk _ _)) (λb o e=>yk _ _ b o (az _ e)) hc)))
def jY(X:Cx)(N:M Str)(scope:fH)(C:Addr)(aho:ay)(ahy:Hp)(ex:M Addr):Cx where
 prog:=X.prog
 w:=X.w
 K:=X.K
 mg:=X.mg
 base:=X.base
 A:=X.A
 N:=N
 aho:=aho
 ahy:=ahy
 env:=compEnvC scope (gp (C+1) scope.names (nu X.env.cells scope.names [])) C X.env
 outer:=X.stack
 stack:=X.stack
 ex:=ex
 fn:=λx=>scope.names.lookup x==L .cell
 calm:=X.calm
 pn:=[]
 xe:=λ_ _=>bu
def FF(X:Cx):Prop:=bu
def Ob(X:Cx)(ifs:M Expr)(t:TT):Prop:=
 ∀(pins:M (Addr×Obj)) (s:ay) (U:L2.St) (H:Hp) (Q:Bool->Hp->Prop),L2.Inv X pins U H s->t U H Q->
  aT (aW X.prog X.w) X.A (forIn ifs W λc r=>if r=W then do let ok <-Cs c X.env (eval c X.env);pure (lW ok)else pure (lW r)) (TP X pins U Q) X.xe s
def ZE:Ob X [] (λ_ H Q=>Q W H):=λ_ _ _ H _ I h=>wpAny_tests_nil #[H,I,h]
def ZF(h:PT X c t):Ob X [c] t:=λpins s U H Q I q=>wpAny_tests_one (h pins s U H Q I q)
section
variable{prog:bO}{w:bL}{A:cQ}{R:Cj->ay->Prop}{s:ay}
def RU(I:Nat->ay->Prop)(turn:∀n s,I n s->aT (aW prog w) A (zz it) (λr ahq=>match r with
   |none=>R (.ok .next) ahq
   |some v=>aT (aW prog w) A (tQ target it v) (λ_ ahr=>aT (aW prog w) A (Ct target env v) (λ_ ahz=>
     aT (aW prog w) A (forIn ifs W λc r=>if r=W then do let ok <-Cs c env (eval c env);pure (lW ok)else pure (lW r))
      (λok ahC=>if ok=W then aT (aW prog w) A (eval elt env) (λx ahO=>aT (aW prog w) A (call (.builtin "list.append") [acc,x]) (λ_ ahP=>∃m,m<n/\I m ahP) (λ_ _=>bu) ahO) (λ_ _=>bu) ahC
       else ∃m,m<n/\I m ahC) (λ_ _=>bu) ahz) (λ_ _=>bu) ahr) (λ_ _=>bu) ahq) (λ_ _=>bu) s)(n:Nat)(h:I n s):kE (aW prog w) A (.compLoop (.ListComp elt [#[target,iter,ifs,0]] scope pos) 0 it acc env) R s:=by
 refine codeAny_loop rfl I (λn s hI=>?_) n h;show aT _ A ((compTurn (.ListComp elt [#[target,iter,ifs,0]] scope pos) 0 it acc env).onRaise (λx=>do noteFrame x env;theTreesLotGoes x)) _ _ s;refine wpAny_noted (wpAny_noRaise ?_);rw[compTurn_list];refine ai (AO (ai (bA (turn n s hI) λr ahq ahu=>?_)));cases r with
 |none=>exact aL ahu
 |some v=>
  refine ai (bA ahu λ_ ahr ahD=>ai (bA ahD λ_ ahz ahL=>ai (bA ahL λok ahC ahQ=>?_)));cases ok with
  |false=>exact aL #[rfl,ahQ]
  |true=>exact ai (ai (bA ahQ λx ahO ahS=>ai (bA ahS λ_ ahP ahT=>aL (aL #[rfl,ahT]))))
end
structure Yh (Cm:Cx->Prop) (P:bO) (w:bL) (K:ak) (tg:Expr) (abt:It) (fp:M Addr) (it:Addr) (tn:Nat->Heap->Prop):Prop where
 obj:∀i h,tn i h->∀b∈fp,∃o,h.get? b=L o/\∀v,o.data≠.cell v
 keep:∀i h h',tn i h->(∀b∈fp,∀o,h.get? b=L o->h'.get? b=L o)->tn i h'
 item:∀(X:Cx),X.prog=P->X.w=w->X.K=K->Cm X->∀(i:Nat) (pins:M (Addr×Obj)) (s:ay) (U:L2.St) (H:Hp) (E:Z->ay->Prop),L2.Inv X pins U H s->(∀b∈fp,sE X pins H b)->tn i s.heap->abt.go i H->
  aT (aW P w) X.A (zz (.ref it)) (λr s1=>∃u,r=L u /\
   aT (aW P w) X.A (tQ tg (.ref it) u) (λ_ s2=>∃x H',L2.Inv X pins U H' s2/\RelV x u/\abt.yld i H x H'/\tn (i+1) s2.heap/\∀b∈fp,H' b=S) E s1) E s
 done:∀(X:Cx),X.prog=P->X.w=w->X.K=K->Cm X->∀(i:Nat) (pins:M (Addr×Obj)) (s:ay) (U:L2.St) (H:Hp) (E:Z->ay->Prop),L2.Inv X pins U H s->(∀b∈fp,sE X pins H b)->tn i s.heap->abt.stop i H->
  aT (aW P w) X.A (zz (.ref it)) (λr s1=>r=S/\L2.Inv X pins U H s1) E s
 self:∀(A:cQ) (i:Nat) (s:ay) (Q:Z->ay->Prop) (E:Z->ay->Prop),tn i s.heap->Q (.ref it) s->aT (aW P w) A (xf (.ref it)) Q E s
def Yi{w:bL}{K:ak}{tg:Expr}{abt:It}{fp:M Addr}{it:Addr}{tn:Nat->Heap->Prop}(T:Turn P w K tg abt fp it tn):Yh (λX=>X.calm=W) P w K tg abt fp it tn:=#[T.obj,T.keep,T.item,T.done,T.self]
noncomputable abbrev uh(its:M Z)(n:Nat):Obj:={ cls:=.type "list",data:=.seq its.toArray n }
section
variable{X:Cx}{pins:M (Addr×Obj)}{U:L2.St}{H:Hp}{ahr:ay}{tgt iter elt:Expr}{ifs:M Expr}{scope:fH}{pos:Pos}{N:M Str}{σ':L2.St}{it:Addr}{fp:M Addr}{tn:Nat->Heap->Prop}{abt:It}
 {ok:Hp->Prop}{items:M Item}{g:TG}{cond:TT}{te:TE}{k:M V->Hp->Prop}{E:Z->ay->Prop}{RR:Z->Addr->Cj->ay->Prop}
def FG{Cm:Cx->Prop}(hc:∀(C:Addr) (aho:ay) (ex:M Addr),(∀b o,ahr.heap.get? b=L o->aho.heap.get? b=L o)->(∀b∈ex,ahr.heap.objs.size<=b\/b∈fp)->Cm (jY X N scope C aho H ex))(I:L2.Inv X pins U H ahr)(T:Yh Cm X.prog X.w X.K tgt abt fp it tn)(st:tn 0 ahr.heap)(hf:∀b∈fp,sE X pins H b)(hJ:rE abt ok items)(hcell:∀y∈scope.names,y.2=.free->(y.1,dN)∉scope.names)(hkind:scope.kind=.function)(hfree:∀n,(n,dM)∈scope.names->∃c,X.env.cells.lookup n=L c)(hlen:σ'.length=N.length)(hσ:∀(i:Nat) (x:Str) (v:V),N[i]?=L x->σ'[i]?=L (L v)->(x,dM)∈scope.names/\(p_ scope X.env).names.lookup x≠L .local/\∃c u,X.env.cells.lookup x=L c/\RelV v u/\ahr.heap.IsCell c (L u))(hvis:∀x,(p_ scope X.env).names.lookup x=L .cell\/(p_ scope X.env).names.lookup x=L .free->(x,dM)∈scope.names\/(x,dN)∈scope.names)(hg:∀(C:Addr) (aho:ay) (ex:M Addr),Cm (jY X N scope C aho H ex)->PG (jY X N scope C aho H ex) tgt g)(ht:∀(C:Addr) (aho:ay) (ex:M Addr),Cm (jY X N scope C aho H ex)->Ob (jY X N scope C aho H ex) ifs cond)(he:∀(C:Addr) (aho:ay) (ex:M Addr),Cm (jY X N scope C aho H ex)->PE (jY X N scope C aho H ex) elt te)(h:sO ok g cond te k items [] σ' H)(hRR:∀D C s' H2 vs,H2 D=S->k vs H2->L2.Inv X pins U (upd H2 D (.lst vs)) s'->sE X pins (upd H2 D (.lst vs)) C->(∃m,s'.heap.Ns C m)->RR (.ref D) C (.ok .next) s'):aT (aW X.prog X.w) X.A (newList []) (λacc ahz=>aT (aW X.prog X.w) X.A (zE scope X.env.globals (nu X.env.cells scope.names []) [] X.env.qual S .none (L X.env)) (λcenv ahC=>
   kE (aW X.prog X.w) X.A (.compStart (.ListComp elt [#[tgt,iter,ifs,0]] scope pos) 0 (.ref it) acc { cenv with scope:=p_ scope X.env }) (RR acc cenv.locals) ahC) E ahz) E ahr:=by
 refine ie (Vi λahu ahF ahG ahH=>?_);dsimp only at ahF ahG ahH ⊢;generalize ahE:({ ahr with heap:=ahr.heap.push { cls:=.type "list",dict:=S,data:=.seq ([]:M Z).toArray } }:ay)=aho at ahF ahG ahH ⊢;have ahI:aho.heap=ahr.heap.push { cls:=.type "list",dict:=S,data:=.seq ([]:M Z).toArray }:=by rw[<-ahE]
 have hH2:=ahI.symm;have eos:aho.os=ahr.os:=by rw[<-ahE]
 have egn:aho.gens=ahr.gens:=by rw[<-ahE]
 have etk:aho.toks=ahr.toks:=by rw[<-ahE]
 rw[hH2]at ahF ahG ahH ⊢;have hsz:aho.heap.objs.size=ahr.heap.objs.size+1:=by rw[ahI,g8]
 generalize hD:ahr.heap.objs.size=D at *;generalize hC:aho.heap.objs.size=C at *;have hDC:D≠C:=by rw[hsz];exact bG (iE _)
 have up:∀b o,ahr.heap.get? b=L o->aho.heap.get? b=L o:=λb o e=>by rw[ahI];exact az _ e
 have lt2:∀b o,ahr.heap.get? b=L o->b<D:=λb o e=>by rw[<-hD];exact aO e
 have up1:∀b o,aho.heap.get? b=L o->ahu.get? b=L o:=ahG;have ahU:aho.heap.get? D=L (uh [] 0):=by rw[ahI,<-hD];exact aS _ rfl
 have fpD:∀b∈fp,b<D:=λb hb=>by let#[o,e,_]:=T.obj 0 _ st b hb;exact lt2 b o e
 have cellD:∀x c,X.env.cells.lookup x=L c->c<D:=λx c e=>by let#[v,q]:=I.cell x c e;let#[o,ho,_]:=q;exact lt2 c o ho
 have DltC:D<C:=by rw[hsz];exact iE _
 have fpC:∀b∈fp,b≠C:=λb hb=>bG (kW (fpD b hb) DltC);have fpnD:∀b∈fp,b≠D:=λb hb=>bG (fpD b hb);have freshH:∀b,D<=b->H b=S:=λb hb=>I.hok.fresh (by rw[hD];exact hb)
 let ex:=D::fp
 let X':=jY X N scope C aho H ex
 have hcm:Cm X':=hc C aho ex up λb hb=>(be.mp hb).elim (λz=>.inl (xg z.symm)) .inr;have clsub0:∀x c,(nu X.env.cells scope.names []).lookup x=L c->X.env.cells.lookup x=L c:=wu _ _ (λx c e=>by simp at e);have clsub:∀x c,X'.env.cells.lookup x=L c->C<c\/X.env.cells.lookup x=L c:=λx c e=>by
  rcases zU _ _ _ _ _ e with⟨q,_⟩|⟨_,q⟩
  .exact .inl q
  .exact .inr (clsub0 x c q)
 have neD:∀x c,X'.env.cells.lookup x=L c->c≠D:=λx c e z=>by
  rcases clsub x c e with q|q
  .rw[z]at q;exact c8 _ (kW q DltC)
  .exact bG (cellD x c q) z
 have neF:∀x c,X'.env.cells.lookup x=L c->∀b∈fp,c≠b:=λx c e b hb z=>by
  rcases clsub x c e with q|q
  .rw[z]at q;exact c8 _ (kW (kW q (fpD b hb)) DltC)
  .exact(hf b hb).2.2.2.2.1 x c q z
 have stkD:∀b∈frs X.stack,b<D:=λb hb=>by
  rcases be.mp (I.A9 b hb)with e|hb
  .rw[e,<-hD];exact I.lt
  .obtain⟨_,o,ho,_⟩:=I.uc.mem hb;exact lt2 b o ho
 have ok':X'.Ok:=by
  refine#[I.ok.mod,?_,I.ok.glob,I.ok.blt,xg hC,HC _ _ _ (λx c e=>qx (kW (cellD x c (clsub0 x c e)) DltC)) λx y c h1 h2=>I.ok.inj x y c (clsub0 x c h1) (clsub0 y c h2),λx hx=>?_,λx c hx=>?_,I.ok.hd,I.ok.frames,.inl rfl,λb hb=>?_,λb o e=>?_,?_,λb o e hb=>?_,λb hb z=>?_,?_,#[I.Hi,I.tb]]
  .exact hkind
  .refine HB _ _ _ x ?_;rcases hvis x hx with q|q
   .obtain⟨c,hc'⟩:=hfree x q;exact .inr (rF _ _ x (.inr #[q,c,hc']))
   .exact .inl q
  .intro hx2;have hm:(x,dN)∈scope.names:=dO (by simpa using(show(scope.names.lookup x==L .cell)=W from hx));rcases zU _ _ _ _ _ hx2 with⟨q,_⟩|⟨q,_⟩
   .show aho.heap.objs.size<=c;rw[hC];exact fP q
   .exact aH hm q
  .rcases be.mp hb with e|hb
   .subst e;exact#[hDC,neD]
   .refine#[?_,λx c e=>neF x c e b hb];exact fpC b hb
  .exact#[up b o (I.bs b o e).1,(I.bs b o e).2]
  .show X.base.objs.size<=aho.heap.objs.size;refine cH (cH I.ok.bsz I.sz) ?_;rw[hD,hC];exact fP DltC
  .have hbD:b<D:=lt2 b o (I.bk b o e);rcases be.mp hb with q|hb
   .exact bG hbD q
   .rcases(hf b hb).2.2.2.1 with q|q
    .exact I.ok.noex b o e q
    .have h1:=aO (I.ok.bs b o e).1;exact aH (bT h1 q) (c8 _)
  .rcases be.mp hb with q|hb
   .exact bG (stkD b z) q
   .obtain⟨_,f1,f2,_⟩:=hf b hb;rcases be.mp (I.A9 b z)with q|q
    .exact f1 q
    .exact f2 q
  .have hfr:=I.stack;have keepF:∀l:M Env,ahr.heap.FunFrames X.base l->aho.heap.FunFrames X.base l:=by
    intro l;induction l with
    |nil=>intro _;trivial
    |cons env r ih=>
     intro hl;let#[hk,#[abk,o,hf',hn,ho,hd],hr]:=hl;exact#[hk,#[abk,o,hf',hn,up abk o ho,hd],ih hr]
   exact keepF _ hfr
 have fpok:∀(H':Hp) (its:M Z) (n:Nat),(∀b∈fp,H' b=S)->∀b∈fp,sE X' [(D,uh its n)] H' b:=λH' its n hn b hb=>by
  refine#[hn b hb,?_,?_,.inl (ao _ hb),λx c e=>neF x c e b hb,λp hp=>?_]
  .exact fpC b hb
  .intro z;let#[_,f1,f2,_]:=hf b hb;rcases be.mp (I.A9 b z)with q|q
   .exact f1 q
   .exact f2 q
  .have hp:p∈[(D,uh its n)]:=hp;have e:p=(D,uh its n):=by simpa using hp
   subst e;exact gf (fpnD b hb)
 have pinD:∀(s:ay) (H':Hp) (its:M Z) (n:Nat),s.heap.get? D=L (uh its n)->H' D=S->∀p∈[(D,uh its n)],s.heap.get? p.1=L p.2/\H' p.1=S/\p.1≠X'.env.locals/\p.1∉X'.fs/\∀v,p.2.data≠.cell v:=by
  intro s H' its n e hn p hp;have q:p=(D,uh its n):=by simpa using hp
  subst q;refine#[e,hn,hDC,λz=>?_,λv z=>nomatch z];exact c8 _ (stkD D z)
 let Iv:Nat->ay->Prop:=λn s=>∃(i:Nat) (acc:M V) (its:M Z) (m:Nat) (σ1:L2.St) (H1:Hp),n=items.length+1-i/\i<=items.length/\L2.Inv X' [(D,uh its m)] σ1 H1 s/\tn i s.heap/\(∀b∈fp,H1 b=S)/\bP acc its/\acc.length<=aj /\
  sO ok g cond te k (items.drop i) acc σ1 H1
 have start:∀tk,L2.Inv X' [(D,uh [] 0)] σ' H { aho with heap:=ahu,toks:=tk }:=λtk=>by
  refine#[ok',rfl,by show p6 aho.gens;rw[egn];exact I.bare,Un.kept up1,#[_,ahF,λi x v h1 h2 h3=>?_],λx c e=>?_,freshH C (fP DltC),λx c e=>?_,λp hp=>?_,?_,hlen]
  .obtain⟨hx,hnl,c,u,hcu,ru,cellu⟩:=hσ i x v h1 h2;refine#[u,ru,.inr #[?_,?_]]
   .rcases h3 with q|q|q
    .exact aH q hnl
    .exact .inl q
    .exact .inr q
   .obtain⟨c',hc'⟩:=rF (cells:=X.env.cells) scope.names [] x (.inr #[hx,c,hcu]);have e1:=clsub0 x c' hc';rw[hcu]at e1;cases e1;let#[o,ho,hd]:=cellu;exact#[c,(Ey _ _ _ x (hcell _ hx rfl)).trans hc',o,up1 _ _ (up _ _ ho),hd]
  .rcases ahH x c e with q|q
   .exact#[S,q]
   .obtain⟨v,o,ho,hd⟩:=I.cell x c (clsub0 x c q);exact#[v,o,up1 _ _ (up _ _ ho),hd]
  .rcases clsub x c e with q|q
   .exact freshH c (fP (kW DltC q))
   .exact I.freeC x c q
  .exact pinD { aho with heap:=ahu,toks:=tk } H [] 0 (up1 _ _ ahU) (freshH D (aK _)) p hp
  .have hk:gR X.prog X.w H ahu:=I.hok.kept λb u e=>up1 b u (up b u e);exact hk
 have loop:∀tk,kE (aW X.prog X.w) X.A (.compLoop (.ListComp elt [#[tgt,iter,ifs,0]] scope pos) 0 (.ref it) (.ref D) X'.env) (RR (.ref D) C) { aho with heap:=ahu,toks:=tk }:=λtk=>by
  refine RU Iv ?_ (items.length+1) #[0,[],[],0,σ',H,rfl,dg _,start tk,T.keep 0 _ _ st λb hb o e=>up1 b o (up b o e),λb hb=>(hf b hb).1,.nil,dg _,by simpa using h];rintro n s ⟨i,acc,its,m,σ1,H1,rfl,hi,J1,st1,fr1,rv,hz,q⟩;by_cases hlt:i<items.length
  .rw[iO hlt]at q;let#[hok,hz1,q]:=q;have ei:items[i]?=L items[i]:=aq hlt;refine bA (T.item X' rfl rfl rfl hcm i _ s σ1 H1 _ J1 (fpok H1 its m fr1) st1 (hJ.go i H1 _ hok ei)) λr s4 ⟨u,hr,h4⟩=>?_;subst hr;refine bA h4 λ_ s5 ⟨x,H5,I5,r5,y5,st5,fr5⟩=>?_;have I5':=I5.pinned (fpok H5 its m fr5) (T.obj _ _ st5);refine bA (hg C aho ex hcm _ s5 σ1 H5 x u _ I5' r5 (hJ.yld i H1 _ x H5 hok ei y5 _ q)) λ_ s6 ⟨σ6,H6,I6,q6⟩=>?_;refine bA (ht C aho ex hcm _ s6 σ6 H6 _ I6 q6) λb s7 ⟨H7,I7,q7⟩=>?_;have keepT:∀{σ8:L2.St}{H8:Hp}{s8:ay},L2.Inv X' ([(D,uh its m)]++Ba fp s5.heap) σ8 H8 s8->tn (i+1) s8.heap/\(∀b∈fp,H8 b=S):=λ{σ8 H8 s8} I8=>by
    refine#[T.keep _ _ _ st5 λb hb o e=>(I8.pin (b,o) (aJ _ (aJ _ (vM hb e)))).1,λb hb=>?_];let#[o,e,_]:=T.obj _ _ st5 b hb;exact(I8.pin (b,o) (aJ _ (aJ _ (vM hb e)))).2.1
   cases b with
   |false=>
    have q7:=(aG bU)▸q7;let#[t1,t2]:=keepT I7;exact#[items.length+1-(i+1),by omega,i+1,acc,its,m,σ6,H7,rfl,hlt,I7.zL,t1,t2,rv,hz,by simpa using q7]
   |true=>
    have q7:te σ6 H7 (λy H4=>sO ok g cond te k (items.drop (i+1)) (acc++[y]) σ6 H4):=by simpa using q7
    refine bA (he C aho ex hcm _ s7 σ6 H7 _ I7 q7) λyv s8 ⟨y,H8,I8,r8,q8⟩=>?_;let#[t1,t2]:=keepT I8;have hD8:=I8.pin (D,uh its m) (aJ _ (bC _ (aQ.mpr rfl)));let#[e8,n8,_]:=hD8;have hl:=rv.length;refine nI F.slot_list_append #[_,e8,rfl] F.entry_list_append (F.args_list_append_2 _ _) (Dr D its.toArray m yv (by rw[aV];lia)) #[e8,?_];have I9:L2.Inv X' [] σ6 H8 s8:=I8.vZ λp hp=>nomatch hp
    have kk:∀b o,b≠D->s8.heap.get? b=L o->(s8.heap.update D (c_ λx=>x.push yv)).get? b=L o:=λb o hb e=>(mh _ _ (gf hb)).trans e;have I10:L2.Inv X' [] σ6 H8 { s8 with heap:=s8.heap.update D (c_ λx=>x.push yv),toks:=s8.toks }:=
     I9.turned kk n8 hDC (.inl aB) neD (λp hp=>nomatch hp)
    have e9:=E8 e8 (λx=>x.push yv);rw[List.push_toArray]at e9;obtain⟨m',e10⟩:∃m',({ s8 with heap:=s8.heap.update D (c_ λx=>x.push yv),toks:=s8.toks }:ay).heap.get? D=L (uh (its++[yv]) m'):=#[_,e9];refine#[items.length+1-(i+1),by omega,i+1,acc++[y],its++[yv],m',σ6,H8,rfl,hlt,I10.vZ (pinD _ H8 _ m' e10 n8),?_,t2,rv.append (.cons r8 .nil),by rw[bf,f_];lia,q8];exact T.keep _ _ _ t1 λb hb o e=>kk b o (fpnD b hb) e
  .rw[jC (by omega)]at q;let#[hok,q]:=q;refine bA (T.done X' rfl rfl rfl hcm i _ s σ1 H1 _ J1 (fpok H1 its m fr1) st1 (hJ.stop i H1 hok (by omega))) λr s4 ⟨hr,I4⟩=>?_;subst hr;let#[e4,n4,_]:=I4.pin (D,uh its m) (aJ _ (aQ.mpr rfl));let#[mC,hnC,_]:=I4.loc;have hCn:H1 C=S:=I4.free;have exD:∀b,b<D->b∉fp->b∉X'.ex:=λb hb hn z=>by
    rcases be.mp z with q|q
    .exact bG hb q
    .exact hn q
   have hok':gR X.prog X.w (upd H1 D (.lst acc)) s4.heap:=RT I4.hok n4 #[hz,its,m,rv,e4];have hU:Un (frs X.stack) fp H (upd H1 D (.lst acc)) ahr.heap s4.heap:=by
    have b4:=I4.base;refine#[λb o e n hb hx=>?_,λb o e n hb hx=>?_,λb o e n hx=>?_,λb o e hx=>?_,λb xs e=>?_,λb o u e=>?_,λb ps e=>?_]
    .exact b4.keep b o (up b o e) n hb (exD b (lt2 b o e) hx)
    .exact b4.slot b o (up b o e) n hb (exD b (lt2 b o e) hx)
    .rw[aY (bG (lt2 b o e))];exact b4.free b o (up b o e) n (exD b (lt2 b o e) hx)
    .exact b4.there b o (up b o e) (exD b (lt2 b o e) hx)
    .have z:=b4.tups b xs e;rw[aY (bZ z n4)];exact z
    .have z:=b4.aA b o u e;rw[aY (bZ z n4)];exact z
    .obtain⟨more,z⟩:=b4.tbls b ps e;exact#[more,by rw[aY (bZ z n4)];exact z]
   have I5:L2.Inv X pins U (upd H1 D (.lst acc)) s4:=I.call' (ch:=fp) (I4.os.trans eos) hU hok' I4.bare λb hb=>by
    let#[f0,f1,f2,f3,f4,f5]:=hf b hb;exact#[f3,f1,f4,f5]
   refine hRR D C s4 H1 acc n4 q I5 ?_ #[mC,hnC];have hle:ahr.heap.objs.size<=C:=by rw[hD];exact fP DltC
   have z:=I.sG (H':=upd H1 D (.lst acc)) (b:=C) hle (by rw[aY (gf hDC)];exact hCn);exact z
 subst ahE;exact codeAny_compStart_list (loop _) (T.self _ 0 _ _ _ (T.keep 0 _ _ st λb hb o e=>up1 b o (up b o e)) (loop _))
end
noncomputable def gz(N nl:M Str)(fr:M Nat):M Str:=nl++fr.map λi=>N.getD i Cv
noncomputable def sR(nl:M Str)(fr:M Nat)(U:L2.St):L2.St:=nl.map (λ_=>S)++fr.map λi=>U.getD i S
structure uW (sc:fH) (N:M Str) (scope:fH) (nl:M Str) (fr:M Nat):Prop where
 kind:scope.kind=.function
 cell:∀y∈scope.names,y.2=.free->(y.1,dN)∉scope.names
 names:∀x∈scope.names,x.2=.local->scope.names.lookup x.1=L .local
 free:∀n,(n,dM)∈scope.names->sc.names.lookup n=L .cell\/sc.names.lookup n=L .free
 fr:∀i∈fr,∃x,N[i]?=L x/\scope.names.lookup x=L .free
def Br(x:Str)(h:(p_ scope env).names.lookup x=L .cell\/(p_ scope env).names.lookup x=L .free):(x,dM)∈scope.names\/(x,dN)∈scope.names:=by
 have key:∃k,(x,k)∈(p_ scope env).names/\(k=.cell\/k=.free):=by
  rcases h with h|h
  .exact#[_,dO h,.inl rfl]
  .exact#[_,dO h,.inr rfl]
 let#[k,hm,hk]:=key;unfold p_ at hm;simp only[ck]at hm;let#[#[n,k0],h0,e]:=hm;simp only at e;split at e
 .lia
 .lia
theorem Bs{env:Env}:∀{names:M (Str×je)}{x:Str},names.lookup x=L .free->
 (names.map λ(n,k)=>if(k==dM&&env.scope.kind==.function&&env.kindOf n==L .cell)then(n,dN)else(n,k)).lookup x≠L .local
|[],_,h=>by simp at h
|(n,k)::r,x,h=>by
 have ih:=@Bs env r x;show l_ x ((if(k==dM&&env.scope.kind==.function&&env.kindOf n==L .cell)=W then(n,dN)else(n,k))::_)≠_;cases hx:x==n with
 |true=>
  simp only[dB,hx]at h;cases h;by_cases hc:(dM==dM&&env.scope.kind==.function&&env.kindOf n==L .cell)=W
  .rw[aF hc];simp only[dB,hx];decide
  .rw[aG hc];simp only[dB,hx];decide
 |false=>
  simp only[dB,hx]at h;by_cases hc:(k==dM&&env.scope.kind==.function&&env.kindOf n==L .cell)=W
  .rw[aF hc];simp only[dB,hx];exact ih h
  .rw[aG hc];simp only[dB,hx];exact ih h
section
variable{X:Cx}{tgt iter elt:Expr}{ifs:M Expr}{scope:fH}{pos:Pos}{nl:M Str}{fr:M Nat}{wi:TIt}{g:TG}{cond:TT}{te:TE}
def zV(abr:uW X.env.scope X.N scope nl fr)(I:L2.Inv X pins U H s)(i:Nat)(x:Str)(v:V)(h1:(gz X.N nl fr)[i]?=L x)(h2:(sR nl fr U)[i]?=L (L v)):(x,dM)∈scope.names/\(p_ scope X.env).names.lookup x≠L .local/\∃c u,X.env.cells.lookup x=L c/\RelV v u/\s.heap.IsCell c (L u):=by
 unfold gz at h1;unfold sR at h2;by_cases hi:i<zl nl
 .rw[cI (by simpa using hi),bg,aq hi]at h2;cases h2
 .rw[dJ (by lia)]at h1;rw[dJ (by simp;lia)]at h2;rw[bg]at h1 h2;rw[aa]at h2;cases e:fr[i-zl nl]? with
  |none=>rw[e]at h1;cases h1
  |some j=>
   rw[e]at h1 h2;have h1:=cB h1;have h2:=cB h2;let#[y,hy,hf]:=abr.fr j (fT e);have exy:y=x:=by
    rw[<-h1];simp[hy]
   subst exy;have hσ:U[j]?=L (L v):=by
    cases q:U[j]? with
    |none=>simp[q]at h2
    |some o=>
     simp[q]at h2;rw[h2]
   have hm:=dO hf;refine#[hm,Bs hf,?_];let#[m,hn,hl]:=I.loc;have hk:=abr.free y hm;let#[u,ru,l]:=hl j y v hy hσ (by rcases hk with q|q;exact .inr (.inl q);exact .inr (.inr q));rcases l with⟨l,_⟩|⟨_,c,hc,hcell⟩
   .exfalso;have l:X.env.scope.names.lookup y=L .local:=l;rcases hk with q|q<;>rw[q]at l<;>cases l
   .exact#[c,u,hc,ru,hcell]
def rV(abr:uW X.env.scope X.N scope nl fr)(I:L2.Inv X pins U H s):∀n,(n,dM)∈scope.names->∃c,X.env.cells.lookup n=L c:=λn hn=>I.ok.has n (abr.free n hn)
def ZG(hc:X.calm=W)(abr:uW X.env.scope X.N scope nl fr)(hi:DJ X tgt iter wi)(hs:∀x,mH iter X.env x=pure x)(hg:∀(C:Addr) (aho:ay) (H:Hp) (ex:M Addr),PG (jY X (gz X.N nl fr) scope C aho H ex) tgt g)(ht:∀(C:Addr) (aho:ay) (H:Hp) (ex:M Addr),Ob (jY X (gz X.N nl fr) scope C aho H ex) ifs cond)(he:∀(C:Addr) (aho:ay) (H:Hp) (ex:M Addr),PE (jY X (gz X.N nl fr) scope C aho H ex) elt te):PE X (.ListComp elt [#[tgt,iter,ifs,0]] scope pos) (λU H Q=>wi U H λok items H1=>sO ok g cond te (λvs H2=>∀p,H2 p=S->Q (.ref p) (upd H2 p (.lst vs))) items [] (sR nl fr U) H1):=by
 intro pins s U H Q I h;rw[eval_ListComp];refine xu rfl hs (vh (rV abr I)) abr.kind abr.names (bA (hi pins s U H _ I h) λv ahq ahu=>bA ahu λitv ahr ahD=>?_);let#[it,fp,tn,abt,H2,e,I2,T,st,hf,ok,items,hJ,hk]:=ahD;subst e;refine FG (λ_ _ _ _ _=>hc) I2 (Yi T) st hf hJ abr.cell abr.kind (rV abr I2) ?_ (zV abr I2) Br
  (λC aho ex _=>hg C aho H2 ex) (λC aho ex _=>ht C aho H2 ex) (λC aho ex _=>he C aho H2 ex) hk λD C s' H3 vs hD q I3 f3 hn=>?_
 .unfold sR gz;simp
 .obtain⟨m,hn⟩:=hn;let#[f0,f1,f2,f3,f4,f5]:=f3;refine#[m,hn,λh' hsb=>#[.ref D,_,I3.turned (λb o hb e=>hsb.extBut b o hb e) f0 f1 f3 f4 f5,rfl,q D hD]]
def ZH(hc:X.calm=W)(hN:X.N.Nodup)(hiy:X.N[i]?=L y)(hy:X.env.scope.names.lookup y=L .local)(abr:uW X.env.scope X.N scope nl fr)(hi:DJ X tgt iter wi)(hs:∀x,mH iter X.env x=pure x)(hsw:u9 (.ListComp elt [#[tgt,iter,ifs,0]] scope pos) (L (.Name y py)) spos.line X.env=pure W)(hg:∀(C:Addr) (aho:ay) (H:Hp) (ex:M Addr),PG (jY X (gz X.N nl fr) scope C aho H ex) tgt g)(ht:∀(C:Addr) (aho:ay) (H:Hp) (ex:M Addr),Ob (jY X (gz X.N nl fr) scope C aho H ex) ifs cond)(he:∀(C:Addr) (aho:ay) (H:Hp) (ex:M Addr),PE (jY X (gz X.N nl fr) scope C aho H ex) elt te):PS X (.Assign [.Name y py] (.ListComp elt [#[tgt,iter,ifs,0]] scope pos) spos) (λD U H=>wi U H λok items H1=>sO ok g cond te (λvs H2=>∀p,H2 p=S->D.nx (U.set i (L (.ref p))) (upd H2 p (.lst vs))) items [] (sR nl fr U) H1):=by
 intro pins s U H D I h;rw[PySem.exec_Assign_Name_used _ _ _ _ hsw];refine ai (AO (ai ?_));refine ai (gZ (xu rfl hs (vh (rV abr I)) abr.kind abr.names
  (bA (hi pins s U H _ I h) λv ahq ahu=>bA ahu λitv ahr ahD=>?_)) (λ_ s' hq=>aL (aL hq)) λ_ _ e=>e)
 let#[it,fp,tn,abt,H2,e,I2,T,st,hf,ok,items,hJ,hk]:=ahD;subst e;refine FG (λ_ _ _ _ _=>hc) I2 (Yi T) st hf hJ abr.cell abr.kind (rV abr I2) ?_ (zV abr I2) Br
  (λC aho ex _=>hg C aho H2 ex) (λC aho ex _=>ht C aho H2 ex) (λC aho ex _=>he C aho H2 ex) hk λDD C s' H3 vs hD q I3 f3 hn=>?_
 .unfold sR gz;simp
 .obtain⟨m,hn⟩:=hn;let#[f0,f1,f2,f3,f4,f5]:=f3;refine Dn (IF (v:=.ref DD) I3 hN hiy (.inl hy) rfl (λs'' I4 hsame=>?_) (.inr hy));let#[a,hs',ha]:=hsame;have hCa:C≠a:=by
   rcases ha with q|q
   .rw[q];exact f1
   .exact λz=>f4 y a q z.symm
  refine#[m,hn.sameBut hs' hCa,λh' hsb=>#[_,_,I4.turned (λb o hb e=>hsb.extBut b o hb e) f0 f1 f3 f4 f5,q DD hD]]
end
structure Tab where
 N:M Str
 sc:fH
 gl:M Str
 bn:M Str
 own:Str->Bool
 calm:Bool
 semi:Bool
noncomputable def Vj(sc:fH)(x:Str):Bool:=match sc.names.lookup x with
|some .local=>W
|some .cell=>W
|some .free=>W
|_=>B
noncomputable def Vk(T:Tab)(x:Str):Bool:=match T.sc.names.lookup x with
|some .local=>W
|some .cell=>T.own x
|_=>B
noncomputable def rW(sc:fH)(x:Str):Bool:=decide (sc.names.lookup x=L .globalImplicit)
noncomputable def noStar:Expr->Bool
|.Starred ..=>B
|_=>W
def cM(es:M Expr):Bool:=es.all noStar
noncomputable def vP:Expr->Bool
|.Call ..=>B
|_=>W
noncomputable def zW:Expr->Bool
|.Slice ..=>B
|_=>W
noncomputable def LJ:Expr->Bool
|.Set ..=>B
|_=>W
noncomputable def pP:Expr->Bool
|.ListComp ..=>B
|.SetComp ..=>B
|.DictComp ..=>B
|_=>W
noncomputable def notTuple:Expr->Bool
|.Tuple ..=>B
|.List ..=>B
|_=>W
noncomputable def acr:V->Const->Bool
|.int i,.int j=>decide (i=j)
|.bl a,.bool b=>decide (a=b)
|.str a,.str b=>decide (a=b)
|.non,.none=>W
|_,_=>B
noncomputable def IV(scope sc:fH):fH:=
 { scope with names:=scope.names.map λ(n,k)=>if(k==.free&&sc.kind==.function&&sc.names.lookup n==L .cell)then(n,.cell)else(n,k) }
def KD(T:Tab)(scope:fH)(nl:M Str)(fr:M Nat):Tab:={ N:=gz T.N nl fr,sc:=IV scope T.sc,gl:=T.gl,bn:=T.bn,own:=(λx=>scope.names.lookup x==L .cell),calm:=T.calm,semi:=T.semi }
def rX(sc:fH)(N:M Str)(scope:fH)(nl:M Str)(fr:M Nat):Bool:=
 decide (scope.kind=.function)&&scope.names.all (λy=>decide (y.2=.free->(y.1,dN)∉scope.names))&&scope.names.all (λx=>decide (x.2=.local->scope.names.lookup x.1=L .local))
 && scope.names.all (λx=>decide (x.2=.free->sc.names.lookup x.1=L .cell\/sc.names.lookup x.1=L .free))&&fr.all (λi=>match N[i]? with|some x=>decide (scope.names.lookup x=L .free)|none=>B)
 && decide (gz N nl fr).Nodup
def Pq(T:Tab)(scope:fH)(x:Str)(fr:M Nat):Tab:={ N:=x::gz T.N [] fr,sc:=scope,gl:=[],bn:=T.bn,own:=(λ_=>B),calm:=W,semi:=B }
def wx(sc:fH)(N:M Str)(scope:fH)(x:Str)(fr:M Nat):Bool:=
 rX sc N scope [] fr&&!scope.isCoroutine&&!scope.isGenerator&&decide (scope.names.lookup x=L .local)&&scope.names.all (λy=>decide (y.2≠.cell))&&decide (x∉gz N [] fr)
noncomputable def cP(e:Expr):abM (Expr×M Expr×M v_×Pos):=match e with
|.Call f as ks p=>L (f,as,ks,p)
|_=>S
noncomputable def nP(e:Expr):abM (Str×Pos):=match e with
|.Name x p=>L (x,p)
|_=>S
noncomputable def aP(e:Expr):abM (Expr×Str×Pos):=match e with
|.Attribute l y p=>L (l,y,p)
|_=>S
noncomputable def mP(e:Expr):abM (sd×Expr×fH×Pos):=match e with
|.Lambda a b s p=>L (a,b,s,p)
|_=>S
noncomputable def Oc{α:Type}(l:M α):abM α:=match l with
|[c]=>L c
|_=>S
noncomputable def Bt{α:Type}(l:M α):abM Unit:=match l with
|[]=>L ()
|_=>S
noncomputable def n0P{α:Type}(l:abM α):abM Unit:=match l with
|none=>L ()
|_=>S
def Yj(e:Expr):abM ((Str×Pos)×(M v_×Pos)×Expr×M Expr×M v_×Pos):=(cP e).bind λa=>(nP a.1).bind λx=>(Oc a.2.1).bind λc=>(cP c).bind λb=>L (x,a.2.2,b)
def Pr(e:Expr):abM (Str×Str×Expr×Str×Expr):=(Yj e).bind λw=>(Oc w.2.1.1).bind λk=>k.arg.bind λz=>(nP w.2.2.1).bind λy=>(Oc w.2.2.2.1).bind λn=>(Bt w.2.2.2.2.1).bind λ_=>L (w.1.1,y.1,n,z,k.value)
def Pu(e:Expr):abM (Str×Str×Expr×Bool):=(Yj e).bind λw=>(Bt w.2.1.1).bind λ_=>(aP w.2.2.1).bind λq=>(Bt w.2.2.2.1).bind λ_=>(Bt w.2.2.2.2.1).bind λ_=>L (w.1.1,q.2.1,q.1,q.2.2.endLine==w.2.2.2.2.2.line)
def EA(e:Expr):abM (Str×Str×Expr):=(Yj e).bind λw=>(Bt w.2.1.1).bind λ_=>(nP w.2.2.1).bind λy=>(Oc w.2.2.2.1).bind λl=>(Bt w.2.2.2.2.1).bind λ_=>L (w.1.1,y.1,l)
def gP(a:sd):abM Arg:=(Bt a.posonlyargs).bind λ_=>(Oc a.args).bind λv=>(n0P a.vararg).bind λ_=>(Bt a.kwonlyargs).bind λ_=>(Bt a.kw_defaults).bind λ_=>(n0P a.kwarg).bind λ_=>(Bt a.defaults).bind λ_=>L v
def LK(e:Expr):abM (Str×Expr×fH):=(mP e).bind λa=>(gP a.1).bind λv=>L (v.arg,a.2.1,a.2.2.1)
def Bu(T:Tab)(x y:Str):Bool:=decide (x=y)&&rW T.sc x&&T.bn.contains x
noncomputable def Vl:CI->Expr->Bool
|.enum _,e=>match e with
 |.Tuple ..=>W
 |_=>B
|_,_=>W
noncomputable def EB(sc:fH):Expr->Bool
|.Name y _=>!decide (sc.names.lookup y=L .local)
|_=>W
noncomputable def KE(sc scope:fH)(t:Str)(pos vpos:Pos):Bool:=decide (sc.names.lookup t=L .local)&&decide (pos.line=vpos.line)&&!(scope.names.any λ(n,k)=>n==t&&(k==.local||k==.cell))
def aeC(T:Tab)(g:Nat):Expr->Bool
|.Name y _=>decide (T.gl[g]?=L y)&&rW T.sc y&&!(y==("__debug__":Str))
|_=>B
def aeD(T:Tab):M Nat->M Expr->Bool
|[],es=>es.isEmpty
|g::gs,es=>match es with
 |e::er=>aeC T g e&&aeD T gs er
 |_=>B
noncomputable def fI(k:Nat):Expr->Bool
|.Call f _ _ _=>f.ctorIdx==k
|_=>B
noncomputable def aI:Expr->Bool
|.Call _ [_,c] _ _=>c.ctorIdx==23
|_=>B
noncomputable def uI:Expr->Bool
|.Subscript _ r _=>r.ctorIdx==26
|_=>B
noncomputable def gI2:Stmt->Bool
|.AugAssign t _ _ _=>t.ctorIdx==23
|_=>B
noncomputable def cI2:Stmt->Bool
|.Assign (t::_) e _=>t.ctorIdx==23&&e.ctorIdx==8
|_=>B
def rI:Stmt->Bool
|.Raise (L e) _ _=>e.ctorIdx==16&&fI 23 e
|_=>B
noncomputable def tI:Stmt->Bool
|.Try _ (.ExceptHandler (L a) _ _ _::_) _ _ _=>a.ctorIdx==23
|_=>B
def bI1:M Stmt->Bool
|s::_=>s.ctorIdx==24&&match s with
 |.Expr e _=>e.ctorIdx==16&&fI 23 e
 |_=>B
|_=>B
noncomputable def bI2:M Stmt->Bool
|s::_=>s.ctorIdx==12
|_=>B
noncomputable def aeE:M (Str×J)->M (abM Expr)->M Expr->Bool
|[],ks,vs=>ks.isEmpty&&vs.isEmpty
|p::r,ks,vs=>match ks,vs with
 |some (.Constant (.str x) _ _)::ks,.Constant (.int i) _ _::vs=>decide (x=p.1/\i=p.2)&&aeE r ks vs
 |_,_=>B
noncomputable def aeF:CI->Bool
|_=>B
noncomputable def aeG:Bf->Bool
|.all=>W
|.len=>W
|_=>B
mutual
noncomputable def cX(T:Tab):CE->Expr->Bool
|.var i,e=>e.ctorIdx==23&&match e with
 |.Name x _=>decide (T.N[i]?=L x)&&Vj T.sc x&&!(x==("__debug__":Str))&&!(x==("__classdict__":Str))
 |_=>B
|.con v,e=>e.ctorIdx==19&&match e with
 |.Constant c _ _=>acr v c
 |_=>B
|.bin op a b,e=>e.ctorIdx==2&&match e with
 |.BinOp l o r _=>decide (op=o)&&cX T a l&&cX T b r
 |_=>B
|.neg a,e=>e.ctorIdx==3&&match e with
 |.UnaryOp .USub l _=>cX T a l
 |_=>B
|.not a,e=>e.ctorIdx==3&&match e with
 |.UnaryOp .Not l _=>cX T a l
 |_=>B
|.and a b,e=>e.ctorIdx==0&&match e with
 |.BoolOp .And [x,y] _=>cX T a x&&cX T b y
 |.BoolOp .And (x::y::z::r) pos=>cX T a x&&cX T b (.BoolOp .And (y::z::r) pos)
 |_=>B
|.or a b,e=>e.ctorIdx==0&&match e with
 |.BoolOp .Or [x,y] _=>cX T a x&&cX T b y
 |.BoolOp .Or (x::y::z::r) pos=>cX T a x&&cX T b (.BoolOp .Or (y::z::r) pos)
 |_=>B
|.ite c a b,e=>e.ctorIdx==5&&match e with
 |.IfExp t x y _=>cX T c t&&cX T a x&&cX T b y
 |_=>B
|.cmp op a b,e=>e.ctorIdx==15&&match e with
 |.Compare l [o] [r] _=>decide (op=o)&&!AR o r&&cX T a l&&cX T b r
 |_=>B
|.call g as,e=>e.ctorIdx==16&&(fI 23 e&&match e with
 |.Call (.Name x _) es [] _=>decide (T.gl[g]?=L x)&&rW T.sc x&&!(x==("__debug__":Str))&&cM es&&sU T as es
 |_=>B)
|.blt f as,e=>e.ctorIdx==16&&(fI 23 e&&match e with
 |.Call (.Name x _) es [] _=>(T.calm||T.semi&&aeG f)&&(decide (x=f.name)&&rW T.sc x&&T.bn.contains x&&cM es&&!es.isEmpty&&sU T as es)
 |_=>B)
|.isi a t,e=>e.ctorIdx==16&&(fI 23 e&&(aI e&&match e with
 |.Call (.Name x _) [l,.Name y _] [] _=>decide (x=("isinstance":Str))&&rW T.sc x&&T.bn.contains x&&decide (y=t.name)&&decide (t≠.none)&&rW T.sc y&&T.bn.contains y&&noStar l&&cX T a l
 |_=>B))
|.mth m o as,e=>e.ctorIdx==16&&(fI 20 e&&match e with
 |.Call (.Attribute l nm apos) es [] cpos=>decide (nm=m.name)&&vP l&&(apos.endLine==cpos.line)&&cM es&&decide (zl es<30)&&cX T o l&&sU T as es
 |_=>B)
|.ix a b,e=>e.ctorIdx==21&&match e with
 |.Subscript l r _=>zW r&&cX T a l&&cX T b r
 |_=>B
|.sl a lo hi,e=>e.ctorIdx==21&&(uI e&&match e with
 |.Subscript l (.Slice x y S _) _=>cX T a l&&Vm T lo x&&Vm T hi y
 |_=>B)
|.lst as,e=>e.ctorIdx==24&&match e with
 |.List es _=>cM es&&sU T as es
 |_=>B
|.tup as,e=>e.ctorIdx==25&&match e with
 |.Tuple es _ _=>cM es&&sU T as es
 |_=>B
|.dct,e=>e.ctorIdx==6&&match e with
 |.Dict [] [] _=>W
 |_=>B
|.comp nl fr elt tg src cond,e=>e.ctorIdx==8&&match e with
 |.ListComp l [#[t,it,ifs,0]] sc _=>(T.calm&&!T.semi||T.semi&&aeF src)&&(rX T.sc T.N sc nl fr&&(LJ it&&Vl src t)&&Vn T src it&&yw (KD T sc nl fr) tg t&&acu (KD T sc nl fr) cond ifs&&cX (KD T sc nl fr) elt l)
 |_=>B
|.trg as,e=>match e with
 |.Call (.Name x _) [.Call (.Name y _) es [] _] [] _=>T.calm&&(decide (x=("tuple":Str))&&rW T.sc x&&T.bn.contains x&&decide (y=("range":Str))&&rW T.sc y&&T.bn.contains y&&cM es&&!es.isEmpty&&sU T as es)
 |_=>B
|.skl g fr n body,e=>match Pr e with
 |some (x,y,ne,z,l)=>match LK l with
  |some (v,b,sc)=>T.calm&&!T.semi&&(decide (x=("sorted":Str))&&rW T.sc x&&T.bn.contains x&&decide (y=("range":Str))&&rW T.sc y&&T.bn.contains y&&noStar ne&&decide (z=("key":Str))&&cX T n ne)&&(decide (g<zl T.gl)&&wx T.sc T.N sc v fr&&cX (Pq T sc v fr) body b)
  |none=>B
 |none=>B
|.sit a,e=>match Pu e with
 |some (x,y,l,b)=>T.calm&&(Bu T x "sorted"&&decide (y=("items":Str))&&b&&vP l&&cX T a l)
 |none=>B
|.lrv a,e=>match EA e with
 |some (x,y,l)=>T.calm&&(Bu T x "list"&&Bu T y "reversed"&&noStar l&&cX T a l)
 |none=>B
|.dcT,e=>match e with
 |.Dict [] [] _=>W
 |_=>B
|.att g a f,e=>e.ctorIdx==20&&match e with
 |.Attribute l nm _=>decide (nm=f)&&vP l&&cX T a l&&decide (g<zl T.gl)
 |_=>B
noncomputable def sU(T:Tab):iV->M Expr->Bool
|.nil,es=>match es with
 |[]=>W
 |_=>B
|.cons a r,es=>match es with
 |e::er=>cX T a e&&sU T r er
 |_=>B
noncomputable def Vm(T:Tab):CO->abM Expr->Bool
|.none,e=>match e with
 |none=>W
 |_=>B
|.some a,e=>match e with
 |some x=>cX T a x
 |_=>B
noncomputable def acu(T:Tab):CO->M Expr->Bool
|.none,es=>match es with
 |[]=>W
 |_=>B
|.some a,es=>match es with
 |[x]=>cX T a x
 |_=>B
noncomputable def yw(T:Tab):CG->Expr->Bool
|.name i,e=>e.ctorIdx==23&&match e with
 |.Name x _=>decide (T.N[i]?=L x)&&Vk T x
 |_=>B
|.tup gs,e=>e.ctorIdx==25&&match e with
 |.Tuple es _ _=>(T.calm||T.semi)&&(cM es&&KG T gs es)
 |_=>B
|.sub o i,e=>e.ctorIdx==21&&match e with
 |.Subscript l r _=>zW r&&cX T o l&&cX T i r
 |_=>B
noncomputable def KG(T:Tab):xO->M Expr->Bool
|.nil,es=>match es with
 |[]=>W
 |_=>B
|.cons g r,es=>match es with
 |e::er=>yw T g e&&KG T r er
 |_=>B
noncomputable def Vn(T:Tab):CI->Expr->Bool
|.seq a,e=>cX T a e
|.range as,e=>e.ctorIdx==16&&(fI 23 e&&match e with
 |.Call (.Name x _) es [] _=>decide (x=("range":Str))&&rW T.sc x&&T.bn.contains x&&cM es&&!es.isEmpty&&sU T as es
 |_=>B)
|.enum a,e=>e.ctorIdx==16&&(fI 23 e&&match e with
 |.Call (.Name x _) [l] [] _=>decide (x=("enumerate":Str))&&rW T.sc x&&T.bn.contains x&&noStar l&&cX T a l
 |_=>B)
|.rev a,e=>match e with
 |.Call (.Name x _) [l] [] _=>decide (x=("reversed":Str))&&rW T.sc x&&T.bn.contains x&&noStar l&&cX T a l
 |_=>B
|.rrg a,e=>match EA e with
 |some (x,y,l)=>Bu T x "reversed"&&Bu T y "range"&&noStar l&&cX T a l
 |none=>B
|.kys a,e=>cX T a e
end
noncomputable def Vo(nl:M Str)(j k:Nat):CE:=.comp nl [j] (.tup (.cons (.var 0) (.cons (.var 1) .nil))) (.tup (.cons (.name 0) (.cons (.name 1) (.cons (.name 2) .nil)))) (.kys (.var k)) (.some (.cmp .Eq (.var 2) (.var 3)))
def acv(T:Tab):CB->M Stmt->Bool
|.call g as,sts=>bI1 sts&&match sts with
 |[.Expr (.Call (.Name x _) es [] _) _]=>decide (T.gl[g]?=L x)&&rW T.sc x&&!(x==("__debug__":Str))&&cM es&&!es.isEmpty&&sU T as es
 |_=>B
|.ite c a b,sts=>bI2 sts&&match sts with
 |[.If t x y _]=>cX T c t&&acv T a x&&acv T b y
 |_=>B
mutual
noncomputable def acw(T:Tab):CS->Stmt->Bool
|.expr c,st=>st.ctorIdx==24&&match st with
 |.Expr e _=>pP e&&cX T c e
 |_=>B
|.asg g c,st=>st.ctorIdx==5&&match st with
 |.Assign [t] e _=>(pP e||EB T.sc t)&&notTuple t&&yw T g t&&cX T c e
 |_=>B
|.aug i c,st=>st.ctorIdx==7&&(gI2 st&&match st with
 |.AugAssign (.Name x _) .Add e _=>decide (T.N[i]?=L x)&&decide (T.sc.names.lookup x=L .local)&&cX T c e
 |_=>B)
|.agi k j n,st=>st.ctorIdx==7&&match st with
 |.AugAssign (.Subscript o i _) .Add e _=>cX T (.var k) o&&cX T (.var j) i&&cX T (.con (.int n)) e
 |_=>B
|.rite c a b,st=>st.ctorIdx==3&&match st with
 |.Return (L e) _=>cX T (.ite c a b) e
 |_=>B
|.mov i j,st=>st.ctorIdx==5&&match st with
 |.Assign [t] e _=>(pP e||EB T.sc t)&&notTuple t&&yw T (.name i) t&&cX T (.var j) e
 |_=>B
|.dfs i nl j k,st=>st.ctorIdx==5&&match st with
 |.Assign [t] e _=>(pP e||EB T.sc t)&&notTuple t&&yw T (.name i) t&&cX T (Vo nl j k) e
 |_=>B
|.sfld g k f c,st=>st.ctorIdx==5&&match st with
 |.Assign [.Attribute o y _] e _=>decide (y=f)&&cX T (.var k) o&&cX T c e&&decide (g<zl T.gl)
 |_=>B
|.acl i g as,st=>st.ctorIdx==5&&match st with
 |.Assign [t] e _=>(pP e||EB T.sc t)&&notTuple t&&yw T (.name i) t&&cX T (.call g as) e
 |_=>B
|.casg i c,st=>st.ctorIdx==5&&(cI2 st&&match st with
 |.Assign [.Name y py] (.ListComp l gs sc vpos) _=>(T.calm&&!T.semi)&&(decide (T.N[i]?=L y)&&KE T.sc sc y py vpos&&cX T c (.ListComp l gs sc vpos))
 |_=>B)
|.tasg g c,st=>match st with
 |.Assign [t] e _=>pP e&&notTuple e&&yw T g t&&cX T c e
 |_=>B
|.ret c,st=>st.ctorIdx==3&&match st with
 |.Return (L e) _=>cX T c e
 |_=>B
|.rcl g as,st=>st.ctorIdx==3&&match st with
 |.Return (L e) _=>cX T (.call g as) e
 |_=>B
|.ifs c a b,st=>st.ctorIdx==12&&match st with
 |.If t x y _=>cX T c t&&sV T a x&&sV T b y
 |_=>B
|.whil c b,st=>match st with
 |.While t x [] _=>cX T c t&&sV T b x
 |_=>B
|.forr g src b,st=>st.ctorIdx==9&&match st with
 |.For t it x [] _=>T.calm&&((LJ it&&Vl src t)&&Vn T src it&&yw T g t&&sV T b x)
 |_=>B
|.brk,st=>st.ctorIdx==26&&match st with
 |.Break _=>W
 |_=>B
|.cont,st=>st.ctorIdx==27&&match st with
 |.Continue _=>W
 |_=>B
|.never,_=>W
noncomputable def sV(T:Tab):cF->M Stmt->Bool
|.nil,sts=>match sts with
 |[]=>W
 |_=>B
|.cons s r,sts=>match sts with
 |st::sr=>acw T s st&&sV T r sr
 |_=>B
end
noncomputable def qA(A:cQ):cQ:={ A with handled:=S }
def HdC(h:Heap)(e:Addr):Prop:=∃oe vs,h.get? e=L oe/\oe.data=.fields vs/\vs[2]?=L .none
structure Yk (P:bO) (w:bL) (K:ak) (mg:Str->abM Z) (base:Heap) (k:Nat) (f:Addr) (fd:fc) (ps:M Str) (sp:Sp):Prop where
 len:∀vs H Q,sp vs H Q E0->zl vs=zl ps
 run:∀(A:cQ) (outer:M Env) (s:ay) (H:Hp) (args:Args) (us:M Z) (vs:M V) (Q:VK) (e:Addr),jV k (qA A)->A.handled=L (.ref e)->HdC s.heap e->H e=S->e∉frs outer->Be P w K mg base A outer s H->Df s fd args (ps.zip us)->bP vs us->sp vs H Q E0->
  kE (aW P w) A (.call (.ref f) args) (CR RD outer P w H s Q E0) s
def LL{H:Hp}{e:Addr}:Bl H e e=S:=aF rfl
def off_ne{H:Hp}{e b:Addr}(h:b≠e):Bl H e b=H b:=aG h
def Vp(C:Addr)(spI sp:Sp):Prop:=∀vs H Q E,sp vs H Q E->∀x dx,H x=S->H dx=S->dx≠x->spI (.ref x::vs) (upd (upd H dx (.own x)) x (.ins C dx [])) (λv H2=>v=.non/\Q (.ref x) H2) E
def MkG(X:Cx)(E:XK)(x:Str)(sp:Sp)(dvs:M V):Prop:=dvs=[]/\∃(C:Addr) (k:Nat) (f:Addr) (fd:fc) (ps:M Str) (spI:Sp),g_ X.prog X.w X.K X.mg X.base (mw X.prog X.w) k f fd ps spI/\jV (k+1) X.A/\X.mg x=L (.ref C)/\Mk X.K C f/\Binds X.K fd ps []/\Vp C spI sp/\uP (mw X.prog X.w) X E
def HG(X:Cx)(E:XK)(x:Str)(sp:Sp)(dvs:M V):Prop:=bu
def HG.comp(h:HG X E x sp dvs)(hc:X.calm=W\/FF X/\FF X')(e1:X'.A=X.A)(e2:X'.prog=X.prog)(e3:X'.w=X.w)(e4:X'.K=X.K)(e5:X'.mg=X.mg)(e6:X'.base=X.base)(e7:X'.calm=X.calm):HG X' E0 x sp dvs:=h
structure LM (X:Cx) (P:Addr):Prop where
 c:∃c,X.env.code=.ref c/\rR X.K c P=W
 tb:(P,X.env.qual++"<lambda>")∈oY
 dp:X.A.depth<uD
 un:X.A.units+80<eS
def GOk(X:Cx)(E:XK)(x:Str):G->Prop
|.val v=>∃u,X.mg x=L u/\RelV v u
|.tup a xs=>X.mg x=L (.ref a)/\KSq X.K a W xs
|.fn sp dvs=>(∃(k:Nat) (f:Addr) (fd:fc) (ps:M Str) (ds:M Z),g_ X.prog X.w X.K X.mg X.base (mw X.prog X.w) k f fd ps sp/\jV k X.A/\X.mg x=L (.ref f)/\fL X.K (.ref f)=W/\Binds X.K fd ps ds/\bP dvs ds/\uP (mw X.prog X.w) X E)\/MkG X E x sp dvs\/HG X E x sp dvs
|.jO C as=>AB X.K C/\∀f∈as,nN X.K C f
|.fh sp=>∃(k:Nat) (f:Addr) (fd:fc) (ps:M Str),Yk X.prog X.w X.K X.mg X.base k f fd ps sp/\jV k (qA X.A)/\X.mg x=L (.ref f)/\fL X.K (.ref f)=W/\(Binds X.K fd ps []/\ps≠[])
|.lam P=>LM X P
|.nop=>True
def acy(h:mw P w outer H s E0 e s'):bu:=by
 exact h
structure Ok (X:Cx) (T:Tab) (O:M G) (E:XK):Prop where
 N:X.N=T.N
 nd:X.N.Nodup
 sc:X.env.scope=T.sc
 kind:X.env.scope.kind=.function
 gl:∀(i:Nat) (x:Str) (g:G),T.gl[i]?=L x->O[i]?=L g->GOk X E x g
 bn:∀x∈T.bn,X.mg x=S
 own:∀x,T.own x=W->X.fn x=W
 calm:T.calm=W->X.calm=W
 semi:T.semi=W->FF X
 po:yc (aW X.prog X.w) X.A X.env X.xe
 room:X.A.units+60<eS
def um(ok:Ok X T O E)(h:rX T.sc T.N sc nl fr=W)(C:Addr)(aho:ay)(H:Hp)(ex:M Addr)(hs:T.semi=W->FF (jY X (gz X.N nl fr) sc C aho H ex))(hcs:T.calm=W\/T.semi=W):Ok (jY X (gz X.N nl fr) sc C aho H ex) (KD T sc nl fr) O E0:=by
 unfold rX at h;simp only[cu,eF]at h;let#[#[#[#[#[h1,h2],h3],h4],h5],h6]:=h;refine#[?_,?_,?_,h1,λi x g hx hg=>?_,ok.bn,λx z=>z,ok.calm,hs,G9,ok.room]
 .show gz X.N nl fr=gz T.N nl fr;rw[ok.N]
 .rw[ok.N];exact h6
 .show p_ sc X.env=IV sc T.sc;rw[<-ok.sc];rfl
 .have q:=ok.gl i x g hx hg;cases g with
  |val v=>exact q
  |tup a xs=>exact q
  |fn sp dvs=>
   rcases q with⟨k,f,fd,ps,ds,q1,q2,q3,q4,q5,q6,q7⟩|⟨e0,C,k,f,fd,ps,spI,q1,q2,q3,q4,q5,q6,q7⟩|q
   .exact .inl #[k,f,fd,ps,ds,q1,q2,q3,q4,q5,q6,λpins U H s e s' I z=>(acy z).elim]
   .exact .inr (.inl #[e0,C,k,f,fd,ps,spI,q1,q2,q3,q4,q5,q6,λpins U H s e s' I z=>(acy z).elim])
   .exact .inr (.inr (q.comp (hcs.imp ok.calm λz=>#[ok.semi z,hs z]) rfl rfl rfl rfl rfl rfl rfl))
  |lam P=>exact#[q.c,q.tb,q.dp,q.un]
  |_=>exact q
def IW(h:rX sc N scope nl fr=W):uW sc N scope nl fr:=by
 unfold rX at h;simp only[cu,eF]at h;let#[#[#[#[#[h1,h2],h3],h4],h5],h6]:=h;refine#[h1,λy hy=>aE (bz.mp h2 y hy),λx hx=>aE (bz.mp h3 x hx),λn hn=>?_,λi hi=>?_]
 .exact aE (bz.mp h4 (n,.free) hn) rfl
 .have q:=bz.mp h5 i hi;revert q;cases N[i]? with
  |none=>simp
  |some x=>simp
section
variable{env:Env}
def fW(h:noStar e=W):gH (e::es) env=(B,eval e env)::gH es env:=by
 cases e<;>first|rfl|exact aH h bU
theorem EC:∀{es:M Expr},cM es=W->gH es env=es.map λe=>(B,eval e env)
|[],_=>rfl
|e::es,h=>by
 have h':noStar e=W/\cM es=W:=by simpa[cM]using h
 rw[fW h'.1,EC h'.2];rfl
def uo(h:cM es=W):(w_ pos (gH es env)).any (·.1)=B:=by
 rw[EC h];unfold w_;rw[bK,tU];rw[Dp];intro x _;simp
def Vq(h:cM es=W)(hl:zl es<30):((w_ pos (gH es env)).all (λx=>!x.1)&&(backToKw pos (keywordEach [] env)).all (λx=>x.1.isSome)&&decide (zl es+zl ([]:M v_)+(if([]:M v_).isEmpty then 0 else 1)<30))=W:=by
 rw[EC h];unfold w_;rw[bK,M3];have e1:(es.all ((λx:Bool×Sem Z=>!x.1)∘(λx:Bool×Sem Z=>(x.1,if x.1 then do let v <-x.2;Iq pos;pure v else x.2))∘λe=>(B,eval e env)))=W:=by
  rw[bz];intro x _;rfl
 have e2:decide (zl es+zl ([]:M v_)+(if([]:M v_).isEmpty then 0 else 1)<30)=W:=by simp_all
 rw[e2,nY];exact nL.mpr #[e1,rfl]
set_option tactic.hygienic true in
def C0(h:vP o=W):Kp o nm env whole=whole:=by
 cases o<;>first|rfl|exact aH (show B=W from h) bU
def Pw(h:zW b=W):NZ b:=by
 intro o i;cases b<;>first|rfl|exact aH h bU
def Bv(h:LJ e=W):∀x,mH e env x=pure x:=by
 intro x;cases e<;>first|rfl|exact aH h bU
def FH(h:pP e=W):u9 e t n env=pure B:=by
 cases e<;>first|rfl|exact aH h bU
def acz(h:Vj env.scope x=W):Rh env.scope x:=by
 unfold Vj at h;split at h
 .exact .inl (by assumption)
 .exact .inr (.inl (by assumption))
 .exact .inr (.inr (by assumption))
 .lia
def l0(h:noStar e=W):kj (e::es) env=(B,Ct e env)::kj es env:=by
 cases e<;>first|rfl|exact aH h bU
theorem zX:∀{es:M Expr},cM es=W->zl (kj es env)=zl es/\(kj es env).findIdx? (·.1)=S
|[],_=>#[rfl,rfl]
|e::es,h=>by
 have h':noStar e=W/\cM es=W:=by simpa[cM]using h
 let#[a,b]:=zX h'.2;rw[l0 h'.1];refine#[by simp[a],?_];rw[List.findIdx?_cons];simp[b]
end
section
variable{X:Cx}{a b c:Expr}{ta tb tc:TE}{pos:Pos}{o:Expr}{to:TE}{es:M Expr}{t:TA}{apos cpos:Pos}{m:Mt}
def pe_and'{rest:M Expr}(ha:PE X a ta)(hb:PE X (.BoolOp .And (b::rest) pos) tb):PE X (.BoolOp .And (a::b::rest) pos) (λU H Q=>ta U H λx H1=>match x with
  |.bl c=>if c=W then tb U H1 Q else Q (.bl B) H1
  |_=>bu):=by
 intro pins s U H Q I h;refine BoolOp_and (bA (ha pins s U H _ I h) λv s1 ⟨x,H1,I1,r1,q1⟩=>?_);cases x with
 |bl c=>
  cases r1;refine mK ?_;cases c with
  |true=>exact hb pins s1 U H1 Q I1 q1
  |false=>exact#[.bl B,H1,I1,rfl,q1]
 |_=>exact aC q1
def pe_or'{rest:M Expr}(ha:PE X a ta)(hb:PE X (.BoolOp .Or (b::rest) pos) tb):PE X (.BoolOp .Or (a::b::rest) pos) (λU H Q=>ta U H λx H1=>match x with
  |.bl c=>if c=W then Q (.bl W) H1 else tb U H1 Q
  |_=>bu):=by
 intro pins s U H Q I h;refine BoolOp_or (bA (ha pins s U H _ I h) λv s1 ⟨x,H1,I1,r1,q1⟩=>?_);cases x with
 |bl c=>
  cases r1;refine mK ?_;cases c with
  |false=>exact hb pins s1 U H1 Q I1 q1
  |true=>exact#[.bl W,H1,I1,rfl,q1]
 |_=>exact aC q1
def pe_not'(ha:PE X a ta):PE X (.UnaryOp .Not a pos) (λU H Q=>ta U H λx H1=>qh X.K x H1 λb=>Q (.bl (!b)) H1):=by
 intro pins s U H Q I h;refine UnaryOp_ (bA (ha pins s U H _ I h) λv s1 ⟨x,H1,I1,r1,q1⟩=>?_);refine not_of (bA (Ye pins s1 U H1 x v (λb H2=>Q (.bl (!b)) H2) I1 r1 ?_) λb s2 qq=>by let#[H2,I2,q2]:=qq;exact#[.bl (!b),H2,I2,rfl,q2]);exact q1
def pe_neg'(ha:PE X a ta):PE X (.UnaryOp .USub a pos) (λU H Q=>ta U H λx H1=>match x with
  |.int i=>Q (.int (-i)) H1
  |_=>bu):=by
 intro pins s U H Q I h;refine UnaryOp_ (bA (ha pins s U H _ I h) λv s1 ⟨x,H1,I1,r1,q1⟩=>?_);cases x with
 |int i=>exact abX pins s1 U H1 (.int i) v Q I1 r1 #[i,rfl,q1]
 |_=>lia
def pt_cmp'(hu:X.A.units+60<eS)(ha:PE X a ta)(hb:PE X b tb)(hm:AR op b=B):PT X (.Compare a [op] [b] pos) (λU H Q=>ta U H λx H1=>tb U H1 λy H2=>Hv X.K op x y H2 λz H3=>match z with
  |.bl k=>Q k H3
  |_=>bu):=by
 intro pins s U H Q I h;refine wpAny_isTrue_Compare1 (bA (ha pins s U H _ I h) λv s1 ⟨x,H1,I1,r1,q1⟩=>bA (hb pins s1 U H1 _ I1 q1) λu s2 ⟨y,H2,I2,r2,q2⟩=>bA (Yd hu op pins s2 U H2 x y v u _ I2 r1 r2 q2) λd s3 ⟨z,H3,I3,r3,q3⟩=>?_) hm;cases z with
 |bl k=>
  cases r3;exact mK #[H3,I3,q3]
 |_=>exact aC q3
def pt_val'(ha:PE X a ta)(he:∀whole,Cs a X.env whole=(do let v <-whole;Iq a.pos;zx [v] (MX v))):PT X a (λU H Q=>ta U H λx H1=>qh X.K x H1 λb=>Q b H1):=by
 intro pins s U H Q I h;exact isTrue_plain (bA (ha pins s U H _ I h) λv s1 qq=>by let#[x,H1,I1,r1,q1]:=qq;exact Ye pins s1 U H1 x v Q I1 r1 q1) (he _)
def acA(hu:X.A.units+60<eS)(ho:PE X o to)(ha:PA X (e::er) t)(hb:vP o=W)(hl:(apos.endLine==cpos.line)=W)(hs:cM (e::er)=W)(hf:zl (e::er)<30):PE X (.Call (.Attribute o m.name apos) (e::er) [] cpos) (λU H Q=>to U H λx H1=>xP m x H1/\t U H1 λvs H2=>yu X.K m x vs H2 Q):=by
 intro pins s U H Q I h;refine wpAny_Call_method_late (C0 hb) (Vq hs hf) hl rfl (bA (ho pins s U H _ I h) λv s1 ⟨x,H1,I1,r1,hr,q1⟩=>?_);let#[h1,h2]:=N_ I1 r1 hr;have fx:=LI m x H1 hr;refine#[KC m x,Po m x,fx.pa,fx.slot,fx.ty,h1,h2,?_];have run:=bA (ha cpos pins s1 U H1 _ I1 q1) λus s2 qq=>by let#[vs,H2,I2,r2,q2]:=qq;exact Oa hu I2 r1 r2 q2
 have hs':noStar e=W/\cM er=W:=by simpa[cM]using hs
 rw[fW hs'.1]at run ⊢;exact qR (by show(B||(w_ cpos (gH er X.env)).any (·.1))=B;rw[uo hs'.2]<;>rfl) (Calls.evalArgs_plain run)
def ZI(hu:X.A.units+60<eS)(ho:PE X o to)(hb:vP o=W)(hl:(apos.endLine==cpos.line)=W):PE X (.Call (.Attribute o m.name apos) [] [] cpos) (λU H Q=>to U H λx H1=>xP m x H1/\yu X.K m x [] H1 Q):=by
 intro pins s U H Q I h;refine xH (C0 hb) hl (bA (ho pins s U H _ I h) λv s1 ⟨x,H1,I1,r1,hr,q1⟩=>?_);let#[h1,h2]:=N_ I1 r1 hr;have fx:=LI m x H1 hr;exact#[KC m x,Po m x,fx.pa,fx.slot,fx.ty,h1,h2,qR rfl (A3 (Oa hu I1 r1 .nil q1))]
def acB(hg:Gl X x)(hx:x="isinstance")(hm:X.mg x=S)(hgy:Gl X y)(hy:y=ty.name)(hty:ty≠.none)(hmy:X.mg y=S)(ha:PE X a ta)(hs:noStar a=W):PE X (.Call (.Name x p) [a,.Name y py] [] pos) (λU H Q=>ta U H λv H1=>Bm X.K ty v H1 λb=>Q (.bl b) H1):=by
 subst hx hy;intro pins s U H Q I h;refine fR (kF I hg hm boot_isinstance ?_);have hst:gH [a,.Name ty.name py] X.env=[(B,eval a X.env),(B,eval (.Name ty.name py) X.env)]:=by rw[fW hs];rfl
 refine lX ?_ (by rw[hst];rfl) rfl;rw[hst];refine eV (bA (ha pins s U H _ I h) λu s1 ⟨v,H1,I1,r1,q1⟩=>?_);have hn:ty.name≠("__name__":Str):=by cases ty<;>decide +kernel
 have hd:(ty.name==("__debug__":Str))=B:=by cases ty<;>decide +kernel
 refine eV (kF I1 hgy hmy (Ty.boot ty hty) (fY ?_) hn hd);refine bA (aco I1 r1 q1 hty) λw s2 ⟨z,H2,I2,r2,e,b,ez,qb⟩=>?_;subst e ez;exact#[.bl b,_,I2,r2,qb]
def Bf.ZJ(f:Bf):(∃id,f.val=.builtin id)\/∃T,f.val=.type T:=by
 cases f<;>first|exact .inl ⟨_,rfl⟩|exact .inr ⟨_,rfl⟩
def acC(hb:mE X f.val (zR X.K f))(hg:Gl X x)(hx:x=f.name)(hm:X.mg x=S)(ha:PA X (e::er) t)(hs:cM (e::er)=W):PE X (.Call (.Name x p) (e::er) [] pos) (λU H Q=>t U H λvs H1=>zR X.K f vs H1 Q):=by
 subst hx;have hs':noStar e=W/\cM er=W:=by simpa[cM]using hs
 intro pins s U H Q I h;refine fR (kF I hg hm f.boot ?_ f.ok.1 f.ok.2);have run:=bA (ha pos pins s U H _ I h) λus s1 qq=>by let#[vs,H1,I1,r1,q1]:=qq;exact hb pins s1 U H1 vs us Q I1 r1 q1
 rcases f.ZJ with⟨id,ev⟩|⟨T,ev⟩
 .rw[ev]at run ⊢;exact lX run (fW hs'.1) (uo hs'.2)
 .rw[ev]at run ⊢;exact cJ run (fW hs'.1) (uo hs'.2)
end
section
variable{X:Cx}{T:Tab}{O:M G}{E:XK}{a:Expr}{ta:TE}{pos:Pos}
def Rv:abM Addr->Z
|none=>.type "NoneType"
|some C=>.ref C
theorem uU:∀(Ds:M Addr) (us:M Z),bP (Ds.map V.ref) us->us=Ds.map bR
|[],us,h=>by cases h;rfl
|D::Ds,us,h=>by
 cases h with
 |cons h1 h2=>rw[uU Ds _ h2,show _=bR D from h1];rfl
set_option tactic.hygienic true in
def acD(hO:∀C as,O[g]?=L (G.jO C as)->AB X.K C/\∀f∈as,nN X.K C f)(ha:PE X a ta)(hb:vP a=W):PE X (.Attribute a f pos) (λU H Q=>ta U H λv H1=>LF O g f v H1 Q):=by
 intro pins s U H Q I h;refine Zj (C0 hb) (bA (ha pins s U H _ I h) λu s1 ⟨v,H1,I1,r1,q1⟩=>?_);unfold LF at q1;split at q1
 .rename_i C as e1;split at q1
  .rename_i e;cases r1;let#[dx,fs,v,he,hf,l,q]:=q1;let#[k1,k2]:=hO C as e1;exact O0 I1 he k1 (k2 f hf) l λu' s2 I2 ru=>#[v,H1,I2,ru,q]
  .exact q1.elim
 .exact q1.elim
end
end L3
end
section
namespace L2
open PySem PySem.W PySem.Calls PyProof.Rows
section
variable{prog:bO}{w:bL}{A:cQ}{E:Z->ay->Prop}{s:ay}
def AD{R:M Z->ay->Prop}{n:Nat}(hh:A.handled=S)(hr:sy s.heap r a b 1 t u v)(hsmall:t_ a b 1=W)(hn:g9 a b 1=n)(hlen:n<=2 ^ 24)(q:∀(h':Heap) (tk:Nat) (acc:Array Z),(∀b o,s.heap.get? b=L o->h'.get? b=L o)->su (λ(i:Nat) v=>∃t,v=.int (a+(i:J)*1) t) acc n->R acc.toList { s with heap:=h',toks:=tk }):aT (aW prog w) A (Dj (.ref r)) R E s:=by
 have hd:=aO hr;have new:(s.heap.push { cls:=.type "list",data:=.seq #[] }).get? s.heap.objs.size=L { cls:=.type "list",data:=.seq #[] }:=aS _ rfl;refine ai (IA (gQ Au ?_));rw[eL vd _];refine(ai (ie (aL #[jn lB _,gQ Fe ?_])));rw[eL lB _];have hr':sy (s.heap.push { cls:=.type "list",data:=.seq #[] }) r a b 1 t u v:=az _ hr;have run:=wpAny_extend_range (prog:=prog) (w:=w) (s:={ s with heap:=s.heap.push { cls:=.type "list",data:=.seq #[] } })
  (R:=λz s'=>∃h' tk acc c,z=.ok (.ret (.ref s.heap.objs.size))/\s'={ s with heap:=h',toks:=tk }/\(∀b o,s.heap.get? b=L o->h'.get? b=L o)/\h'.get? s.heap.objs.size=L { cls:=.type "list",dict:=S,data:=.seq acc c,slots:=#[] }/\su (λ(i:Nat) v=>∃t,v=.int (a+(i:J)*1) t) acc n)
  hh hr' hsmall hn hlen s.heap.objs.size (.ref s.heap.objs.size) 0 new
  (λh' tk acc c k e it=>#[h',tk,acc,c,rfl,rfl,λb o eb=>k b o (bG (aO eb)) (az _ eb),e,it])
 refine gZ run (λfl s' z=>?_) λ_ _ z=>?_
 .cases fl with
  |done f=>
   let#[h',tk,acc,c,ef,rfl,k,e,it]:=z;cases ef;exact ai (vV e (aL (q h' tk acc k it)))
  |again g=>
   refine#[z.1,kU z.2 λr s2 y=>?_];let#[h',tk,acc,c,rfl,rfl,k,e,it]:=y;exact ai (vV e (aL (q h' tk acc k it)))
 .obtain⟨_,_,_,_,ez,_⟩:=z;cases ez
open PySem.F in
theorem ED{Q₁:Z->ay->Prop}{n:Nat}(hh:A.handled=S)(hr:sy s.heap r a b 1 t u v)(hsmall:t_ a b 1=W)(hn:g9 a b 1=n)(hlen:n<=2 ^ 24)(h:∀(h':Heap) (tk:Nat) (acc:Array Z),(∀b o,s.heap.get? b=L o->h'.get? b=L o)->su (λ(i:Nat) v=>∃t,v=.int (a+(i:J)*1) t) acc n->Q₁ (.ref h'.objs.size) { s with heap:=h'.push { cls:=.type "tuple",data:=.seq acc },toks:=tk }):kE (aW prog w) A (.call (.builtin "tuple.__new__") #[[.type "tuple",.ref r],[]]) (wants Q₁ E) s:=by
 refine G_ ?_;show aT _ A.in1 (do Fg "tuple.__new__" #[[.type "tuple",.ref r],[]];again (.builtin "tuple.__new__" #[[.type "tuple",.ref r],[]])) _ _ s;refine ai (jB (F.newCall_tuple_1 _) (aL #[jn F.plain_tuple_new _,gQ F.entry_tuple_new ?_]));rw[eL F.plain_tuple_new _];have hsub:=sub_tuple_self;have hinit:=init_tuple_lookup;have hmh:=madeHere_tuple;have hT:s.TypeIs (.ref r) "range":=#[_,hr,rfl]
 wp_walk using pq hT,AD (A:=A.in1) hh hr hsmall hn hlen
 intro h' tk acc hk hacc;show aT _ _ (M5 acc.toList.toArray >>= λv=>ret v) _ _ _;refine ai (ie ?_ (by show acc.toList.toArray.size<=aj;simp only[tV];rw[hacc.1,bY];omega));refine aL ?_;have e:acc.toList.toArray=acc:=by simp
 rw[e];exact h h' tk acc hk hacc
def EE{Q:Z->ay->Prop}{n:Nat}(hh:A.handled=S)(hr:sy s.heap r a b 1 t u v)(hsmall:t_ a b 1=W)(hn:g9 a b 1=n)(hlen:n<=2 ^ 24)(h:∀(h':Heap) (tk:Nat) (acc:Array Z),(∀b o,s.heap.get? b=L o->h'.get? b=L o)->su (λ(i:Nat) v=>∃t,v=.int (a+(i:J)*1) t) acc n->Q (.ref h'.objs.size) { s with heap:=h'.push { cls:=.type "tuple",data:=.seq acc },toks:=tk }):aT (aW prog w) A (call (.type "tuple") [.ref r]) Q E s:=by
 refine uB (Q₁:=λobj ahq=>ahq.TypeIs obj "tuple"/\Q obj ahq) F.called_tuple (F.typeCall_tuple_1 _) F.entry_object_init
  (ED hh hr hsmall hn hlen λh' tk acc hk hacc=>#[#[_,aS _ rfl,rfl],h h' tk acc hk hacc]) λobj ahq ahu=>?_
 exact#[ahu.1,F.args_object_init_2 obj _,object_init_meets F.called_tuple.init.lookup F.called_tuple.made (by decide) prog w A.in1 _ ahq #[ahu.1,rfl,ahu.2]]
end
end L2
end
section
namespace L3
open PySem PySem.Spec PyProof.Rows L2
section
variable{X:Cx}
def FI(i:J):∀(n:Nat) (acc:Array Z),su (λ(k:Nat) v=>∃t,v=.int (i+(k:J)*1) t) acc n->bP ((bM n).map λ(k:Nat)=>V.int (i+(k:J))) acc.toList:=by
 intro n acc it;have key:∀(l:M Z) (ks:M Nat),zl l=zl ks->(∀(j:Nat) v k,l[j]?=L v->ks[j]?=L k->∃t,v=.int (i+(k:J)) t)->bP (ks.map λ(k:Nat)=>V.int (i+(k:J))) l:=by
  intro l;induction l with
  |nil=>intro ks hl _;cases ks with|nil=>exact .nil|cons _ _=>cases hl
  |cons v r ih=>
   intro ks hl h;cases ks with
   |nil=>cases hl
   |cons k kr=>exact .cons (h 0 v k rfl rfl) (ih kr (by simpa using hl) λj v' k' h1 h2=>h (j+1) v' k' (by simpa using h1) (by simpa using h2))
 refine key _ _ (by rw[ee,it.1,ig]) λj v k h1 h2=>?_;have hj:j<n:=by
  have:=(bN.mp h2).1;simpa using this
 rw[oE hj]at h2;cases h2;let#[t,e]:=it.2 j v (by rw[<-iN];exact h1);exact#[t,by rw[e,NN]]
def acE(hc:X.calm=W)(hg:Gl X "tuple")(hm:X.mg "tuple"=S)(hg2:Gl X "range")(hm2:X.mg "range"=S)(ha:PA X (e::es) ta)(hs:cM (e::es)=W):PE X (.Call (.Name "tuple" p) [.Call (.Name "range" p2) (e::es) [] pos2] [] pos) (λU H Q=>ta U H λvs H1=>U7 vs H1 Q):=by
 have hs':noStar e=W/\cM es=W:=by simpa[cM]using hs
 intro pins s U H Q I h;refine fR (kF I hg hm (u:=.type "tuple") (by rfl) ?_);refine cJ ?_ rfl rfl;refine eV (Ay (kF I hg2 hm2 (u:=.type "range") (by rfl) (cJ (bA (ha pos2 pins s U H _ I h) λus s1 ⟨vs,H1,I1,r1,q⟩=>?_) (fW hs'.1) (uo hs'.2))))
 match vs,r1,q with
 |[.int i,.int j],r1,⟨⟨q1,q2,q3,q4,q5⟩,q⟩=>
  let#[u,u',rfl,ru,ru']:=vals2 r1;let#[t,rfl]:=ru;let#[t',rfl]:=ru';refine call_range_2 (fY ?_);have I2:L2.Inv X pins U H1 { s1 with heap:=s1.heap.push { cls:=.type "range",data:=.fields (List.toArray [.int i t,.int j t',.int 1 s1.toks]) },toks:=s1.toks+1 }:=I1.kept λb o e=>az _ e;refine EE (I2.ok.hd hc) (Ec ..) (JU q1 q2 q3 q4) (by rw[AQ];split<;>lia) q5 λh' tk acc hk it=>?_;have I3:=I2.kept (t':=tk) hk;have I4:L2.Inv X pins U (upd H1 h'.objs.size (.tup ((bM (j-i).toNat).map λ(k:Nat)=>V.int (i+(k:J))))) { s1 with heap:=h'.push { cls:=.type "tuple",data:=.seq acc },toks:=tk }:=
   I3.laid (t':=tk) (λb o e=>az _ e) (aK _) (show fX X.prog X.w _ _ _ (.tup _)from#[by rw[aa,ig,bY];omega,acc.toList,FI i _ acc it,by rw[tV];exact IsTup.new _ _])
  exact#[.ref h'.objs.size,_,I4,rfl,q _ (I3.hok.fresh (aK _))]
end
def range_getD{α:Type}(d:α)(ss:M α):(bM (zl ss)).map (λi=>ss.getD i d)=ss:=by
 apply kX
 .simp
 .intro i h1 h2;simp[aZ,h2]
theorem Bw:∀l:M Z,Cp l->Cp (l++[.int i t,.int j u,c])
|[],_=>trivial
|.int _ _::.int _ _::_::rest,h=>Bw rest h
theorem FJ:∀l:M Z,Cp l->u7 p (l++[.int i t,.int j u,c])=L cv->u7 p l=L cv\/cv=c
|[],_,e=>by
 have e:(if(i==(p.line:J)&&j==(p.col:J))=W then L c else S)=L cv:=e;split at e
 .lia
 .cases e
|.int a t'::.int b u'::d::rest,h,e=>by
 have e:(if(a==(p.line:J)&&b==(p.col:J))=W then L d else u7 p (rest++[.int i t,.int j u,c]))=L cv:=e;show(if(a==(p.line:J)&&b==(p.col:J))=W then L d else u7 p rest)=L cv\/_;split at e
 .rename_i z;rw[aF z];exact .inl e
 .rename_i z;rw[aG z];exact FJ rest h e
section
variable{X:Cx}{pins:M (Addr×Obj)}{U:L2.St}{H:Hp}{s:ay}{P:Addr}{ps:Array Z}
def ZK(I:L2.Inv X pins U H s)(e:H c'=L (.bq oc (.own P)))(e1:oc.data=.fields vs)(e2:vs[1]?=L (.str q tq)):s.heap.CodeRec (.ref c') q:=
 #[c',oc,vs,tq,rfl,(I.hok c' _ e).1,e1,e2]
def Vr{Q:Z->ay->Prop}{E:Z->ay->Prop}(I:L2.Inv X pins U H s)(abk:LM X P)(hP:H P=L (.tbl ps))(hq:OV ps=X.env.qual++"<lambda>")(hcl:QY scope X.env=pure clos)(hdef:defaultsOf params X.env=([],[]))(h:∀f c' pm ctv H' s',(H'=H\/∃c oc,H c=S/\H'=upd H c (.bq oc (.own P)))->L2.Inv X pins U H' s'->s.heap.objs.size<=f->s'.heap.get? f=L (oX "<lambda>" (X.env.qual++"<lambda>") params body scope clos pm c' ctv)->H' f=S->(∃oc vs tq,H' c'=L (.bq oc (.own P))/\oc.data=.fields vs/\vs[1]?=L (.str (X.env.qual++"<lambda>") tq))->Q (.ref f) s'):aT (aW X.prog X.w) X.A (eval (.Lambda params body scope pos) X.env) Q E s:=by
 let#[c,hc,hcd]:=abk.c;let#[bm,ob,b1,b2,b5,b6,b7,b8]:=I.ok.mod.bmain;let#[qs,hP1,ht,hcs]:=(I.hok P _ hP);have hg:=I.ok.mod.glob.keeps I.bk;have neP:∀b,H b=S->b≠P:=λb z y=>by rw[y,hP]at z;cases z
 let#[gb,gm]:=I.bs bm ob b5;have hneG:eU≠P:=by
  let#[o,es,ep,e,hd,_]:=I.ok.mod.glob;exact neP _ (I.bs _ _ e).2
 have hbG:bm≠eU:=λz=>by
  let#[o,es,ep,e,hd,_]:=I.ok.mod.glob;rw[z,e]at b5;cases b5;rw[hd]at b8;cases b8
 have hb:s.heap.BuiltinsAt X.mg P:=#[bm,ob,b1,b2,hbG,neP _ gm,gb,b6,b7,b8];refine XZ hdef ?_;cases hca:u7 pos qs.toList with
 |none=>
  refine M6 hcl I.ok.glob hg hc (ua I.uM hcd) hP1 ht hca hneG hb λc' ctv h' tk hx hge hlt hrec htb=>?_;have hn:=I.hok.fresh hge;let#[c2,oc,vs,tq,z1,z2,z3,z4]:=hrec;cases z1;have up:∀b o,b≠P->s.heap.get? b=L o->(h'.push (oX "<lambda>" (X.env.qual++"<lambda>") params body scope clos ((X.mg "__name__").getD .none) c' ctv)).get? b=L o:=λb o n e=>az _ (hx b o n e);have ho:∀b u,H b=L u->upd H c' (.bq oc (.own P)) b=L u:=λb u z=>by rw[aY (bZ z hn)];exact z
  have hok:gR X.prog X.w (upd H c' (.bq oc (.own P))) (h'.push (oX "<lambda>" (X.env.qual++"<lambda>") params body scope clos ((X.mg "__name__").getD .none) c' ctv)):=λa u z=>by
   by_cases y:a=c'
   .subst y;rw[bQ]at z;cases z;exact#[az _ z2,oc,az _ z2]
   .rw[aY y]at z;by_cases yP:a=P
    .subst yP;rw[hP]at z;cases z;refine#[_,az _ htb,by rw[lu];exact Bw _ ht,λp cv e=>?_];rw[lu]at e;rcases FJ _ ht e with e|rfl
     .obtain⟨c3,oc',vs',tq',rfl,e2,y3⟩:=hcs p cv e;exact#[c3,oc',vs',tq',rfl,ho _ _ e2,y3]
     .exact#[c',oc,vs,tq,rfl,bQ,z3,by rw[hq];exact z4]
    .exact(I.hok a u z).stay (λb v hb' q=>up b v (λw=>by
      rcases hb' with rfl|hb'
      .exact yP w
      .rw[w,hP]at hb';cases hb') q) (λb q=>ho b _ q) (λb xs q=>ho b _ q) λb o xs q=>ho b _ q
  refine h _ c' _ ctv _ _ (.inr #[c',oc,hn,rfl]) (I.step (ch:=[]) (λ_ z=>nomatch z) (λb o _ _ _ e n=>up b o (neP b n) e) (λb o _ _ _ e n=>#[o.slots,up b o (neP b n) e]) (λb o _ e n=>?_) (λb o _ e=>?_) (λb xs e=>ho b _ e) (λb o u e=>ho b _ e) (λb ps' e=>#[#[],by rw[ho b _ e];simp]) (λm hm=>?_) hok I.bare) (cH hge (fP hlt)) (aS _ rfl) ?_ #[oc,vs,tq,bQ,z3,z4]
  .rw[aY (bG (bT (aO e) hge))];exact n
  .by_cases y:b=P
   .subst y;exact#[_,az _ htb]
   .exact#[o,up b o y e]
  .obtain⟨o,es,ep,ho',r⟩:=hm;exact#[o,es,ep,up _ o (neP _ I.free) ho',r]
  .rw[aY (ja hlt)];exact I.hok.fresh (cH hge (fP hlt))
 |some cv=>
  let#[c',oc',vs',tq',rfl,e2,y3,y4]:=hcs pos cv hca;refine JW hcl I.ok.glob hg hc (ua I.uM hcd) hP1 ht hca hb λctv h' tk hk hsz=>?_;have up:∀b o,s.heap.get? b=L o->(h'.push (oX "<lambda>" (X.env.qual++"<lambda>") params body scope clos ((X.mg "__name__").getD .none) c' ctv)).get? b=L o:=λb o e=>az _ (hk b o e);refine h _ c' _ ctv H _ (.inl rfl) (I.kept up) hsz (aS _ rfl) (I.hok.fresh hsz) #[oc',vs',tq',e2,y3,by rw[<-hq];exact y4]
end
def C1(X:Cx)(A:cQ)(N:M Str)(qual:Str)(scope:fH)(f:Addr)(cd:Z)(s:ay)(H:Hp):Cx where
 prog:=X.prog
 w:=X.w
 K:=X.K
 mg:=X.mg
 base:=X.base
 A:=A.deeper (CM qual scope s.heap.objs.size f cd (nu X.env.cells scope.names []))
 N:=N
 aho:=s
 ahy:=H
 env:=CM qual scope s.heap.objs.size f cd (nu X.env.cells scope.names [])
 outer:=X.stack
 stack:=CM qual scope s.heap.objs.size f cd (nu X.env.cells scope.names [])::X.stack
 ex:=[]
 fn:=λ_=>B
 calm:=W
 pn:=[]
 xe:=λ_ _=>bu
structure Px (sc:fH) (N:M Str) (scope:fH) (x:Str) (is:M Nat):Prop extends uW sc N scope [] is where
 co:scope.isCoroutine=B
 gen:scope.isGenerator=B
 own:scope.names.lookup x=L .local
 nocell:∀y∈scope.names,y.2≠.cell
 nd:x∉gz N [] is
def ZL{N:M Str}{scope:fH}{is:M Nat}{i:Nat}{y:Str}(abr:uW sc N scope [] is)(h:(gz N [] is)[i]?=L y):scope.names.lookup y=L .free:=by
 have h:(is.map λi=>N.getD i Cv)[i]?=L y:=h;rw[bg]at h;cases e:is[i]? with
 |none=>rw[e]at h;cases h
 |some j=>
  rw[e]at h;have h:=cB h;let#[z,hz,hf]:=abr.fr j (fT e);have:z=y:=by rw[<-h];simp[hz]
  rw[<-this];exact hf
section
variable{X:Cx}{pins:M (Addr×Obj)}{U:L2.St}{H:Hp}{s:ay}
def Vs{f c':Addr}{qual x:Str}{params:sd}{body:Expr}{scope:fH}{fr:M Nat}{pm ctv u:Z}{v:V}{tb:TE}{Q:VK}{E:Z->ay->Prop}(hA:A.frames=L X.stack)(hh:A.handled=S)(hr:A.depth<uD)(abr:Px X.env.scope X.N scope x fr)(I:L2.Inv X pins U H s)(ho:s.heap.get? f=L (oX "<lambda>" qual params body scope (nu X.env.cells scope.names []) pm c' ctv))(hcd:s.heap.CodeRec (.ref c') qual)(hbind:pB (PySem.W.kla_fn "<lambda>" qual params body scope (nu X.env.cells scope.names []) pm (.ref c') ctv) #[[u],[]]=pure [(x,u)])(ru:RelV v u)(hb:PE (C1 X A (x::gz X.N [] fr) qual scope f (.ref c') s H) body tb)(hw:tb (L v::sR [] fr U) H Q):aT (aW X.prog X.w) A (call (.ref f) [u]) (EP X pins U λy H'=>Q y H'/\∀b o w,H b=L (.bq o w)->H' b=L (.bq o w)) E s:=by
 have cl:∀y c,(nu X.env.cells scope.names []).lookup y=L c->X.env.cells.lookup y=L c:=wu scope.names [] λ_ _ z=>nomatch z
 refine GZ (kU (R:=CR RD X.stack X.prog X.w H s (λy H'=>Q y H'/\∀b o w,H b=L (.bq o w)->H' b=L (.bq o w)) E0) (QZ hr ho rfl abr.co abr.gen rfl hcd ?_) λr s' hq=>?_)
 .rw[hbind];refine aL (wpAny_newFunctionEnv abr.nocell (λy hy=>by rw[aQ.mp hy];exact abr.own) (λahu hns hsb=>#[I.nolimit.fresh _ hsb,?_]) abr.kind);have up:=λb o e=>hsb.extBut b o (bG (aO e)) (az _ e);have ok:(C1 X A (x::gz X.N [] fr) qual scope f (.ref c') s H).Ok:=by
   have noE:∀b:Addr,b∉(C1 X A (x::gz X.N [] fr) qual scope f (.ref c') s H).ex:=λb z=>aH z aD;refine#[I.ok.mod,abr.kind,rfl,rfl,aK _,λy z c h1 h2=>I.ok.inj y z c (cl y c h1) (cl z c h2),λy hy=>?_,(λ_ _ z=>nomatch z),λ_=>hh,Aq hA,.inr #[rfl,rfl],λb z=>aH z (noE b),I.bs,cH I.ok.bsz I.sz,λb _ _=>noE b,λb z=>aH z (noE b),I.stack,#[I.Hi,I.tb]];have hy:scope.names.lookup y=L .cell\/scope.names.lookup y=L .free:=hy;rcases hy with hy|hy
   .exact aH rfl (abr.nocell _ (dO hy))
   .obtain⟨c,hc⟩:=rV abr.touW I y (dO hy);exact rF scope.names [] y (.inr #[dO hy,c,hc])
  have I1:L2.Inv (C1 X A (x::gz X.N [] fr) qual scope f (.ref c') s H) [] (L v::sR [] fr U) H { s with heap:=ahu,toks:=s.toks+1 }:=by
   refine#[ok,rfl,I.bare,Un.kept up,#[_,hns,λi y w h1 h2 h3=>?_],λy c e=>?_,I.hok.fresh (aK _),λy c e=>I.freeC y c (cl y c e),λp hp=>aH hp aD,I.hok.kept up,?_]
   .cases i with
    |zero=>
     have h1:L x=L y:=h1;cases h1;have h2:L (L v)=L (L w):=h2;cases h2;exact#[u,ru,.inl #[abr.own,by show l_ x [(x,u)]=L u;rw[dB];simp]]
    |succ i=>
     let#[hf,_,c,u',hc,ru',hcell]:=zV abr.touW I i y w h1 h2;let#[d,hd]:=rF scope.names [] y (.inr #[hf,c,hc]);have e1:=cl y d hd;rw[hc]at e1;cases e1;refine#[u',ru',.inr #[?_,c,hd,?_]]
     .have h3:scope.names.lookup y=L .local\/scope.names.lookup y=L .cell\/scope.names.lookup y=L .free:=h3;rcases h3 with z|z|z
      .exfalso;have e:=ZL abr.touW h1;rw[e]at z;cases z
      .exact .inl z
      .exact .inr z
     .obtain⟨o,ho,hd⟩:=hcell;exact#[o,up _ _ ho,hd]
   .obtain⟨z,o,ho,hd⟩:=I.cell y c (cl y c e);exact#[z,o,up _ _ ho,hd]
   .show(sR [] fr U).length+1=zl (gz X.N [] fr)+1;unfold sR gz;simp
  refine Q2 (gZ (hb [] _ _ H Q I1 hw) (λv' s' ⟨y,H',abt,rv,q⟩=>?_) λ_ _ z=>z.elim);exact#[y,H',abt.os,abt.bare,abt.base,abt.hok,rv,q,abt.base.aA]
 .cases r with
  |error e=>exact hq.elim
  |ok fl=>
   cases fl with
   |ret u=>exact I.after hq
   |next=>exact aC hq
   |brk=>exact aC hq
   |cont=>exact aC hq
end
end L3
end
section
namespace L3
open PySem PySem.Spec PySem.W PySem.Calls PyProof.Rows L2
section
variable{prog:bO}{w:bL}{A:cQ}{E:Z->ay->Prop}{s:ay}
def LN{vs keys:M Z}{lt:Nat->Nat->Bool}{e1 e:Nat}{P:CA->ay->Prop}{st:SortSt}(hka:kS≠a)(nk:s.heap.get? kS=L (cO "list" keys.toArray e))(na:s.heap.get? a=L (cO "list" #[] e1))(hl:zl keys=zl vs)(h64:zl vs<64)(har:(G6 st).map (·.2)=(gD vs lt).toArray)(hf:Ar st=S)(hol:zl (gD vs lt)=zl vs)(h:∀h' c,(∀b o,b≠a->b≠kS->s.heap.get? b=L o->h'.get? b=L o)->h'.get? a=L (cO "list" (gD vs lt).toArray c)->P (.done (.ret .none)) { s with heap:=h' }):aT (aW prog w) A (ksk_tail a B e1 (.ref kS) st) P E s:=by
 have s1:=lq s.heap kS (c_ λ_=>(#[]:Array Z));have na1:=(s1.2 a hka.symm).trans na;obtain⟨c2,hc2⟩:∃c2,((s.heap.update kS (c_ λ_=>(#[]:Array Z))).update a (c_ λ_=>(gD vs lt).toArray)).get? a=L (cO "list" (gD vs lt).toArray c2):=#[_,oV na1 λ_=>(gD vs lt).toArray];refine ai (nX nk rfl ?_ (by rw[aV,bY];lia) (dg _));refine ai (NQ ?_);refine ai (yQ na1 rfl ?_);simp only[gq,iF];rw[har,hf];refine ai (nX na1 rfl ?_ (dg _) (by rw[aV,hol,bY];lia));simp only[Dt,gq,iF];refine aL (h _ c2 (λb o h1 h2 e=>?_) hc2);rw[k_ _ _ _ _ h1,k_ _ _ _ _ h2];exact e
def ZM{lt:Nat->Nat->Bool}{P:CA->ay->Prop}(hka:kS≠a)(nk:s.heap.get? kS=L (cO "list" keys.toArray e))(na:s.heap.get? a=L (cO "list" #[] e1))(hl:zl keys=zl vs)(h64:zl vs<64)(hC:2<=zl vs->IS prog w A keys lt s.heap)(h:∀h' c,(∀b o,b≠a->b≠kS->s.heap.get? b=L o->h'.get? b=L o)->h'.get? a=L (cO "list" (gD vs lt).toArray c)->P (.done (.ret .none)) { s with heap:=h' }):aT (aW prog w) A (ksk_end a B vs.toArray e1 (.ref kS) keys.toArray) P E s:=by
 unfold ksk_end;simp only[gq,iF];by_cases h2:zl vs<2
 .have hn2:vs.toArray.size<2:=by rw[aV];exact h2
  rw[aF hn2,aF hn2];have eo:gD vs lt=vs:=by
   unfold gD pK;rw[aF h2];apply kX
   .simp
   .intro i a1 a2;simp[aZ,aq a2]
  refine ai (aL ?_);rw[StateT.run_pure];refine ai (aL ?_);refine LN hka nk na hl h64 ?_ rfl (by rw[eo]) h;rw[eo];apply Fb.mp;simp[Fc,hl]
 .have hn2:¬vs.toArray.size<2:=by rw[aV];exact h2
  have h2':2<=zl vs:=by lia
  rw[aG hn2,aG hn2];have hP:lG (zl vs) (t7 lt (mq (zl vs))):=CW _ _ (uf (by lia));have eo:gD vs lt=(t7 lt (mq (zl vs))).toList.map λi=>vs.getD i eN:=by
   unfold gD pK;rw[aG h2]
  have hol:zl (gD vs lt)=zl vs:=by
   rw[eo,aa,ee,hP.2.size_eq];simp
  let#[κ,hκ]:=hC h2';let#[q1,q2]:=hκ s rfl;refine ai (q1 _ _ ?_);refine ai (gZ (kat_run (Q:=λst' s'=>s'=s/\(G6 st').map (·.2)=(gD vs lt).toArray/\Ar st'=S)
   (G:=λp s'=>p=t7 lt (mq (zl vs))/\s'=s) hl h2' h64
   (λp st' s' _ har hf hg=>#[hg.2,by rw[kat_snds hl har,hg.1,eo],hf])
   (Lq (λi j C hi hj hC=>q2 i j C (by lia) (by lia) hC) _ _ (uf (by lia)) λ_=>#[rfl,rfl])) ?_ λ_ _ e=>e)
  rintro⟨⟨⟩,st'⟩ s' ⟨rfl,b1,b2⟩;exact LN hka nk na hl h64 b1 b2 hol h
end
def FpS(X:Cx)(pins:M (Addr×Obj))(b:Addr):Prop:=b≠X.env.locals/\b∉X.fs/\(b∈X.ex\/X.aho.heap.objs.size<=b)/\(∀x c,X.env.cells.lookup x=L c->c≠b)/\∀p∈X.pn++pins,p.1≠b
section
variable{X:Cx}{pins:M (Addr×Obj)}{U:L2.St}{H:Hp}{s:ay}
def zY(I:L2.Inv X pins U H s)(h:∀p∈as,s.heap.get? p.1=L p.2/\H p.1=S/\FpS X pins p.1/\∀v,p.2.data≠.cell v):L2.Inv X (as++pins) U H s:=
 I.vZ λp hp=>by
  rcases bw.mp hp with hp|hp
  .obtain⟨h1,h2,h3,h4⟩:=h p hp;exact#[h1,h2,h3.1,h3.2.1,h4]
  .exact I.pin p (aJ _ hp)
def xQ(I:L2.Inv X (as++pins) U H s):L2.Inv X pins U H s:=I.vZ λp hp=>I.pin p (aJ _ (aJ _ hp))
end
section
variable{X:Cx}{pins:M (Addr×Obj)}{U:L2.St}{H:Hp}{s:ay}
def Hq(I:L2.Inv X pins U H s)(e:H b=L (.tup (kk.map kV))):o5 s.heap (.ref b) kk:=by
 let#[_,its,rv,o,ho,hc,n,hd]:=(I.hok b _ e);exact#[b,o,its,n,rfl,ho,hc,hd,rv]
theorem IX(I:L2.Inv X pins U H s):∀(ks:M (Addr×M Key)),(∀p∈ks,H p.1=L (.tup (p.2.map kV)))->Paired (o5 s.heap) (ks.map λp=>bR p.1) (ks.map (·.2))
|[],_=>.nil
|p::r,h=>.cons (Hq I (h p aB)) (IX I r λq hq=>h q (ao _ hq))
def RV{P:CA->ay->Prop}{E:Z->ay->Prop}(I:L2.Inv X pins U H s)(fa:FpS X pins a)(ha:H a=S)(ho:s.heap.get? a=L (cO "list" vs.toArray n))(h64:zl vs<64)(abq:Nat->M (Addr×M Key)->Hp->Prop)(w0:abq 0 [] H)(turn:∀(as:M (Addr×Obj)) i ks v s1 H1,vs[i]?=L v->L2.Inv X (as++pins) U H1 s1->abq i ks H1->aT (aW X.prog X.w) A (call (.ref f) [v]) (λu s2=>∃b kk H2,u=.ref b/\L2.Inv X (as++pins) U H2 s2/\abq (i+1) (ks++[(b,kk)]) H2) (λ_ _=>bu) s1)(fin:∀ks H1,abq (zl vs) ks H1->(∀p∈ks,H1 p.1=L (.tup (p.2.map kV)))/\L2.sortable (ks.map (·.2))=W)(h:∀ks H1 s1 c,abq (zl vs) ks H1->L2.Inv X pins U H1 s1->H1 a=S->s1.heap.get? a=L (cO "list" (gD vs (vG (ks.map (·.2)))).toArray c)->P (.done (.ret .none)) s1):aT (aW X.prog X.w) A (ksk_tree a (.ref f) B) P E s:=by
 have hla:=aO ho;have s1:=lq s.heap a (c_ λ_=>(#[]:Array Z));obtain⟨e1,ho1⟩:∃e1,(s.heap.update a (c_ λ_=>(#[]:Array Z))).get? a=L (cO "list" #[] e1):=#[_,oV ho λ_=>#[]];have I1:=I.turned (t':=s.toks) (λb o hb e=>(s1.2 b hb).trans e) ha fa.1 fa.2.2.1 fa.2.2.2.1 fa.2.2.2.2;refine ai (CC ho rfl ?_);refine ai (nX ho rfl ?_ (by rw[aV,bY];lia) (dg _));refine ai (yQ ho1 rfl ?_);refine ai (Ir ?_ (by show zl vs<=_;rw[bY];lia));refine ai (rB ?_ (dg _));refine fK ?_;obtain⟨h2,eh2⟩:∃h2,h2=(s.heap.update a (c_ λ_=>(#[]:Array Z))).push (cO "tuple" vs.toArray 0):=#[_,rfl];have I2:L2.Inv X pins U H { s with heap:=h2 }:=by rw[eh2];exact I1.kept λb o e=>az _ e
 have ho2:h2.get? a=L (cO "list" #[] e1):=by rw[eh2];exact az _ ho1
 have sz2:h2.objs.size=s.heap.objs.size+1:=by rw[eh2,size_push',Heap.size_update]
 rw[<-eh2];have fk:=I2.sG (aK _) (I2.hok.fresh (aK _));have I3:L2.Inv X pins U H { s with heap:=h2.push (cO "list" #[] 0) }:=I2.kept λb o e=>az _ e;have hka:h2.objs.size≠a:=by rw[sz2];exact ja (qx hla)
 have hk3:(h2.push (cO "list" #[] 0)).get? h2.objs.size=L (cO "list" #[] 0):=aS _ rfl;generalize h2.objs.size=kS at fk hka hk3;have ndS:∀(xs:Array Z) (e:Nat) (v:abM Z),(cO "list" xs e).data≠.cell v:=λ_ _ _ z=>nomatch z
 unfold ksk_rest;refine ai (Am ?_);rw[List.forIn_toArray];refine ai (ksk_fold (λi s'=>∃ks H1 e,L2.Inv X ([(a,cO "list" #[] e1),(kS,cO "list" (ks.map λp=>bR p.1).toArray e)]++pins) U H1 s'/\abq i ks H1/\zl ks=i) vs 0 _ #[[],H,0,zY I3 λp hp=>?st,w0,rfl] ?step ?done)
 case st=>
  rcases be.mp hp with rfl|hp
  .exact#[az _ ho2,ha,fa,ndS _ _]
  .rw[aQ.mp hp];exact#[hk3,fk.1,fk.2,ndS _ _]
 case step=>
  rintro j x s' hx ⟨ks,H1,e,abt,hW,hl⟩;simp only[xq]at hW hl ⊢;have hj:j<zl vs:=(bN.mp hx).1;refine ai (AU (gZ (turn _ j ks x s' H1 hx abt hW) (λu s2 he=>?_) λ_ _ hF=>hF.elim));let#[b,kk,H2,rfl,J2,hW2]:=he;let#[p1,p2,p3,p4,p5]:=J2.pin (a,cO "list" #[] e1) (aJ _ aB);let#[k1,k2,k3,k4,k5]:=J2.pin (kS,cO "list" (ks.map λp=>bR p.1).toArray e) (aJ _ (ao _ aB));have sb:=lq s2.heap kS (c_ (·.push (bR b)));obtain⟨c2,hc2⟩:∃c2,(s2.heap.update kS (c_ (·.push (bR b)))).get? kS=L (cO "list" ((ks.map λp=>bR p.1).toArray.push (.ref b)) c2):=#[_,oV k1 (·.push (.ref b))];refine ai (nX k1 rfl ?_ (by rw[aV,aa,bY];lia) (by rw[Array.size_push,aV,aa,bY];lia));have J3:L2.Inv X pins U H2 { s2 with heap:=s2.heap.update kS (c_ (·.push (bR b))) }:=(xQ J2).turned (λb o hb e=>(sb.2 b hb).trans e) k2 fk.2.1 fk.2.2.2.1 fk.2.2.2.2.1 fk.2.2.2.2.2;refine aL #[rfl,ks++[(b,kk)],H2,c2,zY J3 λp hp=>?_,hW2,by rw[bf,f_,hl]];rcases be.mp hp with rfl|hp
  .exact#[(sb.2 a (gf hka)).trans p1,p2,fa,ndS _ _]
  .rw[aQ.mp hp];refine#[?_,k2,fk.2,ndS _ _];rw[show(((ks++[(b,kk)]).map λp=>bR p.1).toArray)=(ks.map λp=>bR p.1).toArray.push (.ref b)by simp];exact hc2
 case done=>
  rintro s' ⟨ks,H1,e,abt,hW,hl⟩;rw[xq]at hW hl;let#[p1,p2,p3,p4,p5]:=abt.pin (a,cO "list" #[] e1) (aJ _ aB);let#[k1,k2,k3,k4,k5]:=abt.pin (kS,cO "list" (ks.map λp=>bR p.1).toArray e) (aJ _ (ao _ aB));let#[f1,f2]:=fin ks H1 hW;let#[g1,g2,g3]:=n9 f2;refine ai (CC k1 rfl ?_);refine ZM hka k1 p1 (by rw[aa,hl]) h64 (λh2=>zO (IX abt ks f1) g2 g3 (by rw[aa];lia)) λh' c hk hc=>?_;have J2:L2.Inv X pins U H1 { s' with heap:=h' }:=by
   refine(xQ abt).step (d':=s'.drawn) (t':=s'.toks) (ch:=[a,kS]) (λb hb=>?_) (λb o _ _ hc e _=>hk b o (λz=>hc (by simp[z])) (λz=>hc (by simp[z])) e) (λb o _ _ hc e _=>#[o.slots,hk b o (λz=>hc (by simp[z])) (λz=>hc (by simp[z])) e]) (λ_ _ _ _ n=>n)
    (λb o hc e=>#[o,hk b o (λz=>hc (by simp[z])) (λz=>hc (by simp[z])) e]) (λ_ _ e=>e) (λ_ _ _ e=>e) (λb ps e=>#[#[],by rw[e];simp]) (λm hm=>?_) (λb u e=>?_) abt.bare
   .rcases be.mp hb with rfl|hb
    .exact#[fa.2.2.1,fa.1,fa.2.2.2.1,fa.2.2.2.2]
    .rw[aQ.mp hb];exact#[fk.2.2.2.1,fk.2.1,fk.2.2.2.2.1,fk.2.2.2.2.2]
   .obtain⟨o,es,ep,ho,r⟩:=hm;exact#[o,es,ep,hk _ o (gf fa.1) (gf fk.2.1) ho,r]
   .have nn:∀c v,H1 c=L v->c≠a/\c≠kS:=λc v q=>#[(λz=>by rw[z,p2]at q;cases q),(λz=>by rw[z,k2]at q;cases q)];refine(abt.hok b u e).stay (λc v hc q=>?_) (λ_ q=>q) (λ_ _ q=>q) λ_ _ _ q=>q;rcases hc with rfl|hc
    .exact hk c v (nn c u e).1 (nn c u e).2 q
    .exact hk c v (nn c _ hc).1 (nn c _ hc).2 q
  exact h ks H1 _ c hW J2 p2 hc
end
noncomputable abbrev yX(x:Str)(an:abM Expr)(ap:Pos):sd:=#[[],[#[x,an,ap]],S,[],[],S,[]]
def Vt:pB (kla_fn "<lambda>" qual (yX x an ap) body scope cl pm cd ctv) #[[u],[]]=pure [(x,u)]:=by
 have hx:(x==x)=W:=by simp
 unfold pB;simp[kla_fn,yX,seqItems?,l_,hx];rfl
section
variable{X:Cx}{pins:M (Addr×Obj)}{U:L2.St}{H:Hp}{s:ay}
def Py{k:Nat}{t u v:Tok}{Q:Z->ay->Prop}{E:Z->ay->Prop}(hh:X.A.handled=S)(I:L2.Inv X pins U H s)(hr:sy s.heap r 0 (k:J) 1 t u v)(h64:k<64)(abq:Nat->M (Addr×M Key)->Hp->Prop)(w0:abq 0 [] H)(turn:∀(as:M (Addr×Obj)) (i:Nat) ks t s1 H1,i<k->L2.Inv X (as++pins) U H1 s1->abq i ks H1->aT (aW X.prog X.w) X.A.in1.in1 (call (.ref f) [.int (i:J) t]) (λu s2=>∃b kk H2,u=.ref b/\L2.Inv X (as++pins) U H2 s2/\abq (i+1) (ks++[(b,kk)]) H2) (λ_ _=>bu) s1)(fin:∀ks H1,abq k ks H1->zl ks=k/\(∀p∈ks,H1 p.1=L (.tup (p.2.map kV)))/\L2.sortable (ks.map (·.2))=W)(h:∀ks H1 s1 a,abq k ks H1->H1 a=S->L2.Inv X pins U (upd H1 a (.lst ((dX (ks.map (·.2))).map λ(i:Nat)=>V.int (i:J)))) s1->Q (.ref a) s1):aT (aW X.prog X.w) X.A (call (.builtin "sorted") [.ref r] [(pF "key",.ref f)]) Q E s:=by
 refine call_function_entry_kw Ef CD CF (ksk_s1 _ _) ?_;refine ai (aL ?_);refine ai (AD (n:=k) hh hr (JU (by lia) (by lia) (by lia) (by lia)) (by rw[AQ];split<;>lia) (by lia) λg1 tk acc k1 it=>?_);have hl:zl acc.toList=k:=by rw[ee];exact it.1
 have hv:=FI 0 k acc it;dsimp only;refine ai (rB ?_ (by rw[hl,bY];lia));have I1:=I.kept (t':=tk) k1;have fk:=I1.sG (aK _) (I1.hok.fresh (aK _));have hoL:(g1.push (cO "list" acc.toList.toArray 0)).get? g1.objs.size=L (cO "list" acc.toList.toArray 0):=aS _ rfl;have I2:L2.Inv X pins U H { s with heap:=g1.push (cO "list" acc.toList.toArray 0),toks:=tk }:=I1.kept λb o e=>az _ e;refine ai (fK (wpAny_call_entry_kw zB #[_,hoL,rfl] yh ?body (ksk_l1 _ _)))
 case body=>
  show aT (aW X.prog X.w) X.A.in1.in1 (zq.«list.sort» #[[.ref g1.objs.size],[(pF "key",.ref f)]]) _ _ _;rw[ksk_t1];refine RV (s:={ s with heap:=g1.push (cO "list" acc.toList.toArray 0),toks:=tk }) I2 fk.2 fk.1 hoL (by lia) abq w0 (λas i ks v s1 H1 hi abt w=>?_) (λks H1 w=>(fin ks H1 (hl▸w)).2) λks H1 s1 c w abt n e=>#[_,rfl,aL #[_,rfl,?_]]
  .have hik:i<k:=by rw[<-hl];exact(bN.mp hi).1
   let#[t,rfl]:=it.2 i v (by rw[<-iN];exact hi);rw[show(0:J)+(i:J)*1=(i:J)by lia];exact turn as i ks t s1 H1 hik abt w
  .rw[hl]at w;let#[f1,f2,f3]:=fin ks H1 w;have hkl:zl (ks.map (·.2))=k:=by rw[aa];exact f1
   refine h ks H1 s1 _ w n (abt.aev #[n,fk.2] #[?_,_,c,?_,e])
   .rw[aa];unfold dX;rw[n6,hkl,bY];lia
   .have lt:∀i∈dX (ks.map (·.2)),i<zl ((bM k).map λ(k:Nat)=>V.int (0+(k:J))):=λi hi=>by
     rw[aa,ig,<-hkl];exact uV _ _ i hi
    have e1:gD acc.toList (vG (ks.map (·.2)))=(dX (ks.map (·.2))).map λi=>acc.toList.getD i eN:=by
     unfold gD dX;rw[hl,hkl]
    have e2:((dX (ks.map (·.2))).map λ(i:Nat)=>V.int (i:J))=(dX (ks.map (·.2))).map λi=>(((bM k).map λ(k:Nat)=>V.int (0+(k:J))).getD i V.non):=
     gJ λi hi=>by
      have:=lt i hi;rw[aa,ig]at this;simp[aZ,oE this]
    rw[e1,e2];exact Bj hv _ lt
end
section
variable{X:Cx}
def aeH(I:L2.Inv X pins U H s)(h:(P,q)∈oY):∃ps,H P=L (.tbl ps)/\OV ps=q:=by
 let#[more,e]:=I.tb _ h;exact#[_,e,by simp[OV]]
def acF{p p2 pos pos2 kp lpos ap:Pos}{x:Str}{an:abM Expr}{ne body:Expr}{scope:fH}{fr:M Nat}{te tb:TE}(hc:X.calm=W)(abk:LM X P)(abr:Px X.env.scope X.N scope x fr)(hg:Gl X "sorted")(hm:X.mg "sorted"=S)(hg2:Gl X "range")(hm2:X.mg "range"=S)(hn:PE X ne te)(hs:noStar ne=W)(hb:∀(f:Addr) (cd:Z) (s:ay) (H:Hp),PE (C1 X X.A.in1.in1 (x::gz X.N [] fr) (X.env.qual++"<lambda>") scope f cd s H) body tb):PE X (.Call (.Name "sorted" p) [.Call (.Name "range" p2) [ne] [] pos2] [#[L "key",.Lambda (yX x an ap) body scope lpos,kp]] pos) (Ph te tb fr):=by
 intro pins s U H Q I h;refine fR (kF I hg hm (u:=.builtin "sorted") (by rfl) ?_ (by decide) (by decide));refine callWith_kw ?_ rfl rfl rfl;have hst:gH [ne] X.env=[(B,eval ne X.env)]:=by rw[fW hs];rfl
 refine eV (Ay (kF I hg2 hm2 (u:=.type "range") (by rfl) (cJ ?_ (fW hs) rfl)));rw[hst];refine eV (bA (hn pins s U H _ I h) λv s1 ⟨n,H1,I1,r1,q⟩=>fY ?_);let#[k,e1,h64,q]:=q;subst e1;let#[t,rfl]:=r1;refine CL (fY (kwAll_cons ?_));have I2:L2.Inv X pins U H1 { s1 with heap:=s1.heap.push { cls:=.type "range",data:=.fields (List.toArray [.int 0 s1.toks,.int (k:J) t,.int 1 (s1.toks+1)]) },toks:=s1.toks+1+1 }:=I1.kept λb o e=>az _ e;have fr1:=I1.sG (aK _) (I1.hok.fresh (aK _));have I3:L2.Inv X ([(s1.heap.objs.size,({ cls:=.type "range",data:=.fields (List.toArray [.int 0 s1.toks,.int (k:J) t,.int 1 (s1.toks+1)]) }:Obj))]++pins) U H1 { s1 with heap:=s1.heap.push { cls:=.type "range",data:=.fields (List.toArray [.int 0 s1.toks,.int (k:J) t,.int 1 (s1.toks+1)]) },toks:=s1.toks+1+1 }:=
  zY I2 λp hp=>by rw[aQ.mp hp];exact#[aS _ rfl,fr1.1,fr1.2,λ_ z=>nomatch z]
 let#[ps,hP,hq]:=aeH I3 abk.tb;refine Vr I3 abk hP hq (vh (rV abr.touW I3)) rfl λf c' pm ctv H' s' hH abt hle hf hnf ⟨oc,vs,tq,e1,e2,e3⟩=>?_;refine kwAll_nil ?_;have ff:=I3.sG hle hnf;have J2:=zY (as:=[(f,_)]) abt λp hp=>by rw[aQ.mp hp];exact#[hf,ff.1,ff.2,λ_ z=>nomatch z]
 have hro:=(J2.pin (s1.heap.objs.size,_) (aJ _ (aJ _ (bC _ aB)))).1;refine Py (I.ok.hd hc) J2 hro h64 (λi ks H=>i<=k/\zl ks=i/\H c'=L (.bq oc (.own P))/\Pg tb (sR [] fr U) (λks H3=>((∀p∈ks,H3 p.1=L (.tup (p.2.map kV)))/\L2.sortable (ks.map (·.2))=W)/\∀p,H3 p=S->Q (.ref p) (upd H3 p (.lst ((dX (ks.map (·.2))).map λ(i:Nat)=>V.int (i:J))))) (k-i) i ks H) #[dg _,rfl,e1,q H' (hH.imp id λqq=>by let#[c,oc,z]:=qq;exact#[c,oc,P,z])] (λas i ks t s2 H2 hi K w=>?_) (λks H2 w=>?_) λks H2 s2 a w na K=>?_
 .obtain⟨_,hln,g,w⟩:=w;rw[show k-i=k-(i+1)+1 by lia]at w;refine gZ (Vs (A:=X.A.in1.in1) I.ok.frames (I.ok.hd hc) abk.dp abr K (K.pin (f,_) (aJ _ (aJ _ (bC _ aB)))).1 (ZK K g e2 e3) Vt (v:=.int (i:J)) #[t,rfl] (hb f (.ref c') s2 H2) w) (λu s3 ⟨y,H3,K3,ru,⟨b,kk,e,w3⟩,kf⟩=>?_) λ_ _ z=>z;subst e;cases ru;exact#[b,kk,H3,rfl,K3,hi,by rw[bf,f_,hln],kf _ _ _ g,w3]
 .obtain⟨_,hln,_,w⟩:=w;rw[pH]at w;exact#[hln,w.1.1,w.1.2]
 .obtain⟨_,hln,_,w⟩:=w;rw[pH]at w;exact#[.ref a,_,xQ (xQ K),rfl,w.2 a na]
end
end L3
end
section
namespace L2
open PySem PySem.W PySem.Calls PyProof.Rows
theorem Pz:Al (.type "list_reverseiterator") "__len__"=pure S:=by rfl
theorem Vu:Al (.type "list_reverseiterator") "__length_hint__"=pure (L (.builtin "list_reverseiterator.__length_hint__")):=by rfl
section
variable{prog:bO}{w:bL}{A:cQ}{E:Z->ay->Prop}{s:ay}
def Vv{Q:Bool->ay->Prop}(hT:s.TypeIs (.ref r) "list_reverseiterator")(h:Q B s):aT (aW prog w) A (JX (.ref r)) Q E s:=by
 refine ai (tT hT Pz ?_);refine ai (tT hT Vu ?_);generalize hid:("list_reverseiterator.__length_hint__":String)=id0
 wp_delta
 rw[show splitId id0=L ("list_reverseiterator","__length_hint__")from by subst hid;decide +kernel];subst hid;refine ai (Fd (b:=W) hT (by rfl) ?_);refine tW (λhab=>aH hab (by decide)) (λ_=>?_);refine tW (λ_=>?_) (λhab=>aH (by rfl) hab);refine tW (λhab=>aH hab (by decide)) (λ_=>?_);exact aL h
def Ka{Q:Z->ay->Prop}(hh:A.handled=S)(hne:l≠I)(hI:s.heap.IsRevIter I l ((items.size:J)-1))(hl:s.heap.IsList l items)(hn:items.size<=aj)(hQ:∀h' tk acc c,(∀b o,b≠I->s.heap.get? b=L o->h'.get? b=L o)->h'.get? s.heap.objs.size=L { cls:=.type "list",dict:=S,data:=.seq acc c,slots:=#[] }->su (λi v=>items[items.size-1-i]?=L v) acc items.size->Q (.ref s.heap.objs.size) { s with heap:=h',toks:=tk }):aT (aW prog w) A (call (.type "list") [.ref I]) Q E s:=by
 have hIs:=let⟨_,e,_⟩:=hI;aO e
 have hls:=let⟨_,e,_⟩:=hl;aO e
 refine uB (Q₁:=λobj ahq=>obj=.ref s.heap.objs.size/\ahq={ s with heap:=s.heap.push { cls:=.type "list",data:=.seq #[] } }) Q_ (Nd _) Nf
  (code_list_new _ #[rfl,rfl]) λobj ahq ahu=>?_
 let#[rfl,rfl]:=ahu;generalize hS0:s.heap.objs.size=abr at *;have hS:(s.heap.push { cls:=.type "list",data:=.seq #[] }).get? abr=L { cls:=.type "list",data:=.seq #[] }:=hS0▸aS _ rfl;have abq:=Walks.listRev (prog:=prog) (w:=w) (A:=A.in1.in1) hh I l hne items;have hSf:abr∉[I,l]:=by simp only[be,aD,or_false,not_or];exact#[ja hIs,ja hls]
 refine#[#[_,hS,rfl],M7 _ _,?_];show aT _ _ (do let old <-NR (.ref abr);xE (.ref abr) (λ_=>#[]);letGo old.toList.reverse;JY (.ref abr) (.ref I) .none) _ _ _;refine ai ?_;refine ai (zw hS rfl (aL ?_));refine ai (wpAny_updateSeq hS rfl ?_);have ahV:=se (c_ (λ_=>(#[]:Array Z))) hS rfl;have oth:∀b o,s.heap.get? b=L o->((s.heap.push { cls:=.type "list",data:=.seq #[] }).update abr (c_ (λ_=>(#[]:Array Z)))).get? b=L o:=
  λb o e=>(mh _ _ (ja (hS0▸aO e))).trans (az _ e)
 have st:(λi (h:Heap)=>i<=items.size/\h.IsRevIter I l ((items.size:J)-1-(i:J))/\h.IsList l items) 0 ((s.heap.push { cls:=.type "list",data:=.seq #[] }).update abr (c_ (λ_=>(#[]:Array Z)))):=
  #[dg _,by simpa using hI.at λo e=>oth I o e,hl.at λo e=>oth l o e]
 refine ai (NQ ?_);generalize((s.heap.push { cls:=.type "list",data:=.seq #[] }).update abr (c_ (λ_=>(#[]:Array Z))))=h2 at *;refine ai (pq (T:="list_reverseiterator") (zF (s:={ s with heap:=h2 }) st.2.1) ?_);have h1:xw (.ref abr) (.ref I)=B:=by simp[xw];exact ja hIs
 have h2':(Value.type "list_reverseiterator"==Value.type "list")=B:=by decide
 have h3:(Value.type "list_reverseiterator"==Value.type "tuple")=B:=by decide
 simp only[h1,h2',h3,AS,gq,iF];refine ai (abq.self 0 { s with heap:=h2 } _ _ st ?_);refine ai (fK (Vv (zF (s:={ s with heap:=h2 }) st.2.1) ?_));refine tW (λhab=>aH hab (by decide +kernel)) (λ_=>?_);refine aL #[jn K7 _,codeAny_extend_loopS abq.toS hn abr hSf .none items.size 0 _ #[] _ rfl (dg _) st ahV (ItemsOf.nil _) λs' acc' c' hm hS' hacc=>?_];rw[Moved.eq_with hm];exact#[rfl,hQ s'.heap s'.toks acc' c' (λb o hb e=>hm.heap b o (λhmem=>by
  rcases be.mp hmem with e'|hmem
  .exact aH (aO e) (by rw[hS0,e'];exact c8 _)
  .exact hb (aQ.mp hmem)) (oth b o e)) hS' hacc]
end
end L2
end
section
namespace L3
open PySem PySem.Spec PyProof.Rows PySem.Calls L2
theorem FL:isSubtype (.type "range_iterator") (.type "reversed")=pure B:=by rfl
theorem Bx(i:J)(t:Tok):asInt? (.int i t)=pure (L i):=rfl
noncomputable abbrev By(x left:J):Obj:={ cls:=.type "range_iterator",data:=.fields (List.toArray [tN x,tN left,tN (-1)]) }
section
variable{prog:bO}{w:bL}{A:cQ}{E:Z->ay->Prop}{s:ay}{r:Addr}{n:Nat}{t u v:Tok}
def AY{Q:Z->ay->Prop}(hr:sy s.heap r 0 (n:J) 1 t u v)(hn:n<2 ^ 40)(h:Q (.ref s.heap.objs.size) { s with heap:=s.heap.push (By ((n:J)-1) n) }):aT (aW prog w) A (call (.builtin "range.__reversed__") [.ref r]) Q E s:=by
 have hT:s.TypeIs (.ref r) "range":=#[_,hr,rfl];refine kY F.slot_range_reversed hT F.entry_range_reversed ?_ (F.args_range_reversed_1 _);refine ai (jB rfl ?_);refine ai ?_;refine ai (Eh hr rfl rfl ?_);refine ai (jB (Bx _ _) ?_);refine ai (Eh hr rfl rfl ?_);refine ai (jB (Bx _ _) ?_);refine ai (Eh hr rfl rfl ?_);simp only[Bx,pure_bind];refine aL ?_;have e1:g9 0 (n:J) 1=n:=by
  unfold g9;rw[aF (by decide)];split
  .rw[Int.ediv_one];lia
  .lia
 have e2:(fC 0&&fC (n:J)&&fC 1&&fC (-1)&&fC (0-1)&&fC (n:J))=W:=by
  unfold fC;simp
  lia
 dsimp only;rw[e1];simp only[e2,e_,gq,iF,jT];refine ai (ie (aL #[_,rfl,?_]));have e3:(0:J)+((n:J)-1)*1=(n:J)-1:=by lia
 rw[e3];exact h
def AZ{Q₁:Z->ay->Prop}(hr:sy s.heap r 0 (n:J) 1 t u v)(hn:n<2 ^ 40)(h:Q₁ (.ref s.heap.objs.size) { s with heap:=s.heap.push (By ((n:J)-1) n) }):kE (aW prog w) A (.call (.builtin "reversed.__new__") #[[.type "reversed",.ref r],[]]) (wants Q₁ E) s:=by
 have hT:s.TypeIs (.ref r) "range":=#[_,hr,rfl];refine G_ ?_;show aT _ A.in1 (do Fg "reversed.__new__" #[[.type "reversed",.ref r],[]];again (.builtin "reversed.__new__" #[[.type "reversed",.ref r],[]])) _ _ s;refine ai (jB (F.newCall_reversed_1 _) (aL #[jn F.plain_reversed_new _,gQ F.entry_reversed_new ?_]));rw[eL F.plain_reversed_new _];refine ai (jB (newClass_reversed _) ?_)
 try dsimp only
 refine ai (jB (by rfl) ?_);refine ai (jB (by rfl) ?_)
 try dsimp only
 refine ai (tT hT F.slot_range_reversed.lookup ?_)
 try dsimp only
 refine ai (jB (F.slot_range_reversed.bind _) ?_)
 try dsimp only
 (show aT _ _ (if(AN "range.__reversed__"==eN)=W then _ else _) _ _ _;rw[aG (show ¬((AN "range.__reversed__"==eN)=W)from bU)])
 refine ai (Am ?_);refine ai (AY hr hn ?_);exact aL h
def A0{Q:Z->ay->Prop}(hr:sy s.heap r 0 (n:J) 1 t u v)(hn:n<2 ^ 40)(h:Q (.ref s.heap.objs.size) { s with heap:=s.heap.push (By ((n:J)-1) n) }):aT (aW prog w) A (call (.type "reversed") [.ref r]) Q E s:=by
 refine callType_other (Q₁:=λobj ahq=>obj=.ref s.heap.objs.size/\ahq={ s with heap:=s.heap.push (By ((n:J)-1) n) }) (by rfl) F.create_reversed #[_,_,F.mro_reversed] F.made_reversed FL (F.typeCall_reversed_1 _) (AZ hr hn #[rfl,rfl]) ?_;rintro obj ahq ⟨rfl,rfl⟩;exact#[#[_,aS _ rfl,rfl],h]
end
noncomputable def acG(n:Nat):It:=#[λi _=>i<n,λi H x H'=>H'=H/\x=.int ((n:J)-1-i),λi _=>n<=i]
def Vw{w:bL}{K:ak}{tg:Expr}(it:Addr)(n:Nat):Turn P w K tg (acG n) [it] it (λi h=>Eb h it (((n:J)-1)+(i:Nat)*(-1)) ((n:J)-(i:Nat)) (-1)) where
 mem:=by simp
 obj:=λi h st b hb=>by
  have e:b=it:=by simpa using hb
  subst e;exact#[_,st,λv z=>by
   have z':=z;cases z']
 keep:=λi h h' st k=>k it (by simp) _ st
 item:=by
  intro X hP hw hK hc i pins s U H E I hf st hg;subst hP hw hK;let#[f0,f1,f2,f3,f4,f5]:=hf it (by simp);have abq:=NL (prog:=X.prog) (w:=X.w) (I.ok.hd hc) it ((n:J)-1) (-1) n;refine abq.item i s _ _ hg st λv h' tk hv st' kk=>?_;let#[t,rfl]:=hv;have I1:L2.Inv X pins U H { s with heap:=h',toks:=tk }:=I.turned (λb o hb e=>kk b o (by simpa using hb) e) f0 f1 f3 f4 f5;refine#[_,rfl,zK st' rfl rfl (by decide) #[.int ((n:J)-1-i),H,I1,#[t,?_],#[rfl,rfl],st',λb hb=>(hf b hb).1]];rw[show(n:J)-1+(i:J)*-1=(n:J)-1-i from by lia]
 done:=by
  intro X hP hw hK hc i pins s U H E I hf st hg;subst hP hw hK;let#[f0,f1,f2,f3,f4,f5]:=hf it (by simp);exact yH (I.ok.hd hc) st (by have:n<=i:=hg;lia) λh' eb=>#[rfl,I.turned (λb o hb e=>eb b o hb e) f0 f1 f3 f4 f5]
 self:=λ_ _ _ _ _ st h=>qP st h
def Vx:rE (acG n) (λ_=>True) (Bp n) where
 go:=λi H it ok hi=>by
  have:=(bN.mp hi).1;have:i<n:=by simpa[Bp]using this
  exact this
 yld:=λi H it x H' ok hi hy k hk=>by
  let#[rfl,rfl]:=hy;have hl:=(bN.mp hi).1;have hl:i<n:=by simpa[Bp]using hl
  rw[Bp,bg,oE hl]at hi;cases hi;exact hk
 stop:=λi H ok hi=>by
  have hi:n<=i:=by simpa[Bp]using hi
  exact hi
end L3
end
section
namespace L3
open PySem PySem.Spec PyProof.Rows L2
section
variable{X:Cx}{tg:Expr}
def ZN(hg:Gl X "reversed")(hm:X.mg "reversed"=S)(hg2:Gl X "range")(hm2:X.mg "range"=S)(he:PE X e te)(hs:noStar e=W):DJ X tg (.Call (.Name "reversed" p) [.Call (.Name "range" p2) [e] [] pos2] [] pos) (λU H k=>te U H λx H1=>∃n:Nat,x=.int (n:J)/\n<2 ^ 40/\k (λ_=>True) (Bp n) H1):=by
 intro pins s U H k I h;refine Ay (kF I hg hm AW (cJ ?_ rfl rfl));refine eV (Ay (kF I hg2 hm2 (u:=.type "range") (by rfl) (cJ ?_ (fW hs) rfl)));rw[fW hs];refine eV (bA (he pins s U H _ I h) λu s1 ⟨x,H1,I1,r1,n,ex,hn,q⟩=>?_);refine fY ?_;subst ex;let#[t,rfl]:=r1;refine CL (fY ?_);have hr:sy (s1.heap.push { cls:=.type "range",data:=.fields (List.toArray [.int 0 s1.toks,.int (n:J) t,.int 1 (s1.toks+1)]) }) s1.heap.objs.size 0 (n:J) 1 s1.toks t (s1.toks+1):=Ec ..;have I2:L2.Inv X pins U H1 { s1 with heap:=s1.heap.push { cls:=.type "range",data:=.fields (List.toArray [.int 0 s1.toks,.int (n:J) t,.int 1 (s1.toks+1)]) },toks:=s1.toks+2 }:=I1.kept λb o e=>az _ e;refine A0 hr hn ?_;have st:Eb ((s1.heap.push { cls:=.type "range",data:=.fields (List.toArray [.int 0 s1.toks,.int (n:J) t,.int 1 (s1.toks+1)]) }).push (By ((n:J)-1) n)) (s1.heap.push { cls:=.type "range",data:=.fields (List.toArray [.int 0 s1.toks,.int (n:J) t,.int 1 (s1.toks+1)]) }).objs.size ((n:J)-1) n (-1):=aS _ rfl;refine qP st ?_;refine#[_,[_],_,_,H1,rfl,I2.kept λb o e=>az _ e,Vw _ n,?_,λc hc=>?_,λ_=>True,_,Vx,q]
 .simpa using st
 .have hc:c=_:=aQ.mp hc;subst hc;exact I2.sG (aK _) (I2.hok.fresh (aK _))
end
section
variable{X:Cx}
def Vy(r:bP xs its)(hl:zl acc=zl its)(h:∀i v,acc[i]?=L v->its[zl its-1-i]?=L v):bP xs.reverse acc:=by
 have e:acc=its.reverse:=by
  apply kX (by simp_all);intro i h1 h2;have:=h i acc[i] (aq h1);rw[List.getElem_reverse];rw[aq (by omega)]at this;exact(cB this).symm
 rw[e];exact bP.reverse r
def acH(hc:X.calm=W)(hg:Gl X "list")(hm:X.mg "list"=S)(hg2:Gl X "reversed")(hm2:X.mg "reversed"=S)(he:PE X e te)(hs:noStar e=W):PE X (.Call (.Name "list" p) [.Call (.Name "reversed" p2) [e] [] pos2] [] pos) (λU H Q=>te U H λx H1=>U9 x H1 Q):=by
 intro pins s U H Q I h;refine fR (kF I hg hm (u:=.type "list") (by rfl) ?_);refine cJ ?_ rfl rfl;refine eV (Ay (kF I hg2 hm2 AW (cJ ?_ (fW hs) rfl)));rw[fW hs];refine eV (bA (he pins s U H _ I h) λu s1 ⟨x,H1,I1,r1,b,xs,ex,hx,q⟩=>?_);refine fY ?_;subst ex;cases r1;let#[its,rv,pl,hz]:=I1.list (.inl hx:jh X.K H1 b xs);refine CK pl.isList (fY ?_);have hb:=let⟨_,e,_⟩:=pl.isList;aO e
 refine Ka (I1.ok.hd hc) (bG hb) #[_,aS _ rfl,rfl,rfl] (pl.isList.push _) (by rw[aV,<-rv.length];exact hz) λh' tk acc c k e it=>?_;have I2:L2.Inv X pins U H1 { s1 with heap:=s1.heap.push (revObj b ((its.toArray.size:J)-1)) }:=I1.kept λb o e=>az _ e;have k':=λb o e=>k b o (bG (aO e)) (az _ e);refine#[.ref _,_,I1.laid k' (fP (by rw[g8];exact iE _)) (show fX X.prog X.w _ h' _ (.lst xs.reverse)from#[by rw[oB];exact hz,acc.toList,c,Vy rv (by rw[ee,it.1,aV]) λi v hv=>?_,by rw[tV];exact e]),rfl,q _ (I1.hok.fresh (by show s1.heap.objs.size<=(s1.heap.push _).objs.size;rw[g8];exact qN _))];have:=it.2 i v (by rw[<-iN];exact hv);simpa using this
end
def ZO{P:bO}{w:bL}{k:Key}{u:Z}(h:(fq P w).is k u=W):RelV (kV k) u:=by
 rcases iT h with⟨i,t,rfl,rfl⟩|⟨x,t,rfl,rfl⟩
 .exact#[t,rfl]
 .exact#[t,rfl]
end L3
end
section
namespace L2
open PySem PySem.W PySem.Calls PyProof.Rows L3
def Oe(x:gR P w H h)(hn:H a=S)(new:fX P w (upd H a o) h a o):gR P w (upd H a o) h:=λb u e=>by
 by_cases hb:b=a
 .subst hb;rw[bQ]at e;cases e;exact new
 .rw[aY hb]at e;exact(x b u e).stay (λ_ _ _ r=>r) (λc r=>by rw[aY (bZ r hn)];exact r) (λc ys r=>by rw[aY (bZ r hn)];exact r) λc o ys r=>by rw[aY (bZ r hn)];exact r
structure RW (H H':Hp) (h:Heap):Prop where
 grow:∀b o,H b=L o->H' b=L o
 free:∀b o,h.get? b=L o->H b=S->H' b=S
def RW.add(g:RW H H' h)(hn:H' a=S)(ha:h.objs.size<=a):RW H (upd H' a o) h:=
 #[λb u e=>by rw[aY (bZ (g.grow b u e) hn)];exact g.grow b u e,λb u e n=>by rw[aY (bG (bT (aO e) ha))];exact g.free b u e n]
theorem IY:∀{kss:M (M Key)}{ts:M Addr}{H1:Hp}{k:M Addr->Hp->Prop},Paired (o5 h') (ts.map bR) kss->(∀x∈kss,zl x<=aj)->gR P w H1 h'->RW H H1 h->(∀t∈ts,H1 t=S/\h.objs.size<=t)->ts.Nodup->yU kss H1 k->
 ∃H2,k ts H2/\gR P w H2 h'/\RW H H2 h/\jX H2 kss ts/\(∀b o,H1 b=L o->H2 b=L o)/\∀b,b∉ts->H1 b=S->H2 b=S
|[],[],H1,k,_,_,hok,g,_,_,q=>#[H1,q,hok,g,.nil,λ_ _ e=>e,λ_ _ e=>e]
|x::kss,t::ts,H1,k,.cons p r,hl,hok,g,ht,nd,q=>by
 let#[hn,hs]:=ht t aB;let#[nt,nd]:=bX.mp nd;let#[t',o,us,n,e,h1,h2,h3,h4]:=p;cases e;have hok1:=Oe hok hn (show fX P w _ h' t (.tup (x.map kV))from#[by rw[aa];exact hl x aB,us,h4,o,h1,h2,n,h3]);let#[H2,a1,a2,a3,a4,a5,a6]:=IY r (λy hy=>hl y (ao _ hy)) hok1 (g.add hn hs) (λu hu=>#[by rw[aY (λz:u=t=>nt (z▸hu))];exact(ht u (ao _ hu)).1,(ht u (ao _ hu)).2]) nd (q t hn);refine#[H2,a1,a2,a3,.cons (a5 t _ bQ) a4,λb o e=>a5 b o (by rw[aY (bZ e hn)];exact e),λb hb e=>a6 b (λz=>hb (ao _ z)) ?_];rw[aY (λz:b=t=>hb (by rw[z];exact aB))];exact e
|[],_::_,_,_,r,_,_,_,_,_,_=>nomatch r
|_::_,[],_,_,r,_,_,_,_,_,_=>nomatch r
section
variable{prog:bO}{w:bL}{A:cQ}{E:Z->ay->Prop}{s:ay}
def PC{lt:Nat->Nat->Bool}{G:M Z->Heap->Prop}{Q:Z->ay->Prop}(hC:∀vs h1 h',G vs h1->(∀b o,h1.get? b=L o->h'.get? b=L o)->2<=zl vs->IS prog w A.in1.in1 vs lt h')(h64:∀vs h1,G vs h1->zl vs<64)(hc:aT (aW prog w) A.in1 (Dj (.ref l)) (λvs s1=>∃h1 tk,s1={ s with heap:=h1,toks:=tk }/\G vs h1) (λ_ _=>bu) s)(h:∀vs h1 h' a c tk,G vs h1->(∀b o,h1.get? b=L o->h'.get? b=L o)->h1.objs.size<=a->h'.get? a=L (cO "list" (gD vs lt).toArray c)->Q (.ref a) { s with heap:=h',toks:=tk }):aT (aW prog w) A (call (.builtin "sorted") [.ref l]) Q E s:=by
 refine vW Ef CD CF (M1 _) ?_;refine ai (aL ?_);refine ai (gZ hc (λvs s1 ⟨g1,tk,e1,hG⟩=>?_) λ_ _ x=>x.elim);subst e1;have h64:=h64 vs g1 hG;dsimp only;refine ai (rB ?_ (by rw[bY];lia));have hoL:(g1.push (cO "list" vs.toArray 0)).get? g1.objs.size=L (cO "list" vs.toArray 0):=aS _ rfl;have keep:∀b o,g1.get? b=L o->(g1.push (cO "list" vs.toArray 0)).get? b=L o:=λb o e=>az _ e;refine ai (fK (kY zB #[_,hoL,rfl] yh ?body (Iu _)))
 case body=>
  refine Bh hoL (λh' k'=>hC vs g1 h' hG λb o e=>k' b o (bG (aO e)) (keep b o e)) h64 λh' c k' e'=>?_;exact#[_,rfl,aL #[_,rfl,h vs g1 h' _ c tk hG (λb o e=>k' b o (bG (aO e)) (keep b o e)) (aK _) e']]
end
end L2
namespace L3
open PySem PySem.Spec PySem.W PyProof.Rows L2
section
variable{X:Cx}
def ZP:∀ks∈mO ps,ks≠[]:=λks h=>by
 let#[p,_,rfl]:=ck.mp h;exact List.cons_ne_nil _ _
def IZ:∀ks∈mO ps,∀qs∈mO ps,kH ks qs=W:=λks h qs h'=>by
 let#[p,_,rfl]:=ck.mp h;let#[q,_,rfl]:=ck.mp h';rfl
set_option tactic.hygienic true in
theorem EF{lo:Addr}:∀{ps:M (Str×J)}{vs:M (Key×Z)}{as:M Addr},KV (ps.map λp:Str×J=>(d9 p.1,V.int p.2)) vs->zl as=zl vs->KdxG (fq P w) vs lo h as->Paired (o5 h) (as.map bR) (mO ps)
|[],_,as,r,hl,g=>by
 cases r;cases as with
 |nil=>exact .nil
 |cons _ _=>simp at hl
|p::ps,_,as,r,hl,g=>by
 cases r with
 |cons q t=>
  cases as with
  |nil=>simp at hl
  |cons a as=>
   rename_i u vs;let#[key,k,x,e1,e2,e3]:=g.pairs 0 a rfl;simp at e1;subst e1;let#[q1,q2]:=q;have hk:=ZO e2;rw[<-(show d9 p.1=k from q1)]at hk;refine .cons #[a,_,[key,x],_,rfl,e3,rfl,rfl,.cons hk (.cons q2 .nil)] (EF t (by simpa using hl) #[(List.pairwise_cons.mp g.rise).2,λb hb=>g.above b (ao _ hb),λj b hj=>by simpa using g.pairs (j+1) b (by simpa using hj)])
def acI(hc:X.calm=W)(hg:Gl X "sorted")(hm:X.mg "sorted"=S)(he:PE X e te)(hb:vP e=W)(hl:(p2.endLine==pos2.line)=W):PE X (.Call (.Name "sorted" p) [.Call (.Attribute e "items" p2) [] [] pos2] [] pos) (λU H Q=>te U H λx H1=>U8 x H1 Q):=by
 intro pins s U H Q I h;refine fR (kF I hg hm (u:=.builtin "sorted") (by decide +kernel) ?_);refine lX ?_ rfl rfl;refine eV (xH (C0 hb) hl (bA (he pins s U H _ I h) λu s1 ⟨x,H1,I1,r1,a,ps,ex,hx,h64,q⟩=>?_));subst ex;cases r1;let#[hz,hS,vs,kv,hd]:=xK I1.hok hx;have hd':=hd;let#[o,es,ep,ho,hx',_]:=id hd;refine#["dict","dict.items",Ng,xJ,Nh,hd.typeIs,λb e=>by cases e;exact#[o,ho,hx'.2.1],qR rfl (A3 ?_)];refine tR xJ hd.typeIs M8 (K8 _) (meets_dict_items (fq X.prog X.w) a hS) #[#[vs,hd],fY ?_];let#[ep,hat]:=hd.dictAt;have hlen:zl vs=zl ps:=by rw[<-Paired.length kv,aa]
 refine PC (G:=λus h1=>∃as,us=as.map bR/\zl as=zl vs/\KdxG (fq X.prog X.w) vs s1.heap.objs.size h1 as/\s1.heap.objs.size<=h1.objs.size/\∀b o,s1.heap.get? b=L o->h1.get? b=L o)
  (λus h1 h' ⟨as,e1,e2,e3,e5,e4⟩ k h2=>e1▸zO (Paired.imp' (λv ks x=>o5.keep' x k) (EF kv e2 e3)) ZP IZ (by rw[<-e1];exact h2))
  (λus h1 qq=>by let#[as,e1,e2,_]:=qq;rw[e1,aa,e2,hlen];exact h64)
  (kdx_collect (knd:=fq X.prog X.w) (kvs:=vs) (ep:=ep) (I1.ok.hd hc) #[_,aS _ rfl,rfl,rfl] (hat.push _) (by rw[hlen,bY];lia) λh' tk as k e2 e3=>#[h',tk,rfl,as,rfl,e2,e3.low (by rw[g8];exact qN _),fP (aO (k s1.heap.objs.size _ (aS _ rfl))),λb o e=>k b o (az _ e)])
  λus h1 h' b c tk ⟨as,e1,e2,e3,e5,e4⟩ k hb e=>?_
 have tk1:=EF kv e2 e3;have hl1:zl as=zl (mO ps):=by rw[e2,hlen,mO,aa]
 have ok1:=I1.hok.kept e4;have k2:=λb o e=>k b o (e4 b o e);let#[H2,a1,a2,a3,a4,a5,a6]:=IY (P:=X.prog) (w:=X.w) (H:=H1) (h:=s1.heap) (h':=h') (Paired.imp' (λv ks x=>o5.keep' x k) tk1) (λx hx=>by
   let#[p,_,rfl]:=ck.mp hx;show 2<=aj;rw[bY];lia) (I1.hok.kept k2) #[λ_ _ e=>e,λ_ _ _ e=>e] (λt ht=>#[I1.hok.fresh (fP (e3.above t ht)),fP (e3.above t ht)]) (e3.rise.imp λh=>bG h) q
 have hs1:s1.heap.objs.size<=b:=cH e5 hb;have hn:H2 b=S:=a6 b (λz=>aH (e3.there z) (Q3.mpr hb)) (I1.hok.fresh hs1);have eo:gD us (vG (mO ps))=(dX (mO ps)).map λi=>us.getD i eN:=by
  unfold gD dX;rw[e1,aa,hl1]
 have lt:∀i∈dX (mO ps),i<zl as:=λi hi=>by rw[hl1];exact uV _ _ i hi
 have ok3:gR X.prog X.w (upd H2 b (.lst ((dX (mO ps)).map λi=>.ref (as.getD i 0)))) h':=Oe a2 hn (show fX X.prog X.w _ h' b (.lst _)from#[by
   rw[aa];unfold dX;rw[n6,<-hl1,e2,hlen,bY];lia,_,c,L2.uU as _ lt,by rw[<-e1,<-eo];exact e])
 have g3:=a3.add (o:=.lst ((dX (mO ps)).map λi=>.ref (as.getD i 0))) hn hs1;exact#[.ref b,_,Inv.HA (s:=s1) (ch:=[]) (t':=tk) I1 (λ_ z=>nomatch z) (λb o _ e=>k2 b o e) (λb o _ e n=>g3.free b o e n) g3.grow ok3,rfl,a1 b hn]
end
end L3
end
section
namespace L3
open PySem PySem.Spec PyProof.Rows L2
def ObT(ob:Obj)(ts:M Addr)(es:Array vc)(ep:Nat):Prop:=ob.ExactDict/\ob.data=.dict es ep/\es.toList.map (·.key)=ts.map bR
noncomputable def acJ(a:Addr)(ob:Obj)(kvs:M (M Key×V))(ts:M Addr):It:=
 #[λi H=>LD H a ob kvs/\i<zl ts,λi H x H'=>H'=H/\∃t,ts[i]?=L t/\x=.ref t,λi H=>LD H a ob kvs/\zl ts<=i]
def PD{w:bL}{K:ak}{tg:Expr}(a it:Addr)(ob:Obj)(kvs:M (M Key×V))(ts:M Addr)(es:Array vc)(ep:Nat)(ho:ObT ob ts es ep):Turn P w K tg (acJ a ob kvs ts) [it] it (λi h=>i<=es.size/\h.IsKeyIter it a i es.size ep) where
 mem:=by simp
 obj:=λi h st b hb=>by
  have e:b=it:=by simpa using hb
  subst e;let#[_,o,e,c,d]:=st;exact#[o,e,λv z=>by rw[d]at z;cases z]
 keep:=λi h h' st k=>#[st.1,st.2.at λo e=>k it (by simp) o e]
 item:=by
  intro X hP hw hK hc i pins s U H E I hf st hg;subst hP hw hK;let#[hq,hx]:=hg;let#[f0,f1,f2,f3,f4,f5]:=hf it (by simp);have hl:es.size=zl ts:=by have:=jc uK ho.2.2;simpa using this
  have hi:i<es.size:=by omega
  have hr:rD s.heap a es ep:=#[ob,(I.hok a _ hq).1,ho.1,ho.2.1];refine Lw st.2 hr hi λh' st' sb=>?_;have I1:=I.turned (t':=s.toks) (λb o hb e=>(sb.2 b hb).trans e) f0 f1 f3 f4 f5;let#[o,e,c,d]:=id st';have ek:es[i].key=.ref (ts[i]'hx):=by
   have:=jc (·[i]?) ho.2.2;simp only[bg,iN,kq hi,aq hx,Hf]at this;exact cB this
  refine#[_,rfl,zK e c d (by decide) #[.ref (ts[i]'hx),H,I1,ek,#[rfl,_,aq hx,rfl],#[hi,st'],λb hb=>(hf b hb).1]]
 done:=by
  intro X hP hw hK hc i pins s U H E I hf st hg;subst hP hw hK;let#[hq,hx]:=hg;let#[f0,f1,f2,f3,f4,f5]:=hf it (by simp);have hl:es.size=zl ts:=by have:=jc uK ho.2.2;simpa using this
  have ei:i=es.size:=by lia
  subst ei;have hr:rD s.heap a es ep:=#[ob,(I.hok a _ hq).1,ho.1,ho.2.1];exact N3 (I.ok.hd hc) st.2 hr λh' eb=>#[rfl,I.turned (λb o hb e=>eb b o hb e) f0 f1 f3 f4 f5]
 self:=λ_ _ _ _ _ st h=>As st.2 h
def PF:rE (acJ a ob kvs ts) (λH=>LD H a ob kvs) (yV ts) where
 go:=λi H it ok hi=>by
  have:=(bN.mp hi).1;exact#[ok,by simpa[yV]using this]
 yld:=λi H it x H' ok hi hy k hk=>by
  let#[rfl,t,hy,rfl]:=hy;unfold yV at hi;rw[bg,hy]at hi;cases hi;exact hk
 stop:=λi H ok hi=>#[ok,by unfold yV at hi;rw[aa]at hi;exact hi]
section
variable{X:Cx}{tg:Expr}
def RX{e:Expr}{te:TE}(he:PE X e te):DJ X tg e (λU H k=>te U H λx H1=>RI x H1 k):=by
 intro pins s U H k I h;refine bA (he pins s U H _ I h) λv s1 ⟨x,H1,I1,r1,a,kvs,ex,hd,q⟩=>?_;subst ex;cases r1;let#[hz,hS,xs,rx,o,es,ep,h1,h2,h3,h4,h5]:=(I1.hok a _ hd);have hts:=Hr rx;have hob:ObT o (xs.map λx=>x.2.1) es ep:=#[h2,h3,by rw[h4,bK,bK];rfl];have I2:L2.Inv X pins U (upd H1 a (.bq o (.dT kvs))) s1:=I1.write (by rw[hd];exact nJ) (.inl rfl) (λb u _ e=>e) #[o,h1]
  (#[h1,hz,hS,xs,Paired.Hh rx λp q z=>#[z.1,by rw[aY (OU z.2.1 hd (λw=>by cases w))];exact z.2.1,z.2.2],o,es,ep,h1,h2,h3,h4,h5])
 have hr:rD s1.heap a es ep:=#[o,h1,h2,h3];refine Lv hS hr ?_;refine#[s1.heap.objs.size,[s1.heap.objs.size],_,_,_,rfl,I2.kept λb o e=>az _ e,PD a _ o kvs _ es ep hob,#[dg _,_,aS _ rfl,rfl,rfl],λc hc=>?_,_,_,PF,q o _ hts];have hc:c=s1.heap.objs.size:=by simpa using hc
 subst hc;exact I2.sG (aK _) (I2.hok.fresh (aK _))
end
def band(h:(a&&b)=W):a=W/\b=W:=by simpa using h
def sW(h:(x1&&x2&&x3)=W):(x1=W/\x2=W)/\x3=W:=#[band (band h).1,(band h).2]
def qV(h:(x1&&x2&&x3&&x4)=W):((x1=W/\x2=W)/\x3=W)/\x4=W:=#[sW (band h).1,(band h).2]
def C2(h:(x1&&x2&&x3&&x4&&x5)=W):(((x1=W/\x2=W)/\x3=W)/\x4=W)/\x5=W:=#[qV (band h).1,(band h).2]
def FN(h:(x1&&x2&&x3&&x4&&x5&&x6)=W):((((x1=W/\x2=W)/\x3=W)/\x4=W)/\x5=W)/\x6=W:=#[C2 (band h).1,(band h).2]
def Yl(h:(x1&&x2&&x3&&x4&&x5&&x6&&x7)=W):(((((x1=W/\x2=W)/\x3=W)/\x4=W)/\x5=W)/\x6=W)/\x7=W:=#[FN (band h).1,(band h).2]
def aeI(h:(x1&&x2&&x3&&x4&&x5&&x6&&x7&&x8)=W):((((((x1=W/\x2=W)/\x3=W)/\x4=W)/\x5=W)/\x6=W)/\x7=W)/\x8=W:=#[Yl (band h).1,(band h).2]
def Ym(h:(x1&&x2&&x3&&x4&&x5&&x6&&x7&&x8&&x9)=W):(((((((x1=W/\x2=W)/\x3=W)/\x4=W)/\x5=W)/\x6=W)/\x7=W)/\x8=W)/\x9=W:=#[aeI (band h).1,(band h).2]
def LO(h:(!a)=W):a=B:=by simpa using h
def no{P:Prop}(h:B=W):P:=aH h bU
section
variable{X:Cx}{T:Tab}{O:M G}{E:XK}
def Ok.mF(ok:Ok X T O E)(h:rW T.sc x=W):Gl X x:=by
 have h:=aE h;rw[<-ok.sc]at h;exact h
def Ok.ny(ok:Ok X T O E)(h:T.bn.contains x=W):X.mg x=S:=ok.bn x (by simpa using h)
def Ok.PJ(ok:Ok X T O E){x:Str}{i:Nat}(h:decide (T.N[i]?=L x)=W):X.N[i]?=L x:=by rw[ok.N];exact aE h
def Ok.zZ(ok:Ok X T O E)(h:rX T.sc T.N scope nl fr=W):uW X.env.scope X.N scope nl fr:=by rw[ok.sc,ok.N];exact IW h
def acK{v:V}(h:acr v c=W):PE X (.Constant c j pos) (λ_ H Q=>Q v H):=by
 cases v<;>cases c<;>first|exact no h|skip
 .exact abB
 .have e:=aE h;subst e;exact aec
 .have e:=aE h;subst e;exact abA
 .have e:=aE h;subst e;exact abC
def ZQ(hN:X.N[i]?=L x)(hv:Rh X.env.scope x)(h1:(x==("__debug__":Str))=B)(h2:(x==("__classdict__":Str))=B):PE X (.Name x p) (λU H Q=>gU U i λv=>Q v H):=by
 intro pins s U H Q I h;refine abz hN hv h1 h2 pins s U H Q I ?_;unfold gU at h;split at h
 .exact#[_,by assumption,h]
 .exact h.elim
set_option tactic.hygienic true in
def aeJ{p pos:Pos}{g:Nat}{es:M Expr}{t:TA}(ok:Ok X T O E)(hx:T.gl[g]?=L x)(hg:Gl X x)(hd:(x==("__debug__":Str))=B)(ha:PA X es t)(hn:es=[]->t=λ_ H Q=>Q [] H)(hs:cM es=W):PE X (.Call (.Name x p) es [] pos) (λU H Q=>match O[g]? with
   |some (.fn sp dvs)=>t U H λvs H1=>sp (vs++dvs) H1 Q E
   |_=>bu):=by
 intro pins s U H Q I h;split at h
 .rename_i sp dvs e;rcases ok.gl g x _ hx e with⟨k,f,fd,ps,ds,q1,q2,q3,q4,q5,q6,q7⟩|⟨e0,C,k,f,fd,ps,spI,q1,q2,q3,q4,q5,q6,q7⟩|q
  rotate_left 2
  .exact q.elim
  .cases es with
   |nil=>
    have e:=hn rfl;subst e;exact UR q1 q2 hg q3 q4 q5 q6 q7 hd pins s U H Q I h
   |cons e er=>
    have hs':noStar e=W/\cM er=W:=by simpa[cM]using hs
    exact Zk q1 q2 hg q3 q4 q5 q6 q7 ha hd (fW hs'.1) (uo hs'.2) pins s U H Q I h
  .subst e0;cases es with
   |nil=>
    have e:=hn rfl;subst e;exact US q4 q1 q2 hg q3 q5 .nil q7 hd pins s U H Q I (q6 _ _ _ _ h)
   |cons e er=>
    have hs':noStar e=W/\cM er=W:=by simpa[cM]using hs
    refine fR (CV I hg q3 ?_ hd);refine Cw I.ok.mod.kin q4.kp (bA (ha pos pins s U H _ I h) λus s1 ⟨vs,H1,I1,r,q⟩=>#[I1.uM,?_]) (fW hs'.1) (uo hs'.2);exact Lh q4 q1 q2 q5 .nil q7 I1 r (q6 _ _ _ _ q)
 .exact h.elim
def ZR{x:Str}(ok:Ok X T O E)(hi:X.N[i]?=L x)(hl:Vk T x=W):PG X (.Name x p) (λv U H Q=>Q (U.set i (L v)) H):=by
 unfold Vk at hl;have hsc:=ok.sc;split at hl
 .rename_i e;rw[<-hsc]at e;exact NU ok.nd hi (.inl e) (.inr e)
 .rename_i e;rw[<-hsc]at e;exact NU ok.nd hi (.inr e) (.inl (ok.own x hl))
 .exact no hl
def pg_tup'{gs:xO}{k:Nat}{pos:Pos}{t:Le}(hc:X.calm=W\/FF X)(h:Fq X es t)(hn:zl es=gs.len)(hs:cM es=W):PG X (.Tuple es k pos) (λv U H Q=>match v with
  |.ref a=>Er X.K H a λt' xs=>t'=W/\zl xs=gs.len/\t xs U H Q
  |_=>bu):=by
 intro pins s U H v u Q I r hw;cases v with
 |ref a=>
  let#[t',xs,hx,ht,hl,hw]:=hw;subst ht;rcases hx.sq with⟨hf,_⟩|⟨_,z⟩
  .cases hf
  .rcases hc with hc|hc
   .exact abH hc h (zX hs).1 (zX hs).2 pins s U H _ u Q I r #[a,xs,rfl,z,by lia,hw]
   .exact hc.elim
 |_=>exact aC hw
set_option tactic.hygienic true in
def pg_sub'{o i:Expr}(hu:X.A.units+60<eS)(hp:zW i=W)(ho:PE X o to)(hi:PE X i ti):PG X (.Subscript o i pos) (λv U H Q=>to U H λx H1=>ti U H1 λy H2=>match x with
  |.ref a=>match H2 a with
   |some (.lst xs)=>∃k j,y=.int k/\iU (zl xs) k=L j/\Q U (upd H2 a (.lst (xs.set j v)))
   |some (.dK kvs)=>∃k,y=kV k/\zl kvs<aj/\Q U (upd H2 a (.dK (putK kvs k v)))
   |some (.dT kvs)=>∃k b,y=.ref b/\H2 b=L (.tup (k.map kV))/\zl kvs<aj/\Q U (upd H2 a (.dT (putK kvs k v)))
   |_=>bu
  |_=>bu):=by
 have hS:OW X (λx y v H2 Q=>match x with
  |.ref a=>match H2 a with
   |some (.lst xs)=>∃k j,y=.int k/\iU (zl xs) k=L j/\Q (upd H2 a (.lst (xs.set j v)))
   |some (.dK kvs)=>∃k,y=kV k/\zl kvs<aj/\Q (upd H2 a (.dK (putK kvs k v)))
   |some (.dT kvs)=>∃k b,y=.ref b/\H2 b=L (.tup (k.map kV))/\zl kvs<aj/\Q (upd H2 a (.dT (putK kvs k v)))
   |_=>bu
  |_=>bu):=by
  intro pins s U H o i v ov iv u Q I ro ri rv h;split at h
  .split at h
   .obtain⟨k,j,rfl,hj,q⟩:=h;exact set_list pins s U H _ _ v ov iv u Q I ro ri rv #[_,_,_,j,rfl,rfl,by assumption,hj,q]
   .rename_i a _ kvs hk;let#[k,rfl,hl,q]:=h;cases ro;exact IP (by lia) I (.inl #[kvs,k,hk,rfl,hl,rfl]) ri rv λs' I'=>#[_,I',q]
   .rename_i a _ kvs hk;let#[k,b,rfl,hb,hl,q]:=h;cases ro;exact IP (by lia) I (.inr #[kvs,k,b,hk,rfl,hb,hl,rfl]) ri rv λs' I'=>#[_,I',q]
   .exact h.elim
  .exact h.elim
 intro pins s U H v u Q I r h;refine abI ho hi hS (λ_=>by cases i<;>first|rfl|exact no hp) pins s U H v u Q I r ?_;exact h
def iX:PT X e (λ_ _ _=>bu):=λ_ _ _ _ _ _ h=>h.elim
def acL(hc:PT X c tc)(ha:PT X a ta)(hb:PT X b tb):PT X (.IfExp c a b pos) (λU H Q=>tc U H λk H1=>if k=W then ta U H1 Q else tb U H1 Q):=by
 intro pins s U H Q I h;refine isTrue_IfExp (bA (hc pins s U H _ I h) λd s1 ⟨H1,I1,q1⟩=>?_);cases d with
 |true=>exact ha pins s1 U H1 Q I1 q1
 |false=>exact hb pins s1 U H1 Q I1 q1
theorem Of{K:ak}{Q:Bool->Hp->Prop}:wT K O E (.call g as) U H Q=wE K O E (.call g as) U H (λx H2=>qh K x H2 λb=>Q b H2):=by
 rfl
def ZS(ok:Ok X T O E)(h:PE X e (wE X.K O E (.call g as)))(he:∀whole,Cs e X.env whole=(do let v <-whole;Iq e.pos;zx [v] (MX v))):PT X e (wT X.K O E (.call g as)):=by
 have z:=pt_val' h he;intro pins s U H Q I q;rw[Of]at q;exact z pins s U H Q I q
def po_some'(h:PE X e te):PO X (L e) (λU H Q=>te U H λx H1=>match x with
  |.int i=>Q (L i) H1
  |_=>bu):=by
 intro pins s U H Q I q;rw[evalPart_some];refine bA (h pins s U H _ I q) λv s1 ⟨x,H1,I1,r1,q1⟩=>?_;cases x with
 |int i=>
  let#[t,rfl]:=r1;exact#[L i,H1,I1,.int i t,q1]
 |_=>lia
def pgs_nil':Fq X [] (λvs U H Q=>match vs with
  |[]=>Q U H
  |_=>bu):=by
 intro pins s U H vs us Q I r h;cases vs with
 |nil=>exact Zd pins s U H [] us Q I r #[rfl,h]
 |cons v vr=>lia
def pgs_cons'(h1:PG X e t)(h2:Fq X es u)(hs:noStar e=W):Fq X (e::es) (λvs U H Q=>match vs with
  |v::vr=>t v U H fun σ' H'=>u vr σ' H' Q
  |_=>bu):=by
 intro pins s U H vs us Q I r h;cases vs with
 |nil=>lia
 |cons v vr=>exact UL h1 h2 (by rw[l0 hs];rfl) pins s U H (v::vr) us Q I r #[v,vr,rfl,h]
theorem Yn:∀(gs:xO) (es:M Expr),KG T gs es=W->zl es=gs.len
|.nil,es,h=>by
 cases es with
 |nil=>rfl
 |cons e er=>exact no h
|.cons g r,es,h=>by
 cases es with
 |nil=>exact no h
 |cons e er=>
  let#[_,h2]:=band h;show zl er+1=r.len+1;rw[Yn r er h2]
def Yo(as:iV)(es:M Expr){X:Cx}(h:sU T as es=W):es=[]->wEs X.K O E as=λ_ H Q=>Q [] H:=by
 rintro rfl;cases as with
 |nil=>rfl
 |cons a r=>exact no h
def LP(h:wx sc N scope x fr=W):Px sc N scope x fr:=by
 unfold wx at h;simp only[cu,eF,vL,bz]at h;let#[#[#[#[#[h1,h2],h3],h4],h5],h6]:=h;exact#[IW h1,h2,h3,h4,h5,h6]
def ZT(ok:Ok X T O E)(abk:LM X P)(h:wx T.sc T.N sc x fr=W)(f:Addr)(cd:Z)(s:ay)(H:Hp):Ok (C1 X X.A.in1.in1 (x::gz X.N [] fr) (X.env.qual++"<lambda>") sc f cd s H) (Pq T sc x fr) O E0:=by
 have abr:=LP h;refine#[?_,?_,rfl,abr.kind,λi y g hx _=>aH (show([]:M Str)[i]?=L y from hx) (by simp),ok.bn,(λ_ z=>nomatch z),λ_=>rfl,(λz=>nomatch z),G9,?_]
 .show x::gz X.N [] fr=x::gz T.N [] fr;rw[ok.N]
 .rw[ok.N];unfold wx rX at h;simp only[cu,eF]at h;exact bX.mpr #[abr.nd,h.1.1.1.1.1.2]
 .have:=abk.un;show X.A.units+1+1+3+60<eS
  lia
def LQ{α:Type}{a:α}{P:Prop}(h:(S:abM α)=L a):P:=nomatch h
def lH{α β:Type}{o:abM α}{f:α->abM β}{b:β}(h:o.bind f=L b):∃a,o=L a/\f a=L b:=by
 cases o with
 |none=>cases h
 |some a=>exact#[a,rfl,h]
def Yp{e:Expr}{a}(h:cP e=L a):e=.Call a.1 a.2.1 a.2.2.1 a.2.2.2:=by
 cases e<;>first|exact LQ h|(cases h;rfl)
def PK{e:Expr}{a}(h:nP e=L a):e=.Name a.1 a.2:=by
 cases e<;>first|exact LQ h|(cases h;rfl)
def aeK{e:Expr}{a}(h:aP e=L a):e=.Attribute a.1 a.2.1 a.2.2:=by
 cases e<;>first|exact LQ h|(cases h;rfl)
def aeL{e:Expr}{a}(h:mP e=L a):e=.Lambda a.1 a.2.1 a.2.2.1 a.2.2.2:=by
 cases e<;>first|exact LQ h|(cases h;rfl)
def BA{α:Type}{l:M α}{c:α}(h:Oc l=L c):l=[c]:=by
 rcases l with _|⟨_,_|_⟩<;>first|exact LQ h|(cases h;rfl)
def qC{α:Type}{l:M α}{c}(h:Bt l=L c):l=[]:=by
 cases l<;>first|exact LQ h|rfl
def RY{α:Type}{l:abM α}{c}(h:n0P l=L c):l=S:=by
 cases l<;>first|exact LQ h|rfl
def LR{e:Expr}{w}(h:Yj e=L w):e=.Call (.Name w.1.1 w.1.2) [.Call w.2.2.1 w.2.2.2.1 w.2.2.2.2.1 w.2.2.2.2.2] w.2.1.1 w.2.1.2:=by
 let#[a,h1,h]:=lH h;let#[x,h2,h]:=lH h;let#[c,h3,h]:=lH h;let#[b,h4,h]:=lH h;cases h;rw[Yp h1,PK h2,BA h3,Yp h4]
def ZU(h:Pr e=L (x,y,n,z,l)):∃px py p2 kp p,e=.Call (.Name x px) [.Call (.Name y py) [n] [] p2] [#[L z,l,kp]] p:=by
 let#[w,h1,h]:=lH h;let#[#[z',l',kp],h4,h]:=lH h;let#[_,h5,h]:=lH h;let#[y',h7,h]:=lH h;let#[n',h8,h]:=lH h;let#[_,h9,h]:=lH h;cases h;cases(show z'=_ from h5);exact#[_,_,_,_,_,by rw[LR h1,BA h4,PK h7,BA h8,qC h9]]
def ZV(h:Pu e=L (x,y,l,b)):∃px py p2 p,e=.Call (.Name x px) [.Call (.Attribute l y py) [] [] p2] [] p/\(py.endLine==p2.line)=b:=by
 let#[w,h1,h]:=lH h;let#[_,h4,h]:=lH h;let#[q,h7,h]:=lH h;let#[_,h8,h]:=lH h;let#[_,h9,h]:=lH h;cases h;exact#[_,q.2.2,_,_,by rw[LR h1,qC h4,aeK h7,qC h8,qC h9],rfl]
def Og(h:EA e=L (x,y,l)):∃px py p2 p,e=.Call (.Name x px) [.Call (.Name y py) [l] [] p2] [] p:=by
 let#[w,h1,h]:=lH h;let#[_,h4,h]:=lH h;let#[q,h7,h]:=lH h;let#[_,h8,h]:=lH h;let#[_,h9,h]:=lH h;cases h;exact#[_,_,_,_,by rw[LR h1,qC h4,PK h7,BA h8,qC h9]]
def aeM{a:sd}{v}(h:gP a=L v):a=yX v.arg v.annotation v.pos:=by
 let#[_,h2,h]:=lH h;let#[_,h3,h]:=lH h;let#[_,h4,h]:=lH h;let#[_,h5,h]:=lH h;let#[_,h6,h]:=lH h;let#[_,h7,h]:=lH h;let#[_,h8,h]:=lH h;cases h;cases a;cases v;exact congr (congr (congr (congr (congr (congr (jc _ (qC h2)) (BA h3)) (RY h4)) (qC h5)) (qC h6)) (RY h7)) (qC h8)
def ZW(h:LK l=L (v,b,sc)):∃an ap lp,l=.Lambda (yX v an ap) b sc lp:=by
 let#[a,h1,h]:=lH h;let#[v,h2,h]:=lH h;cases h;exact#[_,_,_,by rw[aeL h1,aeM h2]]
def BB(h:Bu T x y=W):x=y/\rW T.sc x=W/\T.bn.contains x=W:=by
 let#[#[h1,h2],h3]:=sW h;exact#[aE h1,h2,h3]
def Ok.jO(ok:Ok X T O E)(h:decide (g<zl T.gl)=W):∀C as,O[g]?=L (G.jO C as)->AB X.K C/\∀f∈as,nN X.K C f:=λC as e=>by
 have hl:=aE h;exact ok.gl g (T.gl[g]) _ (aq hl) e
def hid{α:Type}{G:α->Prop}{e:α}(h:∀P:α->Prop,(∀x,G x->P x)->P e):G e:=h G λ_ h=>h
set_option tactic.hygienic true in
mutual
theorem dU:∀(c:CE) (e:Expr) {X:Cx}{T:Tab}{E:XK},Ok X T O E->cX T c e=W->PE X e (wE X.K O E c)/\PT X e (wT X.K O E c)/\∀op vs p,e=.BoolOp op vs p->PW X e (wT X.K O E c)
|.var i,e,X,T,E,ok,h=>by
 let#[h0,h]:=band h;revert h;refine gj e (eq_of_beq h0) ?_;intro x p h;let#[#[#[h1,h2],h3],h4]:=qV h;rw[<-ok.sc]at h2;have z':PE X (.Name x p) (wE X.K O E (.var i)):=ZQ (ok.PJ h1) (acz h2) (LO h3) (LO h4);exact#[z',pt_val' z' (λ_=>rfl),λ_ _ _ z=>nomatch z]
|.con v,e,X,T,E,ok,h=>by
 let#[h0,h]:=band h;revert h;refine Ur e (eq_of_beq h0) ?_;intro _ _ _ h;exact#[acK h,iX,λ_ _ _ z=>nomatch z]
|.bin op a b,e,X,T,E,ok,h=>by
 let#[h0,h]:=band h;revert h;refine Y5 e (eq_of_beq h0) ?_;intro l o r p h;let#[#[h1,h2],h3]:=sW h;have e:=aE h1;subst e;exact#[aek (aex op) (dU a l ok h2).1 (dU b r ok h3).1,iX,λ_ _ _ z=>nomatch z]
|.neg a,e,X,T,E,ok,h=>by
 let#[h0,h]:=band h;revert h;refine Dv e (eq_of_beq h0) ?_;intro op l p h;cases op<;>first|exact no h|skip
 exact#[pe_neg' (dU a l ok h).1,iX,λ_ _ _ z=>nomatch z]
|.not a,e,X,T,E,ok,h=>by
 let#[h0,h]:=band h;revert h;refine Dv e (eq_of_beq h0) ?_;intro op l p h;cases op<;>first|exact no h|skip
 exact#[pe_not' (dU a l ok h).1,abD (dU a l ok h).2.1,λ_ _ _ z=>nomatch z]
|.and a b,e,X,T,E,ok,h=>by
 let#[h0,h]:=band h;revert h;refine Fi e (eq_of_beq h0) ?_;intro op vs p h;cases op<;>first|exact no h|skip
 match vs,h with
 |[x,y],h=>
  let#[h1,h2]:=band h;have w:=pw_and (pos:=p) (dU a x ok h1).2.1 (pw_and1 (dU b y ok h2).2.1);exact#[pe_and' (dU a x ok h1).1 (Ri (dU b y ok h2).1),w.pt,λ_ _ _ _=>w]
 |x::y::z::r,h=>
  let#[h1,h2]:=band h;have w:=pw_and (dU a x ok h1).2.1 ((dU b _ ok h2).2.2 _ _ _ rfl);exact#[pe_and' (dU a x ok h1).1 (dU b _ ok h2).1,w.pt,λ_ _ _ _=>w]
 |[],h=>exact no h
 |[x],h=>exact no h
|.or a b,e,X,T,E,ok,h=>by
 let#[h0,h]:=band h;revert h;refine Fi e (eq_of_beq h0) ?_;intro op vs p h;cases op<;>first|exact no h|skip
 match vs,h with
 |[x,y],h=>
  let#[h1,h2]:=band h;have w:=pw_or (pos:=p) (dU a x ok h1).2.1 (pw_or1 (dU b y ok h2).2.1);exact#[pe_or' (dU a x ok h1).1 (Ri (dU b y ok h2).1),w.pt,λ_ _ _ _=>w]
 |x::y::z::r,h=>
  let#[h1,h2]:=band h;have w:=pw_or (dU a x ok h1).2.1 ((dU b _ ok h2).2.2 _ _ _ rfl);exact#[pe_or' (dU a x ok h1).1 (dU b _ ok h2).1,w.pt,λ_ _ _ _=>w]
 |[],h=>exact no h
 |[x],h=>exact no h
|.ite c a b,e,X,T,E,ok,h=>by
 let#[h0,h]:=band h;revert h;refine Y6 e (eq_of_beq h0) ?_;intro t x y p h;let#[#[h1,h2],h3]:=sW h;exact#[UG (dU c t ok h1).2.1 (dU a x ok h2).1 (dU b y ok h3).1,acL (dU c t ok h1).2.1 (dU a x ok h2).2.1 (dU b y ok h3).2.1,λ_ _ _ z=>nomatch z]
|.cmp op a b,e,X,T,E,ok,h=>by
 let#[h0,h]:=band h;revert h;refine UD e (eq_of_beq h0) ?_;intro l os rs p h
 match os,rs,h with
 |[o],[r],h=>
  let#[#[#[h1,h2],h3],h4]:=qV h;have e:=aE h1;subst e;exact#[Zh (Yd ok.room op) (dU a l ok h3).1 (dU b r ok h4).1 (LO h2),pt_cmp' ok.room (dU a l ok h3).1 (dU b r ok h4).1 (LO h2),λ_ _ _ z=>nomatch z]
 |[],_,h=>exact no h
 |_::_::_,_,h=>exact no h
 |[_],[],h=>exact no h
 |[_],_::_::_,h=>exact no h
|.call g as,e,X,T,E,ok,h=>by
 let#[h0,h]:=band h;let#[hf,h]:=band h;revert hf h;refine m9 e (eq_of_beq h0) ?_;intro f es kw p hf h;revert h;refine gj f (eq_of_beq hf) ?_;intro x px h;cases kw<;>first|exact no h|skip
 let#[#[#[#[h1,h2],h3],h4],h5]:=C2 h;have z':PE X (.Call (.Name x px) es [] p) (wE X.K O E (.call g as)):=aeJ ok (aE h1) (ok.mF h2) (LO h3) (BC as es ok h4 h5) (Yo as es h5) h4;exact#[z',ZS ok z' (λ_=>rfl),λ_ _ _ z=>nomatch z]
|.blt f as,e,X,T,E,ok,h=>by
 let#[h0,h]:=band h;let#[hf,h]:=band h;revert hf h;refine m9 e (eq_of_beq h0) ?_;intro fn es kw p hf h;revert h;refine gj fn (eq_of_beq hf) ?_;intro x px h;cases kw<;>first|exact no h|skip
 let#[hcm,h]:=band h;let#[#[#[#[#[h1,h2],h3],h4],h5],h6]:=FN h;cases es with
 |nil=>exact no h5
 |cons e er=>
  have hb:mE X f.val (zR X.K f):=by
   rcases oF.mp hcm with hcm|hcm
   .exact aeA (ok.calm hcm) ok.room f
   .exact(ok.semi (band hcm).1).elim
  have z':PE X (.Call (.Name x px) (e::er) [] p) (wE X.K O E (.blt f as)):=acC hb (ok.mF h2) (aE h1) (ok.ny h3) (BC as _ ok h4 h6) h4;exact#[z',pt_val' z' (λ_=>rfl),λ_ _ _ z=>nomatch z]
|.isi a t,e,X,T,E,ok,h=>by
 let#[h0,h]:=band h;let#[hf,h]:=band h;let#[ha,h]:=band h;revert hf ha h;refine m9 e (eq_of_beq h0) ?_;intro fn es kw p hf ha h;revert h;refine gj fn (eq_of_beq hf) ?_;intro x px h
 match es,ha,h with
 |[],ha,h=>exact no ha
 |[_],ha,h=>exact no ha
 |_::_::_::_,ha,h=>exact no ha
 |[l,c],ha,h=>
  revert h;refine gj c (eq_of_beq ha) ?_;intro y py h;cases kw<;>first|exact no h|skip
  let#[#[#[#[#[#[#[#[h1,h2],h3],h4],h5],h6],h7],h8],h9]:=Ym h;have z':PE X (.Call (.Name x px) [l,.Name y py] [] p) (wE X.K O E (.isi a t)):=acB (ok.mF h2) (aE h1) (ok.ny h3) (ok.mF h6) (aE h4) (aE h5) (ok.ny h7) (dU a l ok h9).1 h8;exact#[z',pt_val' z' (λ_=>rfl),λ_ _ _ z=>nomatch z]
|.mth m o as,e,X,T,E,ok,h=>by
 let#[h0,h]:=band h;let#[hf,h]:=band h;revert hf h;refine m9 e (eq_of_beq h0) ?_;intro fn es kw p hf h;revert h;refine A4 fn (eq_of_beq hf) ?_;intro l nm ap h;cases kw<;>first|exact no h|skip
 let#[#[#[#[#[#[h1,h2],h3],h4],h5],h6],h7]:=Yl h;have e:=aE h1;subst e;have ho:=(dU o l ok h6).1;have ha:=BC as es ok h4 h7;cases es with
 |nil=>
  have q:=Yo (X:=X) (O:=O) (E:=E) as [] h7 rfl;have z:=ZI ok.room (m:=m) (apos:=ap) (cpos:=p) ho h2 h3;have z':PE X (.Call (.Attribute l m.name ap) [] [] p) (wE X.K O E (.mth m o as)):=by
   show PE X _ (λU H Q=>wE X.K O E o U H λx H1=>xP m x H1/\wEs X.K O E as U H1 λvs H2=>yu X.K m x vs H2 Q);rw[q];exact z
  exact#[z',pt_val' z' (λ_=>rfl),λ_ _ _ z=>nomatch z]
 |cons e er=>
  have z':PE X (.Call (.Attribute l m.name ap) (e::er) [] p) (wE X.K O E (.mth m o as)):=acA ok.room ho ha h2 h3 h4 (aE h5);exact#[z',pt_val' z' (λ_=>rfl),λ_ _ _ z=>nomatch z]
|.ix a b,e,X,T,E,ok,h=>by
 let#[h0,h]:=band h;revert h;refine oG e (eq_of_beq h0) ?_;intro l r p h;let#[#[h1,h2],h3]:=sW h;have z':PE X (.Subscript l r p) (wE X.K O E (.ix a b)):=aes (ixOk ok.room) (dU a l ok h2).1 (dU b r ok h3).1 (Pw h1);exact#[z',pt_val' z' (λ_=>rfl),λ_ _ _ z=>nomatch z]
|.sl a lo hi,e,X,T,E,ok,h=>by
 let#[h0,h]:=band h;let#[hf,h]:=band h;revert hf h;refine oG e (eq_of_beq h0) ?_;intro l r p hf h;revert h;refine Y7 r (eq_of_beq hf) ?_;intro x y st ps h;cases st<;>first|exact no h|skip
 let#[#[h1,h2],h3]:=sW h;exact#[UT slOk (dU a l ok h1).1 (okO lo x ok h2) (okO hi y ok h3),iX,λ_ _ _ z=>nomatch z]
|.lst as,e,X,T,E,ok,h=>by
 let#[h0,h]:=band h;revert h;refine abn e (eq_of_beq h0) ?_;intro _ _ h;let#[h1,h2]:=band h;exact#[ab0 (BC as _ ok h1 h2),iX,λ_ _ _ z=>nomatch z]
|.tup as,e,X,T,E,ok,h=>by
 let#[h0,h]:=band h;revert h;refine yl e (eq_of_beq h0) ?_;intro _ _ _ h;let#[h1,h2]:=band h;exact#[abZ (BC as _ ok h1 h2),iX,λ_ _ _ z=>nomatch z]
|.dct,e,X,T,E,ok,h=>by
 let#[h0,h]:=band h;revert h;refine abo e (eq_of_beq h0) ?_;intro ks vs p h
 match ks,vs,h with
 |[],[],_=>exact#[UY,iX,λ_ _ _ z=>nomatch z]
 |[],_::_,h=>exact no h
 |_::_,_,h=>exact no h
|.comp nl fr elt tg src cond,e,X,T,E,ok,h=>by
 let#[h0,h]:=band h;revert h;refine CN e (eq_of_beq h0) ?_;intro l gs sc p h
 match gs,h with
 |[],h=>exact no h
 |⟨_,_,_,.ofNat 0⟩::_::_,h=>exact no h
 |⟨_,_,_,.ofNat (n+1)⟩::_,h=>exact no h
 |⟨_,_,_,.negSucc n⟩::_,h=>exact no h
 |[#[t,it,ifs,.ofNat 0]],h=>
  let#[hcm,h]:=band h;let#[#[#[#[#[h2,h3],h4],h5],h6],h7]:=FN h;let#[h3,h3']:=band h3;rcases oF.mp hcm with hcm|hcm
  .obtain⟨hcm,hns⟩:=band hcm;have hns:T.semi=W->bu:=λz=>by rw[z]at hns;cases hns
   exact#[ZG (ok.calm hcm) (ok.zZ h2) (okI src it h3' ok h4) (Bv h3) (λC aho H ex=>FO tg t (um ok h2 C aho H ex (λz=>(hns z).elim) (.inl hcm)) h5) (λC aho H ex=>okC cond ifs (um ok h2 C aho H ex (λz=>(hns z).elim) (.inl hcm)) h6)
    (λC aho H ex=>(dU elt l (um ok h2 C aho H ex (λz=>(hns z).elim) (.inl hcm)) h7).1),iX,λ_ _ _ z=>nomatch z]
  .exact(ok.semi (band hcm).1).elim
|.trg as,e,X,T,E,ok,h=>by
 cases e<;>first|exact no h|skip
 rename_i fn es kw p;cases fn<;>first|exact no h|skip
 rename_i x px
 match es,h with
 |[],h=>exact no h
 |e::er,h=>
  cases e<;>first|exact no h|skip
  rename_i fn es kw2 p2;cases fn<;>first|exact no h|skip
  rename_i y py;cases kw2<;>first|exact no h|skip
  cases er<;>first|exact no h|skip
  cases kw<;>first|exact no h|skip
  let#[hcm,h]:=band h;let#[#[#[#[#[#[#[#[h1,h2],h3],h4],h5],h6],h7],h8],h9]:=Ym h;have e1:=aE h1;have e2:=aE h4;subst e1 e2;cases es with
  |nil=>exact no h8
  |cons e er=>exact#[acE (ok.calm hcm) (ok.mF h2) (ok.ny h3) (ok.mF h5) (ok.ny h6) (BC as _ ok h7 h9) h7,iX,λ_ _ _ z=>nomatch z]
|.skl g fr n body,e,X,T,E,ok,h=>by
 have hk:(match Pr e with
  |some (x,y,ne,z,l)=>match LK l with
   |some (v,b,sc)=>T.calm&&!T.semi&&(decide (x=("sorted":Str))&&rW T.sc x&&T.bn.contains x&&decide (y=("range":Str))&&rW T.sc y&&T.bn.contains y&&noStar ne&&decide (z=("key":Str))&&cX T n ne)&&(decide (g<zl T.gl)&&wx T.sc T.N sc v fr&&cX (Pq T sc v fr) body b)
   |none=>B
  |none=>B)=W:=h
 cases e0:Pr e with
 |none=>rw[e0]at hk;exact no hk
 |some xs=>
  let#[x,y,ne,z,l]:=xs;rw[e0]at hk;replace hk:(match LK l with
   |some (v,b,sc)=>T.calm&&!T.semi&&(decide (x=("sorted":Str))&&rW T.sc x&&T.bn.contains x&&decide (y=("range":Str))&&rW T.sc y&&T.bn.contains y&&noStar ne&&decide (z=("key":Str))&&cX T n ne)&&(decide (g<zl T.gl)&&wx T.sc T.N sc v fr&&cX (Pq T sc v fr) body b)
   |none=>B)=W:=hk
  let#[px,py,p2,kp,p,rfl]:=ZU e0;refine#[?_,iX,λ_ _ _ z=>nomatch z];cases e1:LK l with
  |none=>rw[e1]at hk;exact no hk
  |some vbs=>
   let#[v,b,sc]:=vbs;rw[e1]at hk;simp only[cu]at hk;let#[#[#[hcm,_],#[#[#[#[#[#[#[#[h1,h2],h3],h4],h5],h6],h7],h8],h9]],#[#[h10,h11],h12]]:=hk;let#[an,ap,lp,rfl]:=ZW e1;have e2:=aE h1;have e3:=aE h4;have e4:=aE h8;subst e2 e3 e4;intro pins s U H Q I hw;have hw:(match O[g]? with
    |some (.lam _)=>Ph (wE X.K O E n) (wE X.K O E0 body) fr U H Q
    |_=>bu):=hw
   split at hw
   .rename_i P eg;have abk:LM X P:=ok.gl g (T.gl[g]'(aE h10)) _ (aq _) eg;exact acF (ok.calm hcm) abk (by rw[ok.sc,ok.N];exact LP h11) (ok.mF h2) (ok.ny h3) (ok.mF h5) (ok.ny h6) (dU n ne ok h9).1 h7 (λf cd s H=>(dU body b (ZT ok abk h11 f cd s H) h12).1) pins s U H Q I hw
   .exact hw.elim
|.sit a,e,X,T,E,ok,h=>by
 have hk:(match Pu e with
  |some (x,y,l,b)=>T.calm&&(Bu T x "sorted"&&decide (y=("items":Str))&&b&&vP l&&cX T a l)
  |none=>B)=W:=h
 cases e0:Pu e with
 |none=>rw[e0]at hk;exact no hk
 |some xs=>
  let#[x,y,l,b]:=xs;rw[e0]at hk;let#[px,py,p2,p,rfl,rfl]:=ZV e0;let#[hcm,hk]:=band hk;let#[#[#[#[h1,h4],h5],h6],h7]:=C2 hk;let#[rfl,h1,h2]:=BB h1;obtain rfl:=aE h4;exact#[acI (ok.calm hcm) (ok.mF h1) (ok.ny h2) (dU a l ok h7).1 h6 h5,iX,λ_ _ _ z=>nomatch z]
|.lrv a,e,X,T,E,ok,h=>by
 have hk:(match EA e with
  |some (x,y,l)=>T.calm&&(Bu T x "list"&&Bu T y "reversed"&&noStar l&&cX T a l)
  |none=>B)=W:=h
 cases e0:EA e with
 |none=>rw[e0]at hk;exact no hk
 |some xs=>
  let#[x,y,l]:=xs;rw[e0]at hk;let#[px,py,p2,p,rfl]:=Og e0;let#[hcm,hk]:=band hk;let#[#[#[h1,h4],h5],h7]:=qV hk;let#[rfl,h1,h2]:=BB h1;let#[rfl,h3,h4]:=BB h4;exact#[acH (ok.calm hcm) (ok.mF h1) (ok.ny h2) (ok.mF h3) (ok.ny h4) (dU a l ok h7).1 h5,iX,λ_ _ _ z=>nomatch z]
|.dcT,e,X,T,E,ok,h=>by
 cases e<;>first|exact no h|skip
 rename_i ks vs p
 match ks,vs,h with
 |[],[],_=>exact#[UZ,iX,λ_ _ _ z=>nomatch z]
 |[],_::_,h=>exact no h
 |_::_,_,h=>exact no h
|.att g a f,e,X,T,E,ok,h=>by
 let#[h0,h]:=band h;revert h;refine A4 e (eq_of_beq h0) ?_;intro l nm p h
 .skip
  let#[#[#[h1,h2],h3],h4]:=qV h;have e:=aE h1;subst e;exact#[acD (ok.jO h4) (dU a l ok h3).1 h2,iX,λ_ _ _ z=>nomatch z]
theorem BC:∀(cs:iV) (es:M Expr) {X:Cx}{T:Tab}{E:XK},Ok X T O E->cM es=W->sU T cs es=W->PA X es (wEs X.K O E cs)
|.nil,es,X,T,E,ok,hs,h=>by
 cases es with
 |nil=>exact Lg
 |cons e er=>exact no h
|.cons a r,es,X,T,E,ok,hs,h=>by
 cases es with
 |nil=>exact no h
 |cons e er=>
  let#[h1,h2]:=band h;have hs':noStar e=W/\cM er=W:=by simpa[cM]using hs
  exact Hl (dU a e ok h1).1 (BC r er ok hs'.2 h2) (fW hs'.1)
theorem okO:∀(c:CO) (e:abM Expr) {X:Cx}{T:Tab}{E:XK},Ok X T O E->Vm T c e=W->PO X e (wO X.K O E c)
|.none,e,X,T,E,ok,h=>by
 cases e with
 |none=>exact Zn
 |some x=>exact no h
|.some a,e,X,T,E,ok,h=>by
 cases e with
 |none=>exact no h
 |some x=>exact po_some' (dU a x ok h).1
theorem okC:∀(c:CO) (es:M Expr) {X:Cx}{T:Tab}{E:XK},Ok X T O E->acu T c es=W->Ob X es (wC X.K O E c)
|.none,es,X,T,E,ok,h=>by
 cases es with
 |nil=>exact ZE
 |cons x r=>exact no h
|.some a,es,X,T,E,ok,h=>by
 match es,h with
 |[x],h=>exact ZF (dU a x ok h).2.1
 |[],h=>exact no h
 |_::_::_,h=>exact no h
theorem FO:∀(c:CG) (e:Expr) {X:Cx}{T:Tab}{E:XK},Ok X T O E->yw T c e=W->PG X e (wG X.K O E c)
|.name i,e,X,T,E,ok,h=>by
 let#[h0,h]:=band h;revert h;refine gj e (eq_of_beq h0) ?_;intro _ _ h;let#[h1,h2]:=band h;exact ZR ok (ok.PJ h1) h2
|.tup gs,e,X,T,E,ok,h=>by
 let#[h0,h]:=band h;revert h;refine yl e (eq_of_beq h0) ?_;intro _ _ _ h;let#[hcm,h]:=band h;let#[h1,h2]:=band h;exact pg_tup' ((oF.mp hcm).imp ok.calm ok.semi) (acN gs _ ok h1 h2) (Yn gs _ h2) h1
|.sub o i,e,X,T,E,ok,h=>by
 let#[h0,h]:=band h;revert h;refine oG e (eq_of_beq h0) ?_;intro _ _ _ h;let#[#[h1,h2],h3]:=sW h;exact pg_sub' ok.room h1 (dU o _ ok h2).1 (dU i _ ok h3).1
theorem acN:∀(cs:xO) (es:M Expr) {X:Cx}{T:Tab}{E:XK},Ok X T O E->cM es=W->KG T cs es=W->Fq X es (N7 X.K O E cs)
|.nil,es,X,T,E,ok,hs,h=>by
 cases es with
 |nil=>exact pgs_nil'
 |cons e er=>exact no h
|.cons g r,es,X,T,E,ok,hs,h=>by
 cases es with
 |nil=>exact no h
 |cons e er=>
  let#[h1,h2]:=band h;have hs':noStar e=W/\cM er=W:=by simpa[cM]using hs
  exact pgs_cons' (FO g e ok h1) (acN r er ok hs'.2 h2) hs'.1
theorem okI:∀(c:CI) (e:Expr) {tg:Expr}{X:Cx}{T:Tab}{E:XK},Vl c tg=W->Ok X T O E->Vn T c e=W->DJ X tg e (wI X.K O E c)
|.seq a,e,tg,X,T,E,_,ok,h=>ZC (dU a e ok h).1
|.range as,e,tg,X,T,E,_,ok,h=>by
 let#[h0,h]:=band h;let#[hf,h]:=band h;revert hf h;refine m9 e (eq_of_beq h0) ?_;intro fn es kw p hf h;revert h;refine gj fn (eq_of_beq hf) ?_;intro x px h;cases kw<;>first|exact no h|skip
 .skip
  let#[#[#[#[#[h1,h2],h3],h4],h5],h6]:=FN h;have e:=aE h1;subst e;cases es with
  |nil=>exact no h5
  |cons e er=>
   have hs':noStar e=W/\cM er=W:=by simpa[cM]using h4
   exact RS (ok.mF h2) (ok.ny h3) (BC as _ ok h4 h6) (fW hs'.1) (uo hs'.2)
|.enum a,e,tg,X,T,E,tb,ok,h=>by
 cases tg<;>first|exact no tb|skip
 let#[h0,h]:=band h;let#[hf,h]:=band h;revert hf h;refine m9 e (eq_of_beq h0) ?_;intro fn es kw p hf h;revert h;refine gj fn (eq_of_beq hf) ?_;intro x px h
 match es,h with
 |[],h=>exact no h
 |_::_::_,h=>exact no h
 |[l],h=>
  cases kw<;>first|exact no h|skip
  let#[#[#[#[h1,h2],h3],h4],h5]:=C2 h;have e:=aE h1;subst e;exact Vh (ok.mF h2) (ok.ny h3) (dU a l ok h5).1 (by rw[fW h4];rfl)
|.rev a,e,tg,X,T,E,tb,ok,h=>by
 cases e<;>first|exact no h|skip
 rename_i fn es kw p;cases fn<;>first|exact no h|skip
 rename_i x px
 match es,h with
 |[],h=>exact no h
 |_::_::_,h=>exact no h
 |[l],h=>
  cases kw<;>first|exact no h|skip
  let#[#[#[#[h1,h2],h3],h4],h5]:=C2 h;have e:=aE h1;subst e;exact ZD (ok.mF h2) (ok.ny h3) (dU a l ok h5).1 (by rw[fW h4];rfl)
|.rrg a,e,tg,X,T,E,tb,ok,h=>by
 have hk:(match EA e with
  |some (x,y,l)=>Bu T x "reversed"&&Bu T y "range"&&noStar l&&cX T a l
  |none=>B)=W:=h
 cases e0:EA e with
 |none=>rw[e0]at hk;exact no hk
 |some xs=>
  let#[x,y,l]:=xs;rw[e0]at hk;let#[px,py,p2,p,rfl]:=Og e0;let#[#[#[h1,h4],h5],h7]:=qV hk;let#[rfl,h1,h2]:=BB h1;let#[rfl,h3,h4]:=BB h4;exact ZN (ok.mF h1) (ok.ny h2) (ok.mF h3) (ok.ny h4) (dU a l ok h7).1 h5
|.kys a,e,tg,X,T,E,tb,ok,h=>RX (dU a e ok h).1
end
end
def LS(h:p≠a):upd (upd H a o) p u=upd (upd H p u) a o:=by
 funext b;by_cases hb:b=p
 .subst hb;rw[bQ,aY h,bQ]
 .rw[aY hb];by_cases ha:b=a
  .subst ha;rw[bQ,bQ]
  .rw[aY ha,aY ha,aY hb]
section
variable{P:bO}{w:bL}{H:Hp}{h:Heap}{a:Addr}{ob:Obj}{kvs:M (M Key×V)}
def I_(e1:H a=L (.dT kvs))(x:fX P w (upd H a (.bq ob (.dT kvs))) h b o):fX P w H h b o:=by
 have ht:∀c xs,upd H a (.bq ob (.dT kvs)) c=L (.tup xs)->H c=L (.tup xs):=λc xs q=>by
  by_cases hc:c=a
  .subst hc;rw[bQ]at q;cases q
  .rw[aY hc]at q;exact q
 have ho:∀c y,upd H a (.bq ob (.dT kvs)) c=L (.own y)->H c=L (.own y):=λc y q=>by
  by_cases hc:c=a
  .subst hc;rw[bQ]at q;cases q
  .rw[aY hc]at q;exact q
 induction o with
 |dT kvs=>
  let#[z,y,xs,r,ob,es,ep,e,c]:=x;exact#[z,y,xs,Paired.Hh r λp q z=>#[z.1,ht _ _ z.2.1,z.2.2],ob,es,ep,e,c]
 |ins C dx fs=>exact#[ho _ _ x.1,x.2]
 |bq ob u ih=>exact#[x.1,ih x.2]
 |tbl ps=>
  let#[qs,e,t,c]:=x;refine#[qs,e,t,λpos cv q=>?_];let#[c',oc,vs,tq,rfl,e2,z]:=c pos cv q;refine#[c',oc,vs,tq,rfl,?_,z];by_cases hc:c'=a
  .subst hc;rw[bQ]at e2;cases e2
  .rw[aY hc]at e2;exact e2
 |_=>exact x
def RZ(e1:H a=L (.dT kvs))(x:gR P w (upd H a (.bq ob (.dT kvs))) h):gR P w H h:=λb o e=>by
 by_cases hb:b=a
 .subst hb;rw[e1]at e;cases e;exact I_ e1 (x b _ bQ).2
 .exact I_ e1 (x b o (by rw[aY hb];exact e))
end
section
variable{X:Cx}{pins:M (Addr×Obj)}{U σ0:L2.St}{H H0:Hp}{s s0:ay}{a:Addr}{ob:Obj}{kvs:M (M Key×V)}
def Inv.aeN(I0:L2.Inv X pins σ0 H0 s0)(e0:H0 a=L (.dT kvs))(I:L2.Inv X pins U (upd H a (.bq ob (.dT kvs))) s)(e1:H a=L (.dT kvs)):L2.Inv X pins U H s:=by
 have nn:∀b,upd H a (.bq ob (.dT kvs)) b=S->H b=S:=λb q=>by
  by_cases hb:b=a
  .subst hb;rw[bQ]at q;cases q
  .rw[aY hb]at q;exact q
 refine#[I.ok,I.os,I.bare,#[I.base.keep,I.base.slot,λb o e n hx=>nn b (I.base.free b o e n hx),I.base.there,λb xs e=>?_,λb o u e=>?_,λb ps e=>?_],I.loc,I.cell,nn _ I.free,λx c e=>nn _ (I.freeC x c e),λp hp=>let⟨q1,q2,q3⟩:=I.pin p hp;#[q1,nn _ q2,q3],RZ e1 I.hok,I.len]
 .have:=I.base.tups b xs e;by_cases hb:b=a
  .subst hb;rw[bQ]at this;cases this
  .rw[aY hb]at this;exact this
 .have:=I.base.aA b o u e;by_cases hb:b=a
  .subst hb;have:=I0.base.aA b o u e;rw[e0]at this;cases this
  .rw[aY hb]at this;exact this
 .obtain⟨m,this⟩:=I.base.tbls b ps e;by_cases hb:b=a
  .subst hb;rw[bQ]at this;cases this
  .rw[aY hb]at this;exact#[m,this]
def UnP(a:Addr)(kvs:M (M Key×V))(Q:VK):VK:=λv H'=>∃ob Hs,H'=upd Hs a (.bq ob (.dT kvs))/\Hs a=L (.dT kvs)/\Q v Hs
def Vz(h:PE X e te)(hh:∀U H Q,te' U H Q->∃a kvs,H a=L (.dT kvs)/\te U H (UnP a kvs Q)):PE X e te':=by
 intro pins s U H Q I q;let#[a,kvs,e0,q]:=hh U H Q q;refine bA (h pins s U H _ I q) λv s1 ⟨x,H1,I1,r1,ob,Hs,eH,e1,q1⟩=>?_;subst eH;exact#[x,Hs,Inv.aeN I e0 I1 e1,r1,q1]
end
def acP(h:zl k=3):∃x y z,k=[x,y,z]:=by
 match k,h with
 |[x,y,z],_=>exact#[x,y,z,rfl]
section
variable{K:ak}{O:M G}{a:Addr}{ob:Obj}{kvs:M (M Key×V)}{n:J}{Q:VK}
noncomputable def kD:Key->D
|.inl i=>.int i
|.inr x=>.str x
def acQ(h:keyOk k=W):bx K H (kD k) (kV k):=by
 cases k with
 |inl i=>rfl
 |inr x=>exact#[rfl,aE h]
def aeO(k:Key):gT (kD k) (.int n)=decide (k=.inl n):=by
 cases k with
 |inl i=>unfold kD gT;simp;rfl
 |inr x=>unfold kD gT;simp
set_option tactic.hygienic true in
theorem EG:∀(ks:M (M Key)) {ts:M Addr}{acc:M V}{s0 s1 s2:abM V}{Hs:Hp},jX Hs ks ts->Hs a=L (.dT kvs)->fZ ks=W->(∀k∈ks,zl k=3)->zl acc+zl ks<=aj->
 yU (ks.filterMap (sP n)) Hs (λus H1=>∀p,H1 p=S->Q (.ref p) (upd H1 p (.lst (acc++us.map V.ref))))->
 sO (λH'=>LD H' a ob kvs) (wG K O E0 (.tup (.cons (.name 0) (.cons (.name 1) (.cons (.name 2) .nil))))) (wC K O E0 (.some (.cmp .Eq (.var 2) (.var 3)))) (wE K O E0 (.tup (.cons (.var 0) (.cons (.var 1) .nil))))
  (λvs H2=>∀p,H2 p=S->UnP a kvs Q (.ref p) (upd H2 p (.lst vs))) (yV ts) acc [s0,s1,s2,L (.int n)] (upd Hs a (.bq ob (.dT kvs)))
|[],ts,acc,s0,s1,s2,Hs,ht,ha,_,_,_,q=>by
 cases ht;refine#[bQ,λp hp=>?_];have hpa:p≠a:=λz=>by rw[z,bQ]at hp;cases hp
 rw[aY hpa]at hp;have:=q p hp;rw[gi,d_]at this;exact#[ob,_,LS hpa,by rw[aY (gf hpa)];exact ha,this]
|k::ks,ts,acc,s0,s1,s2,Hs,ht,ha,hk,h3,hl,q=>by
 cases ht with
 |cons h1 ht=>
  rename_i t ts;let#[x,y,z,rfl]:=acP (h3 k aB);have hta:=OU h1 ha (λw=>by cases w);have hk':=bz.mp hk;have hks:=bz.mpr λc hc=>hk' c (ao _ hc);have hxyz:=(nL.mp (hk' _ aB)).1;have hz:=bz.mp hxyz z (by simp);have hl':zl acc+(zl ks+1)<=aj:=hl;refine#[bQ,bT (Nat.lt_add_of_pos_right (Nat.succ_pos (zl ks))) hl',?_];refine#[W,[kV x,kV y,kV z],tupS (by rw[aY hta];exact h1),rfl,rfl,?_];show wC K O E0 _ [L (kV x),L (kV y),L (kV z),L (.int n)] _ _;refine#[kD z,.int n,acQ hz,rfl,by cases z<;>rfl,rfl,?_];rw[aeO];by_cases hc:z=.inl n
  .have ef:([x,y,z]::ks).filterMap (sP n)=[x,y]::ks.filterMap (sP n):=by
    rw[xx (show sP n [x,y,z]=L [x,y]from aF hc)]
   rw[ef]at q;show if decide (z=.inl n)=W then _ else _
   rw[aF (a_ hc)];refine#[by show 2<=aj;rw[bY];lia,λp hp=>?_];have hpa:p≠a:=λz=>by rw[z,bQ]at hp;cases hp
   rw[aY hpa]at hp;rw[LS hpa];have q1:=q p hp;refine EG ks (Paired.imp' (λc d e=>?_) ht) ?_ hks (λc hc=>h3 c (ao _ hc)) (by rw[bf];show zl acc+1+zl ks<=aj;lia) ?_
   .rw[aY (bZ e hp)];exact e
   .rw[aY (gf hpa)];exact ha
   .simpa only[dF,bJ,gi,List.cons_append,oW]using q1
  .have ef:([x,y,z]::ks).filterMap (sP n)=ks.filterMap (sP n):=by
    rw[xy (show sP n [x,y,z]=S from aG hc)]
   rw[ef]at q;show if decide (z=.inl n)=W then _ else _
   rw[aG (by simpa using hc)];exact EG ks ht ha hks (λc hc=>h3 c (ao _ hc)) (by lia) q
def VA(hn:zl nl=3)(hj:U[j]?=L (L (.int n)))(hk:U[k]?=L (L x))(h:Pe n x H Q):∃a kvs,H a=L (.dT kvs)/\wE K O E (Vo nl j k) U H (UnP a kvs Q):=by
 let#[a,kvs,rfl,ha,#[h1,h2,h3],q]:=h;refine#[a,kvs,ha,?_];show gU U k _;unfold gU;rw[hk];refine#[a,kvs,rfl,ha,λob ts ht=>?_]
 match nl,hn with
 |[n0,n1,n2],_=>
  have ej:U.getD j S=L (.int n):=by rw[aZ,hj];rfl
  show sO _ _ _ _ _ _ _ [S,S,S,U.getD j S] _;rw[ej];exact EG (kvs.map (·.1)) ht ha h2 h3 (by rw[aa];simpa using h1) (by simpa using q)
def acR(nl:M Str)(j k:Nat):TE:=λU H Q=>∃n x,zl nl=3/\U[j]?=L (L (.int n))/\U[k]?=L (L x)/\Pe n x H Q
def LU{k:V->Prop}(h:gU U i k):∃v,U[i]?=L (L v)/\k v:=by
 unfold gU at h;split at h
 .exact#[_,by assumption,h]
 .exact h.elim
def ZX{E:XK}{i j k:Nat}{D:Ends}{U:L2.St}{H:Hp}(h:wS K O E (.dfs i nl j k) D U H):acR nl j k U H λx H1=>wG K O E (.name i) x U H1 D.nx:=by
 let#[h0,h]:=h;let#[y,h1,h3]:=LU h;let#[x,h2,m,e,h4]:=LU h3;exact#[m,x,h0,e▸h1,h2,h4]
end
def ZY(hk:env.scope.kind=.function)(h:KE env.scope sc y py vpos=W):u9 (.ListComp l gs sc vpos) (L (.Name y py)) n env=pure W:=by
 unfold KE at h;simp only[cu,eF]at h;let#[#[h1,h2],h3]:=h;have hb:env.blockKind=.function:=by
  unfold Env.blockKind;rw[hk];rfl
 show pure (env.blockKind==.function&&env.kindOf y==L .local&&py.line==vpos.line&&!(sc.names.any λ(n,k)=>n==y&&(k==.local||k==.cell)))=pure W;have e1:(env.blockKind==Us)=W:=by rw[hb];rfl
 have e2:(env.kindOf y==L NameKind.local)=W:=by
  have:env.kindOf y=L .local:=h1;rw[this];rfl
 have e3:(py.line==vpos.line)=W:=by rw[h2];simp
 rw[e1,e2,e3,h3];rfl
def o6(h:notTuple t=W\/notTuple e=W):Kn [t] e env=pure S:=by
 rcases h with h|h
 .cases t<;>first|rfl|exact no h
 .cases t<;>first|rfl|(cases e<;>first|rfl|exact no h)
def Ja(h:pP e=W):vA [t] e n env=pure B:=FH h
def wy(hs:env.scope=sc)(h:(pP e||EB sc t)=W):vA [t] e n env=pure B:=by
 rcases oF.mp h with h|h
 .exact Ja h
 .subst hs;show u9 e (L t) n env=pure B;unfold u9;split
  .cases t with
   |Name y p=>
    have e2:(env.kindOf y==L NameKind.local)=B:=by
     have:¬env.scope.names.lookup y=L .local:=by simpa[EB]using h
     exact fi.mpr this
    simp only[e2,p8,uF]
   |_=>rfl
  .rfl
structure OkS (X:Cx) (T:Tab) (O:M G) (E:XK):Prop extends Ok X T O E where
 rz:T.calm=W->∃X0:Cx,X=X0.sC (Eo X0 E)/\X.stack=X.env::X.outer/\X.env.frame=L X.env.locals/\X.A.handled=S
def wz(h:yw T g t=W):noStar t=W:=by
 cases g with
 |name i=>exact gj t (eq_of_beq (band h).1) λ_ _=>rfl
 |tup gs=>exact yl t (eq_of_beq (band h).1) λ_ _ _=>rfl
 |sub o i=>exact oG t (eq_of_beq (band h).1) λ_ _ _=>rfl
def Yq:V->V->Hp->VK->Prop:=λo i H Q=>∃p xs k v,o=.ref p/\i=.int k/\H p=L (.lst xs)/\dj xs k=L v/\Q v H
def VB:abL X Yq:=by
 intro pins s U H o i ov iv Q I ro ri h;let#[p,xs,i,z,rfl,rfl,hq,he,q]:=h;cases ro;let#[t,rfl]:=ri;let#[its,r,pl,hz]:=I.list (.inl (.inl hq));let#[j,h1,h2,h3,h4,h5]:=ud he;let#[w,ew,rw']:=r.get h2;have hl:=r.length;have hn:=wj;have fin:EP X pins U Q w s:=#[z,H,I,rw',q];by_cases h0:0<=i
 .have hj:i.toNat=j:=by
   rw[yK h0 h5]at h1;exact cB h1
  exact wpAny_getItem_list pl.isList h0 (by lia) (by rw[hj];simpa using ew) fin
 .have hj:(i+(its.toArray.size:J)).toNat=j:=by
   rw[xj (by lia) h4]at h1;rw[aV,<-hl];exact cB h1
  exact yM pl.isList (by lia) (by rw[aV]<;>lia) (by lia) (by rw[hj];simpa using ew) fin
def acT(ho:PE X o (wE X.K O E (.var k)))(hi:PE X (.Name y py) (wE X.K O E (.var j)))(he:PE X e (wE X.K O E (.con (.int n)))):PS X (.AugAssign (.Subscript o (.Name y py) tpos) .Add e pos) (wS X.K O E (.agi k j n)):=by
 intro pins s U H D I h;refine Ze ho hi VB he Rj set_list (λ_ _ _=>rfl) pins s U H D I ?_;have h:gU U k λx=>gU U j λy=>∃a xs i p m,x=.ref a/\H a=L (.lst xs)/\y=.int i/\iU (zl xs) i=L p/\xs[p]?=L (.int m)/\D.nx U (upd H a (.lst (xs.set p (.int (m+n))))):=h;show gU U k λx=>gU U j λy=>Yq x y H λv H3=>(ipI λi j=>i+j) v (.int n) H3 λz H5=>X_ x y z H5 λH6=>D.nx U H6;unfold gU at h ⊢;generalize U[k]?=u at h ⊢;generalize U[j]?=w at h ⊢;rcases u with _|_|x
 .exact h.elim
 .exact h.elim
 rcases w with _|_|y
 .exact h.elim
 .exact h.elim
 let#[a,xs,i,p,m,rfl,h2,rfl,h4,h5,h6]:=h;exact#[a,xs,i,.int m,rfl,rfl,h2,by unfold dj;rw[h4];exact h5,m,n,rfl,rfl,a,xs,i,p,rfl,rfl,h2,h4,h6]
set_option tactic.hygienic true in
def ZZ(hO:∀C as,O[g]?=L (G.jO C as)->AB X.K C/\∀f∈as,nN X.K C f)(ha:PE X o (wE X.K O E (.var k)))(hv:PE X value (wE X.K O E c))(hs:vA [.Attribute o f pos'] value pos.line X.env=pure B):PS X (.Assign [.Attribute o f pos'] value pos) (wS X.K O E (.sfld g k f c)):=by
 intro pins s U H D I h;refine plainObj_wpAny_Assign_Attribute (bA (hv pins s U H _ I h) λu s1 ⟨y,H1,I1,ry,q⟩=>?_) hs;split at q
 .rename_i C as e1;let#[q0,q]:=q;let#[k1,k2]:=hO C as e1;have q:wE X.K O E (.var k) U H1 (λv H2=>∃a dx fs,v=.ref a/\H2 a=L (.ins C dx fs)/\zl fs<1000/\D.nx U (upd H2 a (.ins C dx (kG f y fs)))):=q;refine bA (ha pins s1 U H1 _ I1 q) λov s2 ⟨x,H2,I2,rx,a,dx,fs,ex,ea,l,q2⟩=>?_;subst ex;obtain rfl:ov=bR a:=rx;exact O1 I2 ea k1 (k2 f q0) l ry λs3 I3=>#[U,_,I3,q2]
 .exact q.elim
section
set_option tactic.hygienic true in
mutual
theorem okS:∀{O:M G} (c:CS) (st:Stmt) {X:Cx}{T:Tab}{E:XK},OkS X T O E->acw T c st=W->PS X st (wS X.K O E c)
|O,.expr c,st,X,T,E,ok,h=>by
 let#[h0,h]:=band h;revert h;refine abp st (eq_of_beq h0) ?_;intro _ _ h;let#[h1,h2]:=band h;exact Zc (dU c _ ok.toOk h2).1 (FH h1)
|O,.asg g c,st,X,T,E,ok,h=>by
 let#[h0,h]:=band h;revert h;refine k8 st (eq_of_beq h0) ?_;intro ts e p h
 match ts,h with
 |[],h=>exact no h
 |_::_::_,h=>exact no h
 |[t],h=>
  let#[#[#[h1,h2],h3],h4]:=qV h;exact A_ (dU c e ok.toOk h4).1 (FO g t ok.toOk h3) (wy ok.sc h1) (o6 (.inl h2)) (by rw[l0 (wz h3)];rfl)
|O,.tasg g c,st,X,T,E,ok,h=>by
 apply hid (e:=st);intro P zk;cases st<;>first|exact no h|skip
 rename_i ts e p
 match ts,h with
 |[],h=>exact no h
 |_::_::_,h=>exact no h
 |[t],h=>
  let#[#[#[h1,h2],h3],h4]:=qV h;refine zk _ ?_;exact A_ (dU c e ok.toOk h4).1 (FO g t ok.toOk h3) (Ja h1) (o6 (.inr h2)) (by rw[l0 (wz h3)];rfl)
|O,.aug i c,st,X,T,E,ok,h=>by
 let#[h0,h]:=band h;let#[hf,h]:=band h;revert hf h;refine A5 st (eq_of_beq h0) ?_;intro t op e p hf h;revert h;refine gj t (eq_of_beq hf) ?_;intro y py h;cases op<;>first|exact no h|skip
 let#[#[h1,h2],h3]:=sW h;have hl:X.env.scope.names.lookup y=L .local:=by rw[ok.sc];exact aE h2
 exact abK ok.nd (ok.toOk.PJ h1) (.inl hl) (dU c e ok.toOk h3).1 Rj (.inr hl)
|O,.agi k j n,st,X,T,E,ok,h=>by
 let#[h0,h]:=band h;revert h;refine A5 st (eq_of_beq h0) ?_;intro t op e p h;cases t<;>first|exact no h|skip
 cases op<;>first|exact no h|skip
 rename_i o i _;let#[#[h1,h2],h3]:=sW h;have hi:=(dU (.var j) i ok.toOk h2).1;have hc:=(band h2).1;revert hi;refine gj i (eq_of_beq hc) ?_;intro y py hi;exact acT (dU (.var k) o ok.toOk h1).1 hi (dU (.con (.int n)) e ok.toOk h3).1
|O,.rite c a b,st,X,T,E,ok,h=>by
 let#[h0,h]:=band h;revert h;refine xA st (eq_of_beq h0) ?_;intro e p h;cases e<;>first|exact no h|skip
 .exact Ld (dU (.ite c a b) _ ok.toOk h).1
|O,.mov i j,st,X,T,E,ok,h=>by
 let#[h0,h]:=band h;revert h;refine k8 st (eq_of_beq h0) ?_;intro ts e p h
 match ts,h with
 |[],h=>exact no h
 |_::_::_,h=>exact no h
 |[t],h=>
  let#[#[#[h1,h2],h3],h4]:=qV h;exact A_ (dU (.var j) e ok.toOk h4).1 (FO (.name i) t ok.toOk h3) (wy ok.sc h1) (o6 (.inl h2)) (by rw[l0 (wz h3)];rfl)
|O,.dfs i nl j k,st,X,T,E,ok,h=>by
 let#[h0,h]:=band h;revert h;refine k8 st (eq_of_beq h0) ?_;intro ts e p h
 match ts,h with
 |[],h=>exact no h
 |_::_::_,h=>exact no h
 |[t],h=>
  let#[#[#[h1,h2],h3],h4]:=qV h;refine λpins s U H D I q=>A_ (Vz (te':=acR nl j k) (dU (Vo nl j k) e ok.toOk h4).1 λU H Q q=>?_) (FO (.name i) t ok.toOk h3) (wy ok.sc h1) (o6 (.inl h2)) (by rw[l0 (wz h3)];rfl) pins s U H D I (ZX q);let#[n,x,q1,q2,q3,q4]:=q;exact VA q1 q2 q3 q4
|O,.sfld g k f c,st,X,T,E,ok,h=>by
 let#[h0,h]:=band h;revert h;refine k8 st (eq_of_beq h0) ?_;intro ts e p h
 match ts,h with
 |[],h=>exact no h
 |[t],h=>
  cases t<;>first|exact no h|skip
  let#[#[#[h1,h2],h3],h4]:=qV h;have h1:=aE h1;subst h1;exact ZZ (ok.toOk.jO h4) (dU (.var k) _ ok.toOk h2).1 (dU c e ok.toOk h3).1 (wy (t:=.Attribute _ _ _) (sc:=T.sc) ok.sc (by simp[EB]))
 |t::_::_,h=>
  cases t<;>exact no h
|O,.acl i g as,st,X,T,E,ok,h=>by
 let#[h0,h]:=band h;revert h;refine k8 st (eq_of_beq h0) ?_;intro ts e p h
 match ts,h with
 |[],h=>exact no h
 |_::_::_,h=>exact no h
 |[t],h=>
  let#[#[#[h1,h2],h3],h4]:=qV h;exact A_ (dU (.call g as) e ok.toOk h4).1 (FO (.name i) t ok.toOk h3) (wy ok.sc h1) (o6 (.inl h2)) (by rw[l0 (wz h3)];rfl)
|O,.casg i c,st,X,T,E,ok,h=>by
 let#[h0,h]:=band h;let#[hf,h]:=band h;revert hf h;refine k8 st (eq_of_beq h0) ?_;intro ts e p hf h
 match ts,hf,h with
 |[],hf,h=>exact no hf
 |t::tr,hf,h=>
  let#[hf,hg]:=band hf;revert h;refine gj t (eq_of_beq hf) ?_;intro y py h;cases tr<;>first|exact no h|skip
  revert h;refine CN e (eq_of_beq hg) ?_;intro l gs sc vpos h;have hcm:=(band (band h).1).1;have hns:T.semi=W->bu:=λz=>by have q:=(band (band h).1).2;rw[z]at q;cases q
  replace h:=(band h).2;let#[#[h1,h2],h3]:=sW h;cases c<;>first|exact no h3|skip
  rename_i nl fr elt tg src cond _ _ _
  match gs,h3 with
  |[],h=>exact no h
  |⟨_,_,_,.ofNat 0⟩::_::_,h=>exact no h
  |⟨_,_,_,.ofNat (n+1)⟩::_,h=>exact no h
  |⟨_,_,_,.negSucc n⟩::_,h=>exact no h
  |[#[t,it,ifs,.ofNat 0]],h3=>
   replace h3:=(band (band h3).2).2;let#[#[#[#[#[k2,k3],k4],k5],k6],k7]:=FN h3;let#[k3,k3']:=band k3;have hl:X.env.scope.names.lookup y=L .local:=by
    unfold KE at h2;simp only[cu,eF]at h2;rw[ok.sc];exact h2.1.1
   exact ZH (ok.calm hcm) ok.nd (ok.toOk.PJ h1) hl (ok.toOk.zZ k2) (okI src it k3' ok.toOk k4) (Bv k3) (ZY ok.kind (by rw[ok.sc];exact h2)) (λC aho H ex=>FO tg t (um ok.toOk k2 C aho H ex (λz=>(hns z).elim) (.inl hcm)) k5) (λC aho H ex=>okC cond ifs (um ok.toOk k2 C aho H ex (λz=>(hns z).elim) (.inl hcm)) k6)
    (λC aho H ex=>(dU elt _ (um ok.toOk k2 C aho H ex (λz=>(hns z).elim) (.inl hcm)) k7).1)
|O,.ret c,st,X,T,E,ok,h=>by
 let#[h0,h]:=band h;revert h;refine xA st (eq_of_beq h0) ?_;intro e p h;cases e<;>first|exact no h|skip
 .exact Ld (dU c _ ok.toOk h).1
|O,.rcl g as,st,X,T,E,ok,h=>by
 let#[h0,h]:=band h;revert h;refine xA st (eq_of_beq h0) ?_;intro e p h;cases e<;>first|exact no h|skip
 .exact Ld (dU (.call g as) _ ok.toOk h).1
|O,.ifs c a b,st,X,T,E,ok,h=>by
 let#[h0,h]:=band h;revert h;refine Stmt.If.elim st (eq_of_beq h0) ?_;intro _ _ _ _ h;let#[#[h1,h2],h3]:=sW h;exact aeg (dU c _ ok.toOk h1).2.1 (HD a _ ok h2) (HD b _ ok h3)
|O,.whil c b,st,X,T,E,ok,h=>by
 apply hid (e:=st);intro P zk;cases st<;>first|exact no h|skip
 rename_i e x l p;cases l<;>first|exact no h|skip
 .obtain⟨h1,h2⟩:=band h;refine zk _ ?_;exact UM ok.po (dU c _ ok.toOk h1).2.1 (HD b _ ok h2)
|O,.forr g src b,st,X,T,E,ok,h=>by
 let#[h0,h]:=band h;revert h;refine Stmt.For.elim st (eq_of_beq h0) ?_;intro t it x l p h;cases l<;>first|exact no h|skip
 .obtain⟨hcm,h⟩:=band h;let#[#[#[#[h1,h1'],h2],h3],h4]:=C2 h;exact aeB ok.po (ok.calm hcm) (okI src _ h1' ok.toOk h2) (FO g _ ok.toOk h3) (HD b _ ok h4) (Bv h1)
|O,.brk,st,X,T,E,ok,h=>by
 let#[h0,h]:=band h;revert h;refine Y8 st (eq_of_beq h0) ?_;intro _ h;exact UI
|O,.cont,st,X,T,E,ok,h=>by
 let#[h0,h]:=band h;revert h;refine Ut st (eq_of_beq h0) ?_;intro _ h;exact Nj
|O,.never,st,X,T,E,ok,h=>UJ
theorem HD:∀{O:M G} (cs:cF) (sts:M Stmt) {X:Cx}{T:Tab}{E:XK},OkS X T O E->sV T cs sts=W->yT X sts (wSs X.K O E cs)
|O,.nil,sts,X,T,E,ok,h=>by
 cases sts with
 |nil=>exact Zb
 |cons s r=>exact no h
|O,.cons c r,sts,X,T,E,ok,h=>by
 cases sts with
 |nil=>exact no h
 |cons s sr=>
  let#[h1,h2]:=band h;exact UH (okS c s ok h1) (HD r sr ok h2)
end
end
def MkH(P:bO)(w:bL)(K:ak)(mg:Str->abM Z)(base:Heap)(k:Nat)(x:Str)(sp:Sp)(dvs:M V):Prop:=dvs=[]/\∃(C:Addr) (j:Nat) (f:Addr) (fd:fc) (ps:M Str) (spI:Sp),j+1<=k/\g_ P w K mg base (mw P w) j f fd ps spI/\mg x=L (.ref C)/\Mk K C f/\Binds K fd ps []/\Vp C spI sp
def EH(P:bO)(w:bL)(K:ak)(mg:Str->abM Z)(base:Heap)(k:Nat)(x:Str):G->Prop
|.val v=>∃u,mg x=L u/\RelV v u
|.tup a xs=>mg x=L (.ref a)/\KSq K a W xs
|.fn sp dvs=>(∃(f:Addr) (fd:fc) (ps:M Str) (ds:M Z),g_ P w K mg base (mw P w) k f fd ps sp/\mg x=L (.ref f)/\fL K (.ref f)=W/\Binds K fd ps ds/\bP dvs ds)\/MkH P w K mg base k x sp dvs
|.jO C as=>AB K C/\∀f∈as,nN K C f
|.fh sp=>∃(f:Addr) (fd:fc) (ps:M Str),Yk P w K mg base k f fd ps sp/\mg x=L (.ref f)/\fL K (.ref f)=W/\(Binds K fd ps []/\ps≠[])
|.lam _=>True
|.nop=>True
def z0(P:bO)(w:bL)(K:ak)(mg:Str->abM Z)(base:Heap)(k:Nat):M Str->M G->Prop
|x::xs,g::gs=>EH P w K mg base k x g/\z0 P w K mg base k xs gs
|_,_=>True
theorem z0.get{w:bL}{K:ak}{mg:Str->abM Z}{base:Heap}{k:Nat}:∀{xs:M Str}{gs:M G},z0 P w K mg base k xs gs->∀(i:Nat) x g,xs[i]?=L x->gs[i]?=L g->EH P w K mg base k x g
|[],_,_,i,x,g,h,_=>by simp at h
|_::_,[],_,i,x,g,_,h=>by simp at h
|x::xs,g::gs,a,0,y,g',h1,h2=>by
 simp at h1 h2;subst h1 h2;exact a.1
|x::xs,g::gs,a,i+1,y,g',h1,h2=>z0.get a.2 i y g' (by simpa using h1) (by simpa using h2)
def HE(K:ak)(mg:Str->abM Z)(fd:fc)(Pa:Addr):Prop:=(∃c,fd.code=.ref c/\rR K c Pa=W)/\(Pa,fd.qualname++".<locals>."++"<lambda>")∈oY
section
variable{P:bO}{w:bL}{K:ak}{mg:Str->abM Z}{base:Heap}
def vF.okE{st:Stmt}{f:Addr}{fd:fc}{N ps:M Str}{k:Nat}{sp:Sp}(F:vF K x qual st f fd)(abr:rT N ps (dh st))(len:∀vs H Q E,sp vs H Q E->zl vs=zl ps)(hbody:∀(cdv:Z),fd.code=cdv->fd.qualname=qual->∀(A:cQ) (outer:M Env) (s:ay) (H:Hp) (vs:M V) (Q:VK) (E:XK),jV k (A.deeper (qQ qual (dh st) s.heap.objs.size f cdv))->sp vs H Q E->
   ∃t,yT ((sL (mw P w) P w K mg base N qual (dh st) f cdv A outer s H E).sC (Eo (sL (mw P w) P w K mg base N qual (dh st) f cdv A outer s H E) E)) (iG st) t/\t { nx:=λ_ H'=>Q .non H',rt:=Q } (start N vs) H):g_ P w K mg base (mw P w) (k+1) f fd ps sp:=by
 let#[oc,od,kV,doc,pm,an,cdv,ct,osl,rfl,lk,hcd]:=F.ex;refine aeq lk hcd abr len λA outer s H vs Q E hr hsp=>?_;let#[t,h,q]:=hbody cdv rfl rfl A outer s H vs Q E hr hsp;exact#[t,ach h,q]
def LV{st:Stmt}{f:Addr}{fd:fc}{N ps gl bn:M Str}{k:Nat}{sp:Sp}{O:M G}(c:cF)(F:vF K x qual st f fd)(abr:rT N ps (dh st))(hc:sV #[N,dh st,gl,bn,(λ_=>W),W,B] c (iG st)=W)(hg:z0 P w K mg base k gl O)(hl:∀(i:Nat) Pa,O[i]?=L (.lam Pa)->HE K mg fd Pa)(hb:∀x∈bn,mg x=S)(len:∀vs H Q E,sp vs H Q E->zl vs=zl ps)(h:∀vs H Q E,sp vs H Q E->wSs K O E c { nx:=λ_ H'=>Q .non H',rt:=Q } (start N vs) H):g_ P w K mg base (mw P w) (k+1) f fd ps sp:=by
 refine vF.okE F abr len λcdv ecd eq A outer s H vs Q E hr hsp=>#[wSs K O E c,?_,h vs H Q E hsp];have ok:OkS ((sL (mw P w) P w K mg base N qual (dh st) f cdv A outer s H E).sC (Eo (sL (mw P w) P w K mg base N qual (dh st) f cdv A outer s H E) E)) ⟨N,dh st,gl,bn,(λ_=>W),W,B⟩ O E:=by
  refine#[#[rfl,abr.nd,rfl,abr.kind,λi x g hx hg'=>?_,hb,λ_ _=>rfl,λ_=>rfl,(λz=>nomatch z),Pd (E:=E) rfl rfl,by have:=hr.un;show(A.deeper (qQ qual (dh st) s.heap.objs.size f cdv)).units+60<eS;lia],λ_=>#[_,rfl,rfl,rfl,hr.hd]];have q:=hg.get i x g hx hg';cases g with
  |fn sp dvs=>
   rcases q with⟨f,fd,ps,ds,q1,q2,q3,q4,q5⟩|⟨e0,C,j,f,fd,ps,spI,hj,q1,q2,q3,q4,q5⟩
   .exact .inl #[k,f,fd,ps,ds,q1,hr,q2,q3,q4,q5,N6]
   .exact .inr (.inl #[e0,C,j,f,fd,ps,spI,q1,hr.mono hj,q2,q3,q4,q5,N6])
  |fh sp=>
   let#[f,fd,ps,q1,q2,q3,q4]:=q;exact#[k,f,fd,ps,q1,#[rfl,hr.dp,hr.un],q2,q3,q4]
  |lam Pa=>
   let#[#[c,q1,q2],q5]:=hl i Pa hg';refine#[#[c,ecd.symm.trans q1,q2],?_,hr.depth,?_]
   .rw[eq]at q5;exact q5
   .have:=hr.un;show(A.deeper (qQ qual (dh st) s.heap.objs.size f cdv)).units+80<eS
    lia
  |_=>exact q
 exact HD c _ ok hc
def g_.calm(F:g_ P w K mg base (mw P w) k f fd ps sp):g_ P w K mg base RD k f fd ps (λvs H Q _=>sp vs H Q E0):=
 #[λvs H Q E h=>F.len vs H Q E0 h,λA outer s H args us vs Q E hr he hb hv hs=>kU (F.run A outer s H args us vs Q E0 hr he hb hv hs) λr s' q=>by
  cases r with
  |error v=>exact aC q
  |ok fl=>cases fl<;>exact q]
end
end L3
end
section
namespace L3
open PySem L2
theorem len_str(x:Str):x.cps.toList.length=x.length:=by rfl
mutual
def bI(K:ak)(H F:Hp):D->V->M Addr->Prop
|.non,v,fp=>v=.non/\fp=[]
|.bl b,v,fp=>v=.bl b/\fp=[]
|.int i,v,fp=>v=.int i/\fp=[]
|.str x,v,fp=>(v=.str x/\x.length<=aj)/\fp=[]
|.lst o ds,v,fp=>if o=W then ∃a vs fs,v=.ref a/\H a=L (.lst vs)/\vs.length<=aj/\aN K H F ds vs fs/\fp=a::fs else bx K F (.lst o ds) v/\fp=[]
|.tup ds,v,fp=>∃a vs,v=.ref a/\F a=L (.tup vs)/\vs.length<=aj/\aN K H F ds vs fp
|.cW o ks ds,v,fp=>if o=W then ∃a kvs fs,v=.ref a/\H a=L (.dK kvs)/\kvs.length<=aj/\(kvs.map (·.1)=ks/\keysOk ks=W)/\aN K H F ds (kvs.map (·.2)) fs/\fp=a::fs else bx K F (.cW o ks ds) v/\fp=[]
|.bS o ks ds,v,fp=>if o=W then ∃a kvs fs,v=.ref a/\H a=L (.dT kvs)/\kvs.length<=aj/\(kvs.map (·.1)=ks/\fZ ks=W)/\aN K H F ds (kvs.map (·.2)) fs/\fp=a::fs else bx K F (.bS o ks ds) v/\fp=[]
|.obj o C ks ds,v,fp=>if o=W then ∃a dx vs fs,v=.ref a/\(H a=L (.ins C dx vs)/\H dx=L (.own a))/\vs.length<=1000/\(vs.map (·.1)=ks/\ks.Nodup)/\aN K H F ds (vs.map (·.2)) fs/\fp=a::dx::fs else bx K F (.obj o C ks ds) v/\fp=[]
def aN(K:ak)(H F:Hp):M D->M V->M Addr->Prop
|[],vs,fp=>vs=[]/\fp=[]
|d::ds,vs,fp=>∃v r f1 f2,vs=v::r/\fp=f1++f2/\bI K H F d v f1/\aN K H F ds r f2
end
section
variable{K:ak}{H H' F F':Hp}
def iW.same'(e:bh H H')(h:iW K H a t xs):iW K H' a t xs:=by
 rcases h with h|h
 .refine .inl ?_;unfold Ep at h ⊢;cases q:H a with
  |none=>rw[q]at h;cases h
  |some o=>rw[q]at h;rw[e a o q];exact h
 .exact .inr h
def Rd.same(e:bh H H')(h:Rd H a u):Rd H' a u:=by
 rcases h with h|⟨o,h⟩
 .exact .inl (e _ _ h)
 .exact .inr #[o,e _ _ h]
def Rd.seq(h:Rd H a (.lst xs)):iW K H a B xs:=by
 refine .inl ?_;unfold Ep;rcases h with h|⟨o,h⟩<;>rw[h]
mutual
theorem bx.mono(e:bh H H'):∀(d:D) (v:V),bx K H d v->bx K H' d v
|.non,v,h=>h
|.bl b,v,h=>h
|.int i,v,h=>h
|.str x,v,h=>h
|.lst o ds,v,h=>by
 let#[a,vs,h1,h2,h3,h4]:=h;exact#[a,vs,h1,Rd.same e h2,h3,aM.mono e ds vs h4]
|.tup ds,v,h=>by
 let#[a,vs,h1,h2,h3,h4]:=h;exact#[a,vs,h1,e _ _ h2,h3,aM.mono e ds vs h4]
|.cW o ks ds,v,h=>by
 let#[a,vs,h1,h2,h3,h4,h5]:=h;exact#[a,vs,h1,e _ _ h2,h3,h4,aM.mono e ds _ h5]
|.bS o ks ds,v,h=>by
 let#[a,vs,h1,h2,h3,h4,h5]:=h;exact#[a,vs,h1,e _ _ h2,h3,h4,aM.mono e ds _ h5]
|.obj o C ks ds,v,h=>by
 let#[a,dx,vs,h1,h2,h3,h4,h5]:=h;exact#[a,dx,vs,h1,#[e _ _ h2.1,e _ _ h2.2],h3,h4,aM.mono e ds _ h5]
theorem aM.mono(e:bh H H'):∀(ds:M D) (vs:M V),aM K H ds vs->aM K H' ds vs
|[],vs,h=>h
|d::ds,vs,h=>by
 let#[v,r,h1,h2,h3]:=h;exact#[v,r,h1,bx.mono e d v h2,aM.mono e ds r h3]
end
mutual
theorem bx.bq:∀(d:D) (v:V),bx K F (bq d) v↔bx K F d v
|.non,v=>Dk
|.bl b,v=>Dk
|.int i,v=>Dk
|.str x,v=>Dk
|.lst o ds,v=>by
 constructor
 .rintro⟨a,vs,h1,h2,h3,h4⟩;exact#[a,vs,h1,h2,h3,(aM.aA ds vs).mp h4]
 .rintro⟨a,vs,h1,h2,h3,h4⟩;exact#[a,vs,h1,h2,h3,(aM.aA ds vs).mpr h4]
|.tup ds,v=>by
 constructor
 .rintro⟨a,vs,h1,h2,h3,h4⟩;exact#[a,vs,h1,h2,h3,(aM.aA ds vs).mp h4]
 .rintro⟨a,vs,h1,h2,h3,h4⟩;exact#[a,vs,h1,h2,h3,(aM.aA ds vs).mpr h4]
|.cW o ks ds,v=>by
 constructor
 .rintro⟨a,vs,h1,h2,h3,h4,h5⟩;exact#[a,vs,h1,h2,h3,h4,(aM.aA ds _).mp h5]
 .rintro⟨a,vs,h1,h2,h3,h4,h5⟩;exact#[a,vs,h1,h2,h3,h4,(aM.aA ds _).mpr h5]
|.bS o ks ds,v=>by
 constructor
 .rintro⟨a,vs,h1,h2,h3,h4,h5⟩;exact#[a,vs,h1,h2,h3,h4,(aM.aA ds _).mp h5]
 .rintro⟨a,vs,h1,h2,h3,h4,h5⟩;exact#[a,vs,h1,h2,h3,h4,(aM.aA ds _).mpr h5]
|.obj o C ks ds,v=>by
 constructor
 .rintro⟨a,dx,vs,h1,h2,h3,h4,h5⟩;exact#[a,dx,vs,h1,h2,h3,h4,(aM.aA ds _).mp h5]
 .rintro⟨a,dx,vs,h1,h2,h3,h4,h5⟩;exact#[a,dx,vs,h1,h2,h3,h4,(aM.aA ds _).mpr h5]
theorem aM.aA:∀(ds:M D) (vs:M V),aM K F (aA ds) vs↔aM K F ds vs
|[],vs=>Dk
|d::ds,vs=>by
 constructor
 .rintro⟨v,r,h1,h2,h3⟩;exact#[v,r,h1,(bx.bq d v).mp h2,(aM.aA ds r).mp h3]
 .rintro⟨v,r,h1,h2,h3⟩;exact#[v,r,h1,(bx.bq d v).mpr h2,(aM.aA ds r).mpr h3]
end
mutual
theorem bx.wA:∀(d:D) (v:V),bx K F d v->bI K H F (bq d) v []
|.non,v,h=>#[h,rfl]
|.bl b,v,h=>#[h,rfl]
|.int i,v,h=>#[h,rfl]
|.str x,v,h=>#[h,rfl]
|.lst o ds,v,h=>#[(bx.bq (.lst o ds) v).mpr h,rfl]
|.tup ds,v,h=>by
 let#[a,vs,h1,h2,h3,h4]:=h;exact#[a,vs,h1,h2,h3,aM.wA ds vs h4]
|.cW o ks ds,v,h=>#[(bx.bq (.cW o ks ds) v).mpr h,rfl]
|.bS o ks ds,v,h=>#[(bx.bq (.bS o ks ds) v).mpr h,rfl]
|.obj o C ks ds,v,h=>#[(bx.bq (.obj o C ks ds) v).mpr h,rfl]
theorem aM.wA:∀(ds:M D) (vs:M V),aM K F ds vs->aN K H F (aA ds) vs []
|[],vs,h=>#[h,rfl]
|d::ds,vs,h=>by
 let#[v,r,h1,h2,h3]:=h;exact#[v,r,[],[],h1,rfl,bx.wA d v h2,aM.wA ds r h3]
end
mutual
theorem bI.mono(e:bh F F'):∀(d:D) (v:V) (fp:M Addr),(∀a∈fp,H' a=H a)->bI K H F d v fp->bI K H' F' d v fp
|.non,v,fp,_,h=>h
|.bl b,v,fp,_,h=>h
|.int i,v,fp,_,h=>h
|.str x,v,fp,_,h=>h
|.lst o ds,v,fp,s,h=>by
 unfold bI at h ⊢;split at h
 .rename_i ho;rw[aF ho];let#[a,vs,fs,h1,h2,h3,h4,rfl]:=h;exact#[a,vs,fs,h1,by rw[s a aB];exact h2,h3,aN.mono e ds vs fs (λb hb=>s b (ao _ hb)) h4,rfl]
 .rename_i ho;rw[aG ho];exact#[bx.mono e _ v h.1,h.2]
|.tup ds,v,fp,s,h=>by
 let#[a,vs,h1,h2,h3,h4]:=h;exact#[a,vs,h1,e _ _ h2,h3,aN.mono e ds vs fp s h4]
|.cW o ks ds,v,fp,s,h=>by
 unfold bI at h ⊢;split at h
 .rename_i ho;rw[aF ho];let#[a,vs,fs,h1,h2,h3,h4,h5,rfl]:=h;exact#[a,vs,fs,h1,by rw[s a aB];exact h2,h3,h4,aN.mono e ds _ fs (λb hb=>s b (ao _ hb)) h5,rfl]
 .rename_i ho;rw[aG ho];exact#[bx.mono e _ v h.1,h.2]
|.bS o ks ds,v,fp,s,h=>by
 unfold bI at h ⊢;split at h
 .rename_i ho;rw[aF ho];let#[a,vs,fs,h1,h2,h3,h4,h5,rfl]:=h;exact#[a,vs,fs,h1,by rw[s a aB];exact h2,h3,h4,aN.mono e ds _ fs (λb hb=>s b (ao _ hb)) h5,rfl]
 .rename_i ho;rw[aG ho];exact#[bx.mono e _ v h.1,h.2]
|.obj o C ks ds,v,fp,s,h=>by
 unfold bI at h ⊢;split at h
 .rename_i ho;rw[aF ho];let#[a,dx,vs,fs,h1,h2,h3,h4,h5,rfl]:=h;exact#[a,dx,vs,fs,h1,#[by rw[s a aB];exact h2.1,by rw[s dx (ao _ aB)];exact h2.2],h3,h4,aN.mono e ds _ fs (λb hb=>s b (ao _ (ao _ hb))) h5,rfl]
 .rename_i ho;rw[aG ho];exact#[bx.mono e _ v h.1,h.2]
theorem aN.mono(e:bh F F'):∀(ds:M D) (vs:M V) (fp:M Addr),(∀a∈fp,H' a=H a)->aN K H F ds vs fp->aN K H' F' ds vs fp
|[],vs,fp,_,h=>h
|d::ds,vs,fp,s,h=>by
 let#[v,r,f1,f2,h1,rfl,h3,h4]:=h;exact#[v,r,f1,f2,h1,rfl,bI.mono e d v f1 (λb hb=>s b (bC _ hb)) h3,aN.mono e ds r f2 (λb hb=>s b (aJ _ hb)) h4]
end
mutual
theorem bI.fix(e:bh F F'):∀(d:D) (v:V) (fp:M Addr),(∀a∈fp,F' a=H a)->bI K H F d v fp->bx K F' d v
|.non,v,fp,_,h=>h.1
|.bl b,v,fp,_,h=>h.1
|.int i,v,fp,_,h=>h.1
|.str x,v,fp,_,h=>h.1
|.lst o ds,v,fp,s,h=>by
 unfold bI at h;split at h
 .obtain⟨a,vs,fs,h1,h2,h3,h4,rfl⟩:=h;exact#[a,vs,h1,.inl (by rw[s a aB];exact h2),h3,aN.fix e ds vs fs (λb hb=>s b (ao _ hb)) h4]
 .exact bx.mono e _ v h.1
|.tup ds,v,fp,s,h=>by
 let#[a,vs,h1,h2,h3,h4]:=h;exact#[a,vs,h1,e _ _ h2,h3,aN.fix e ds vs fp s h4]
|.cW o ks ds,v,fp,s,h=>by
 unfold bI at h;split at h
 .obtain⟨a,vs,fs,h1,h2,h3,h4,h5,rfl⟩:=h;exact#[a,vs,h1,by rw[s a aB];exact h2,h3,h4,aN.fix e ds _ fs (λb hb=>s b (ao _ hb)) h5]
 .exact bx.mono e _ v h.1
|.bS o ks ds,v,fp,s,h=>by
 unfold bI at h;split at h
 .obtain⟨a,vs,fs,h1,h2,h3,h4,h5,rfl⟩:=h;exact#[a,vs,h1,by rw[s a aB];exact h2,h3,h4,aN.fix e ds _ fs (λb hb=>s b (ao _ hb)) h5]
 .exact bx.mono e _ v h.1
|.obj o C ks ds,v,fp,s,h=>by
 unfold bI at h;split at h
 .obtain⟨a,dx,vs,fs,h1,h2,h3,h4,h5,rfl⟩:=h;exact#[a,dx,vs,h1,#[by rw[s a aB];exact h2.1,by rw[s dx (ao _ aB)];exact h2.2],h3,h4,aN.fix e ds _ fs (λb hb=>s b (ao _ (ao _ hb))) h5]
 .exact bx.mono e _ v h.1
theorem aN.fix(e:bh F F'):∀(ds:M D) (vs:M V) (fp:M Addr),(∀a∈fp,F' a=H a)->aN K H F ds vs fp->aM K F' ds vs
|[],vs,fp,_,h=>h.1
|d::ds,vs,fp,s,h=>by
 let#[v,r,f1,f2,h1,rfl,h3,h4]:=h;exact#[v,r,h1,bI.fix e d v f1 (λb hb=>s b (bC _ hb)) h3,aN.fix e ds r f2 (λb hb=>s b (aJ _ hb)) h4]
end
def LW:HO->Prop
|.lst _=>True
|.dK _=>True
|.dT _=>True
|.ins _ _ _=>True
|.own _=>True
|_=>bu
def LX(F' F:Hp):Prop:=∀b o,F' b=L o->F b=L o\/LW o
def LX.tup{a:Addr}{xs:M V}(e:LX F' F)(h:F' a=L (.tup xs)):F a=L (.tup xs):=by
 rcases e a _ h with z|z
 .exact z
 .exact z.elim
mutual
theorem bI.less(e:LX F' F):∀(d:D) (v:V) (fp:M Addr),aU d=W->bI K H F' d v fp->bI K H F d v fp
|.non,v,fp,_,h=>h
|.bl b,v,fp,_,h=>h
|.int i,v,fp,_,h=>h
|.str x,v,fp,_,h=>h
|.lst o ds,v,fp,s,h=>by
 have s':o=W/\aX ds=W:=by simpa[aU]using s
 unfold bI at h ⊢;rw[aF s'.1]at h ⊢;let#[a,vs,fs,h1,h2,h3,h4,rfl]:=h;exact#[a,vs,fs,h1,h2,h3,aN.less e ds vs fs s'.2 h4,rfl]
|.tup ds,v,fp,s,h=>by
 let#[a,vs,h1,h2,h3,h4]:=h;exact#[a,vs,h1,e.tup h2,h3,aN.less e ds vs fp s h4]
|.cW o ks ds,v,fp,s,h=>by
 have s':o=W/\aX ds=W:=by simpa[aU]using s
 unfold bI at h ⊢;rw[aF s'.1]at h ⊢;let#[a,vs,fs,h1,h2,h3,h4,h5,rfl]:=h;exact#[a,vs,fs,h1,h2,h3,h4,aN.less e ds _ fs s'.2 h5,rfl]
|.bS o ks ds,v,fp,s,h=>by
 have s':o=W/\aX ds=W:=by simpa[aU]using s
 unfold bI at h ⊢;rw[aF s'.1]at h ⊢;let#[a,vs,fs,h1,h2,h3,h4,h5,rfl]:=h;exact#[a,vs,fs,h1,h2,h3,h4,aN.less e ds _ fs s'.2 h5,rfl]
|.obj o C ks ds,v,fp,s,h=>by
 have s':o=W/\aX ds=W:=by simpa[aU]using s
 unfold bI at h ⊢;rw[aF s'.1]at h ⊢;let#[a,dx,vs,fs,h1,h2,h3,h4,h5,rfl]:=h;exact#[a,dx,vs,fs,h1,h2,h3,h4,aN.less e ds _ fs s'.2 h5,rfl]
theorem aN.less(e:LX F' F):∀(ds:M D) (vs:M V) (fp:M Addr),aX ds=W->aN K H F' ds vs fp->aN K H F ds vs fp
|[],vs,fp,_,h=>h
|d::ds,vs,fp,s,h=>by
 have s':aU d=W/\aX ds=W:=by simpa[aX]using s
 let#[v,r,f1,f2,h1,rfl,h3,h4]:=h;exact#[v,r,f1,f2,h1,rfl,bI.less e d v f1 s'.1 h3,aN.less e ds r f2 s'.2 h4]
end
theorem aM.len:∀{ds:M D}{vs:M V},aM K H ds vs->zl vs=zl ds
|[],_,h=>by cases h;rfl
|d::ds,_,h=>by
 let#[v,r,rfl,_,h3]:=h;simp[aM.len h3]
theorem aN.len:∀{ds:M D}{vs:M V}{fp:M Addr},aN K H F ds vs fp->zl vs=zl ds
|[],_,_,h=>by cases h.1;rfl
|d::ds,_,_,h=>by
 let#[v,r,_,_,rfl,_,_,h3]:=h;simp[aN.len h3]
theorem aM.get:∀{ds:M D}{vs:M V} (i:Nat) {d:D},aM K H ds vs->ds[i]?=L d->∃v,vs[i]?=L v/\bx K H d v
|[],_,i,_,_,e=>by simp at e
|d::ds,_,0,_,h,e=>by
 let#[v,r,rfl,h2,_]:=h;simp at e;subst e;exact#[v,rfl,h2]
|d::ds,_,i+1,_,h,e=>by
 let#[v,r,rfl,_,h3]:=h;let#[w,e1,e2]:=aM.get i h3 (by simpa using e);exact#[w,by simpa using e1,e2]
theorem aM.app:∀{ds ds':M D}{vs vs':M V},aM K H ds vs->aM K H ds' vs'->aM K H (ds++ds') (vs++vs')
|[],_,_,_,h,h'=>by cases h;exact h'
|d::ds,_,_,_,h,h'=>by
 let#[v,r,rfl,h2,h3]:=h;exact#[v,_,rfl,h2,aM.app h3 h']
theorem aN.app:∀{ds ds':M D}{vs vs':M V}{f f':M Addr},aN K H F ds vs f->aN K H F ds' vs' f'->aN K H F (ds++ds') (vs++vs') (f++f')
|[],_,_,_,_,_,h,h'=>by let#[rfl,rfl]:=h;exact h'
|d::ds,_,_,_,_,_,h,h'=>by
 let#[v,r,f1,f2,rfl,rfl,h2,h3]:=h;exact#[v,_,f1,_,rfl,by simp,h2,aN.app h3 h']
def aN.one(h:bI K H F d v fp):aN K H F [d] [v] fp:=#[v,[],fp,[],rfl,by simp,h,rfl,rfl]
end
inductive R (α:Type) where
|ok (a:α)|bad
noncomputable def R.bind{α β:Type}:R α->(α->R β)->R β
|.ok a,f=>f a
|.bad,_=>.bad
noncomputable def R.opt{α:Type}:abM α->R α
|some a=>.ok a
|none=>.bad
noncomputable def R.n_{α:Type}:R α->R α
|.ok a=>.ok a
|_=>.bad
noncomputable def R.bV{α:Type}(b:Bool)(r:R α):R α:=match b with
|true=>r
|false=>.bad
instance (i j:J):JZ (rC i j):=by unfold rC;infer_instance
instance (i j:J):JZ (vf i j):=by unfold vf;infer_instance
instance (i j:J):JZ (wg i j):=by unfold wg;infer_instance
noncomputable def mQ:D->abM Key
|.int i=>L (.inl i)
|.str x=>L (.inr x)
|_=>S
def qW:M D->abM (M Key)
|[]=>L []
|d::r=>(mQ d).bind λk=>(qW r).map (k::·)
def iP:D->abM (M Key)
|.tup xs=>qW xs
|_=>S
noncomputable def iB:Key->D
|.inl i=>.int i
|.inr x=>.str x
noncomputable def iQ{κ:Type}[eT κ]:M κ->M D->κ->abM D
|k::ks,d::ds,q=>if k=q then L d else iQ ks ds q
|_,_,_=>S
noncomputable def jE{κ:Type}[eT κ](ks:M κ)(q:κ):Bool:=ks.any λk=>decide (k=q)
noncomputable def jy{κ:Type}[eT κ]:M κ->M D->κ->D->M D
|k::ks,d::ds,q,x=>(if k=q then x else d)::jy ks ds q x
|_,_,_,_=>[]
noncomputable def yY(z:Str)(n:Nat):Str:=⟨(aR n z.cps.toList).flatten.toArray⟩
noncomputable def dm:D->Bool
|.non=>W
|_=>B
noncomputable def lK:D->Bool
|.bl _=>W
|_=>B
noncomputable def qX:D->Bool
|.bl W=>W
|_=>B
noncomputable def FP:M D->abM (M Str)
|[]=>L []
|.str x::r=>(FP r).map (x::·)
|_::_=>S
noncomputable def qY:M D->abM (M J)
|[]=>L []
|.int x::r=>(qY r).map (x::·)
|_::_=>S
def idxD(m:Mt)(xs:M D)(k:J):R D:=match m with
|.index=>(R.opt (qY xs)).bind λns=>.bV (decide (k∈ns)) (.ok (.int (ns.idxOf k)))
|_=>.bad
def nA(op:Ao)(x y:D):R D:=match x,y with
|.int i,.int j=>match op with
 |.Add=>.ok (.int (i+j))
 |.Sub=>.ok (.int (i-j))
 |.Mult=>.bV (decide (rC i j)) (.ok (.int (i*j)))
 |.FloorDiv=>.bV (decide (vf i j)) (.ok (.int (i / j)))
 |.Mod=>.bV (decide (0<j)) (.ok (.int (i%j)))
 |.Pow=>.bV (decide (wg i j)) (.ok (.int (i ^ j.toNat)))
 |_=>.bad
|.str i,.str j=>match op with
 |.Add=>.bV (decide (i.length+j.length<=aj)) (.ok (.str (i++j)))
 |_=>.bad
|.str i,.int j=>match op with
 |.Mult=>.bV (decide (0<=j/\j<2 ^ 40/\i.length*j.toNat<=aj)) (.ok (.str (yY i j.toNat)))
 |_=>.bad
|.lst _ xs,.lst _ ys=>match op with
 |.Add=>.bV (decide (xs.length+ys.length<=aj)) (.ok (.lst W (aA xs++aA ys)))
 |_=>.bad
|.tup xs,.tup ys=>match op with
 |.Add=>.bV (!xs.isEmpty&&!ys.isEmpty&&decide (xs.length+ys.length<=aj)) (.ok (.tup (aA xs++aA ys)))
 |_=>.bad
|.lst _ xs,.int k=>match op with
 |.Mult=>.bV (decide ((-(2 ^ 63)<=k/\k<2 ^ 63)/\xs.length*k.toNat<=aj)) (.ok (.lst W (aR k.toNat (aA xs)).flatten))
 |_=>.bad
|_,_=>.bad
noncomputable def acU(op:K4)(x y:D):R D:=match x,y with
|.int i,.int j=>match op with
 |.Lt=>.ok (.bl (decide (i<j)))
 |.Gt=>.ok (.bl (decide (j<i)))
 |_=>.bad
|_,_=>.bad
def inD(x y:D):R Bool:=match y with
|.lst _ ys=>.bV (dP x&&jw ys) (.ok (memD x ys))
|.tup ys=>.bV (dP x&&jw ys) (.ok (memD x ys))
|.bS _ ks _=>match iP x with
 |some k=>.ok (jE ks k)
 |none=>.bad
|_=>.bad
def gE(op:K4)(x y:D):R D:=match op with
|.Eq=>.bV (dP x&&dP y) (.ok (.bl (gT x y)))
|.NotEq=>.bV (dP x&&dP y) (.ok (.bl (!gT x y)))
|.Is=>.bV (dm y) (.ok (.bl (dm x)))
|.IsNot=>.bV (dm y) (.ok (.bl (!dm x)))
|.In=>(inD x y).bind λb=>.ok (.bl b)
|.NotIn=>(inD x y).bind λb=>.ok (.bl (!b))
|op=>acU op x y
noncomputable def kI:D->R Bool
|.bl b=>.ok b
|_=>.bad
def iY(x y:D):R D:=match x with
|.str z=>match y with
 |.int i=>(R.opt (dj z.cps.toList i)).bind λc=>.ok (.str ⟨#[c]⟩)
 |_=>.bad
|.lst _ xs=>match y with
 |.int i=>(R.opt (dj xs i)).bind λd=>.ok (bq d)
 |_=>.bad
|.tup xs=>match y with
 |.int i=>(R.opt (dj xs i)).bind λd=>.ok (bq d)
 |_=>.bad
|.cW _ ks xs=>match mQ y with
 |some k=>(R.opt (iQ ks xs k)).bind λd=>.ok (bq d)
 |none=>.bad
|.bS _ ks xs=>match iP y with
 |some k=>(R.opt (iQ ks xs k)).bind λd=>.ok (bq d)
 |none=>.bad
|_=>.bad
def Jb(x:D)(lo hi:abM J):R D:=match x with
|.str z=>.ok (.str ⟨(cut z.cps.toList lo hi).toArray⟩)
|.lst _ xs=>.ok (.lst W (aA (cut xs lo hi)))
|.tup xs=>match lo,hi with
 |some n,S=>.bV (decide (1<=n/\n<=zl xs)) (.ok (.tup (aA (xs.drop n.toNat))))
 |_,_=>.bad
|_=>.bad
def pairD:D->abM (Key×D)
|.tup [k,v]=>(mQ k).map λq=>(q,v)
|_=>S
def o7:M D->abM (M (Key×D))
|[]=>L []
|x::r=>(pairD x).bind λp=>(o7 r).map (p::·)
def C3:D->abM (M Key×D)
|.tup [k,v]=>(iP k).map λq=>(q,v)
|_=>S
def qD:M D->abM (M (M Key×D))
|[]=>L []
|x::r=>(C3 x).bind λp=>(qD r).map (p::·)
def gk{κ:Type}[eT κ]:M κ->M D->M (κ×D)->M κ×M D
|ks,xs,[]=>(ks,xs)
|ks,xs,p::r=>if jE ks p.1=W then gk ks (jy ks xs p.1 p.2) r else gk (ks++[p.1]) (xs++[p.2]) r
def FQ:M D->abM (M (M Key))
|[]=>L []
|d::r=>(iP d).bind λk=>(FQ r).map (k::·)
def FT(xs:M D):abM (M (M Key)):=match FP xs with
|some ss=>L (ss.map λx=>[.inr x])
|none=>match qY xs with
 |some ns=>L (ns.map λx=>[.inl x])
 |none=>FQ xs
def Yr(kss:M (M Key))(xs:M D):M D:=(dX kss).map λi=>(aA xs).getD i .non
def pL(ks:M (M Key)):M D:=(dX ks).map λi=>D.tup ((ks.getD i []).map iB)
def h_(f:Bf)(vs:M D):R D:=match vs with
|[x]=>match f with
 |.len=>match x with
  |.str z=>.ok (.int z.length)
  |.lst _ xs=>.ok (.int xs.length)
  |.tup xs=>.ok (.int xs.length)
  |_=>.bad
 |.all=>match x with
  |.lst _ xs=>.bV (xs.all lK) (.ok (.bl (xs.all qX)))
  |_=>.bad
 |.any=>match x with
  |.lst _ xs=>.bV (xs.all lK) (.ok (.bl (xs.any qX)))
  |_=>.bad
 |.int=>match x with
  |.bl b=>.ok (.int (if b then 1 else 0))
  |_=>.bad
 |.list=>match x with
  |.lst _ xs=>.ok (.lst W (aA xs))
  |_=>.bad
 |.tuple=>match x with
  |.lst _ xs=>.ok (.tup (aA xs))
  |_=>.bad
 |.dict=>match x with
  |.lst _ xs=>(R.opt (o7 xs)).bind λps=>.bV (decide (ps.map (·.1)).Nodup) (.ok (.cW W (ps.map (·.1)) (aA (ps.map (·.2)))))
  |_=>.bad
 |.dictT=>match x with
  |.lst _ xs=>(R.opt (qD xs)).bind λps=>.ok (.bS W (gk [] [] ps).1 (aA (gk [] [] ps).2))
  |_=>.bad
 |.sorted=>match x with
  |.bS _ ks _=>.bV (sortable ks) (.ok (.lst W (pL ks)))
  |.lst _ xs=>(R.opt (FT xs)).bind λkss=>.bV (sortable kss) (.ok (.lst W (Yr kss xs)))
  |_=>.bad
 |_=>.bad
|[x,y]=>match x,y with
 |.int i,.int j=>match f with
  |.max=>.ok (.int (if j>i then j else i))
  |.min=>.ok (.int (if j<i then j else i))
  |_=>.bad
 |_,_=>.bad
|_=>.bad
noncomputable def yx(t:Ty):D->Bool
|.non=>B
|.bl _=>decide (t=.bool)||decide (t=.int)
|.int _=>decide (t=.int)
|.str _=>decide (t=.str)
|.lst _ _=>decide (t=.list)||decide (t=.none)
|.tup _=>decide (t=.tuple)||decide (t=.none)
|.cW _ _ _=>decide (t=.dict)
|.bS _ _ _=>decide (t=.dict)
|.obj _ _ _ _=>B
noncomputable def sX:D->Bool
|.int _=>W
|.tup _=>W
|_=>B
def uq(m:Mt)(x:D)(vs:M D):R D:=match x with
|.lst _ xs=>match vs with
 |[y]=>match y with
  |.int k=>idxD m xs k
  |_=>.bad
 |_=>.bad
|.cW _ ks xs=>match vs with
 |[k]=>match m with
  |.get=>match mQ k with
   |some k'=>.ok (bq ((iQ ks xs k').getD .non))
   |none=>.bad
  |_=>.bad
 |[k,y]=>match m with
  |.get=>match mQ k with
   |some k'=>.ok (bq ((iQ ks xs k').getD y))
   |none=>.bad
  |_=>.bad
 |_=>.bad
|_=>.bad
abbrev br:=M (abM D)
inductive PG where
|val (d:D)
|fn (m:M D->R D) (dds:M D)
|jO (C:Addr) (as:M Str)
|fh (m:M D->R D)
|fe (m:M D->R D)
|lam
|fm (m:M D->R D)
|nop
inductive Fl where
|nx (U:br)|rt (d:D)|bk (U:br)|ct (U:br)|bad
noncomputable def R.bA{α:Type}:R α->(α->Fl)->Fl
|.ok a,f=>f a
|.bad,_=>.bad
noncomputable def R.kc{α:Type}(b:Bool):R α->(α->Fl)->Fl
|.ok a,f=>f a
|.bad,_=>.bad
noncomputable def BD:V->R D
|.non=>.ok .non
|.bl b=>.ok (.bl b)
|.int i=>.ok (.int i)
|.str x=>.ok (.str x)
|_=>.bad
noncomputable def FU(z:Str):M D:=z.cps.toList.map λc=>D.str ⟨#[c]⟩
noncomputable def gx(lo:J)(n:Nat):M D:=(bM n).map λ(i:Nat)=>D.int (lo+(i:J))
def HF:M D->R D
|[.int i,.int j]=>.bV (decide (-(2 ^ 62)<=i/\i<2 ^ 62/\-(2 ^ 62)<=j/\j<2 ^ 62/\(j-i).toNat<=2 ^ 24)) (.ok (.tup (gx i (j-i).toNat)))
|_=>.bad
noncomputable def z5:M Key->M D->abM (M (Str×J))
|[],[]=>L []
|.inr x::ks,.int i::xs=>(z5 ks xs).map ((x,i)::·)
|_,_=>S
def LY:D->R D
|.cW _ ks xs=>(R.opt (z5 ks xs)).bind λps=>.bV (decide (zl ps<64)) (.ok (.lst W (pL (mO ps))))
|_=>.bad
def LZ:D->R D
|.lst _ xs=>.ok (.lst W (aA xs.reverse))
|_=>.bad
noncomputable def L0:D->R (Bool×M D)
|.int i=>.bV (decide (0<=i/\i.toNat<=aj)) (.ok (W,(bM i.toNat).map λ(k:Nat)=>D.int (i-1-k)))
|_=>.bad
def HH(n:J)(ks:M (M Key)):M D:=(ks.filterMap (sP n)).map λk=>.tup (k.map iB)
noncomputable def acV:M D->M D->M D
|x::xs,y::ys=>.tup [x,y]::acV xs ys
|_,_=>[]
noncomputable def ir:Nat->M D->M D
|_,[]=>[]
|n,x::r=>.tup [.int (n:J),x]::ir (n+1) r
def vj:D->R (M D)
|.str z=>.ok (FU z)
|.lst _ xs=>.ok (aA xs)
|.tup xs=>.ok (aA xs)
|_=>.bad
def EI:M D->R (M D)
|[.int j]=>.bV (decide (-(2 ^ 62)<=j/\j.toNat<=aj)) (.ok (gx 0 j.toNat))
|_=>.bad
def xR(m:br->R D)(cs:br):Nat->Nat->R (M (M Key))
|0,_=>.ok []
|n+1,i=>(m (L (.int (i:J))::cs)).bind λd=>(R.opt (iP d)).bind λkk=>(xR m cs n (i+1)).bind λr=>.ok (kk::r)
noncomputable def VC:D->abM Nat
|.int i=>if 0<=i/\i<64 then L i.toNat else S
|_=>S
def HJ(O:M PG)(g:Nat)(n:R D)(m:br->R D)(cs:br):R D:=match O[g]? with
|some .lam=>n.bind λd=>(R.opt (VC d)).bind λk=>(xR m cs k 0).n_.bind λkss=>.bV (L2.sortable kss) (.ok (.lst W ((L2.dX kss).map λ(i:Nat)=>D.int (i:J))))
|_=>.bad
noncomputable def dS(g:D->br->R br)(c:br->R Bool)(e:br->R D):M D->br->R (M D)
|[],_=>.ok []
|d::r,U=>(g d U).bind fun σ2=>(c σ2).bind λb=>if b=W then(e σ2).bind λy=>(dS g c e r σ2).bind λys=>.ok (y::ys)else dS g c e r σ2
noncomputable def forR(g:D->br->R br)(b:br->Fl):M D->br->Fl
|[],U=>.nx U
|d::r,U=>(g d U).bA fun σ2=>match b σ2 with
 |.nx σ3=>forR g b r σ3
 |.ct σ3=>forR g b r σ3
 |.bk σ3=>.nx σ3
 |.rt d=>.rt d
 |.bad=>.bad
noncomputable def vn(c:br->R Bool)(b:br->Fl):Nat->br->Fl
|0,_=>.bad
|n+1,U=>(c U).bA λk=>if k=W then match b U with
 |.nx σ3=>vn c b n σ3
 |.ct σ3=>vn c b n σ3
 |.bk σ3=>.nx σ3
 |.rt d=>.rt d
 |.bad=>.bad
 else .nx U
noncomputable def PL:M Str->M D->Str->abM D
|k::ks,d::ds,f=>if f=k then L d else PL ks ds f
|_,_,_=>S
def rG(O:M PG)(g:Nat)(f:Str)(x:D):R D:=match O[g]? with
|some (.jO C as)=>match x with
 |.obj _ C' ks xs=>.bV (decide (C'=C)&&decide (f∈as)) ((R.opt (PL ks xs f)).bind λd=>.ok (bq d))
 |_=>.bad
|_=>.bad
def HK:D->abM Str
|.str x=>L x
|.int i=>if i.natAbs.log2<1920 then L (ack i)else S
|_=>S
def R0(U:br):M (Str×Nat)->Str->abM Str
|[],a=>L a
|p::r,a=>match U[p.2]? with
 |some (L d)=>(HK d).bind λy=>R0 U r (a++p.1++y)
 |_=>S
mutual
noncomputable def pE(O:M PG):CE->br->R D
|.var i=>λU=>match U[i]? with
 |some (L d)=>.ok (bq d)
 |_=>.bad
|.con v=>λ_=>BD v
|.bin op a b=>λU=>(pE O a U).bind λx=>(pE O b U).bind λy=>nA op x y
|.neg a=>λU=>(pE O a U).bind λx=>match x with
 |.int i=>.ok (.int (-i))
 |_=>.bad
|.not a=>λU=>(pE O a U).bind λx=>(kI x).bind λb=>.ok (.bl (!b))
|.and a b=>λU=>(pE O a U).bind λx=>match x with
 |.bl c=>if c=W then pE O b U else .ok (.bl B)
 |_=>.bad
|.or a b=>λU=>(pE O a U).bind λx=>match x with
 |.bl c=>if c=W then .ok (.bl W)else pE O b U
 |_=>.bad
|.ite c a b=>λU=>(pT O c U).bind λk=>if k=W then pE O a U else pE O b U
|.cmp op a b=>λU=>(pE O a U).bind λx=>(pE O b U).bind λy=>gE op x y
|.call g as=>λU=>match O[g]? with
 |some (.fn m dds)=>(gv O as U).bind λds=>m (aA ds++dds)
 |_=>.bad
|.blt f as=>λU=>(gv O as U).bind λds=>h_ f ds
|.isi a t=>λU=>(pE O a U).bind λx=>.bV (sX x) (.ok (.bl (yx t x)))
|.mth m o as=>λU=>(pE O o U).bind λx=>(gv O as U).n_.bind λds=>uq m x ds
|.ix a b=>λU=>(pE O a U).bind λx=>(pE O b U).bind λy=>iY x y
|.sl a lo hi=>λU=>(pE O a U).bind λx=>(pO O lo U).bind λl=>(pO O hi U).bind λh=>Jb x l h
|.lst as=>λU=>(gv O as U).bind λds=>.bV (decide (zl ds<=aj)) (.ok (.lst W ds))
|.tup as=>λU=>(gv O as U).bind λds=>.bV (decide (zl ds<=aj)) (.ok (.tup ds))
|.dct=>λ_=>.ok (.cW W [] [])
|.comp nl fr elt tg src cond=>λU=>(pI O src U).bind λitems=>(dS (pG tg) (pC O cond) (pE O elt) items.2 (nl.map (λ_=>S)++fr.map (λi=>U.getD i S))).n_.bind λds=>.ok (.lst W ds)
|.att g a f=>λU=>(pE O a U).bind λx=>rG O g f x
|.dcT=>λ_=>.ok (.bS W [] [])
|.trg as=>λU=>(gv O as U).bind λds=>HF ds
|.sit a=>λU=>(pE O a U).bind λx=>LY x
|.lrv a=>λU=>(pE O a U).bind λx=>LZ x
|.skl g fr n body=>λU=>HJ O g (pE O n U) (pE O body) (fr.map λi=>U.getD i S)
noncomputable def pT(O:M PG):CE->br->R Bool
|.not a=>λU=>(pT O a U).bind λb=>.ok (!b)
|.and a b=>λU=>(pT O a U).bind λc=>if c=W then pT O b U else .ok B
|.or a b=>λU=>(pT O a U).bind λc=>if c=W then .ok W else pT O b U
|.ite c a b=>λU=>(pT O c U).bind λk=>if k=W then pT O a U else pT O b U
|.cmp op a b=>λU=>(pE O a U).bind λx=>(pE O b U).bind λy=>(gE op x y).bind λz=>match z with
 |.bl k=>.ok k
 |_=>.bad
|.var i=>λU=>match U[i]? with
 |some (L d)=>kI d
 |_=>.bad
|.ix a b=>λU=>((pE O a U).bind λx=>(pE O b U).bind λy=>iY x y).bind kI
|.call g as=>λU=>match O[g]? with
 |some (.fn m dds)=>((gv O as U).bind λds=>m (aA ds++dds)).bind kI
 |_=>.bad
|.blt f as=>λU=>((gv O as U).bind λds=>h_ f ds).bind kI
|.isi a t=>λU=>(pE O a U).bind λx=>.bV (sX x) (.ok (yx t x))
|.mth m o as=>λU=>(pE O o U).bind λx=>(gv O as U).n_.bind λds=>(uq m x ds).bind kI
|_=>λ_=>.bad
noncomputable def gv(O:M PG):iV->br->R (M D)
|.nil=>λ_=>.ok []
|.cons a r=>λU=>(pE O a U).bind λx=>(gv O r U).bind λxs=>.ok (x::xs)
noncomputable def pO(O:M PG):CO->br->R (abM J)
|.none=>λ_=>.ok S
|.some a=>λU=>(pE O a U).bind λx=>match x with
 |.int i=>.ok (L i)
 |_=>.bad
noncomputable def pC(O:M PG):CO->br->R Bool
|.none=>λ_=>.ok W
|.some a=>pT O a
noncomputable def pG:CG->D->br->R br
|.name i=>λd U=>.ok (U.set i (L d))
|.tup gs=>λd U=>match d with
 |.tup ds=>.bV (decide (zl ds=gs.len)) (BE gs ds U)
 |_=>.bad
|.sub _ _=>λ_ _=>.bad
noncomputable def BE:xO->M D->br->R br
|.nil=>λds U=>match ds with
 |[]=>.ok U
 |_=>.bad
|.cons g r=>λds U=>match ds with
 |d::dr=>(pG g d U).bind fun σ'=>BE r dr σ'
 |_=>.bad
noncomputable def pI(O:M PG):CI->br->R (Bool×M D)
|.seq a=>λU=>(pE O a U).bind λx=>(vj x).bind λds=>.ok (aU x,ds)
|.range as=>λU=>(gv O as U).bind λxs=>(EI xs).bind λds=>.ok (W,ds)
|.enum a=>λU=>(pE O a U).bind λx=>match x with
 |.lst _ xs=>.ok (aU x,ir 0 (aA xs))
 |_=>.bad
|.rev a=>λU=>(pE O a U).bind λx=>match x with
 |.lst _ xs=>.ok (aU x,(aA xs).reverse)
 |_=>.bad
|.rrg a=>λU=>(pE O a U).bind λx=>L0 x
|.kys _=>λ_=>.bad
end
mutual
noncomputable def dW:CE->Bool
|.con v=>match v with
 |.str x=>decide (x.length<=aj)
 |_=>W
|.bin _ a b=>dW a&&dW b
|.neg a=>dW a
|.not a=>dW a
|.and a b=>dW a&&dW b
|.or a b=>dW a&&dW b
|.ite c a b=>dW c&&(dW a&&dW b)
|.cmp _ a b=>dW a&&dW b
|.call _ as=>l6 as
|.blt _ as=>l6 as
|.isi a _=>dW a
|.mth _ o as=>dW o&&l6 as
|.ix a b=>dW a&&dW b
|.sl a lo hi=>dW a&&(R1 lo&&R1 hi)
|.lst as=>l6 as
|.tup as=>l6 as
|.comp _ _ elt _ src cond=>dW elt&&(ltI src&&R1 cond)
|.att _ a _=>dW a
|.dcT=>W
|.trg as=>l6 as
|.sit a=>dW a
|.lrv a=>dW a
|.skl _ _ n b=>dW n&&dW b
|_=>W
noncomputable def l6:iV->Bool
|.nil=>W
|.cons a r=>dW a&&l6 r
noncomputable def R1:CO->Bool
|.none=>W
|.some a=>dW a
noncomputable def ltI:CI->Bool
|.seq a=>dW a
|.range as=>l6 as
|.enum a=>dW a
|.rev a=>dW a
|.rrg a=>dW a
|.kys a=>dW a
end
noncomputable def yq:Bf->iV->Bool
|.len,.cons (.var _) .nil=>W
|_,_=>B
mutual
noncomputable def cK:CE->M Nat
|.var i=>[i]
|.con _=>[]
|.bin _ a b=>cK a++cK b
|.neg a=>cK a
|.not a=>cK a
|.and a b=>cK a++cK b
|.or a b=>cK a++cK b
|.ite c a b=>cK c++(cK a++cK b)
|.cmp _ a b=>cK a++cK b
|.call _ as=>gX as
|.blt f as=>if yq f as=W then[]else gX as
|.isi a _=>cK a
|.mth _ o as=>cK o++gX as
|.ix a b=>cK a++cK b
|.sl a lo hi=>cK a++(Jc lo++Jc hi)
|.lst as=>gX as
|.tup as=>gX as
|.dct=>[]
|.comp _ fr _ _ src _=>wB src++fr
|.att _ a _=>cK a
|.dcT=>[]
|.trg as=>gX as
|.sit a=>cK a
|.lrv a=>cK a
|.skl _ fr n _=>cK n++fr
noncomputable def gX:iV->M Nat
|.nil=>[]
|.cons a r=>cK a++gX r
noncomputable def Jc:CO->M Nat
|.none=>[]
|.some a=>cK a
noncomputable def wB:CI->M Nat
|.seq a=>cK a
|.range as=>gX as
|.enum a=>cK a
|.rev a=>cK a
|.rrg a=>cK a
|.kys a=>cK a
end
def NT:abM HO->Prop
|none=>True
|some (.tup _)=>True
|_=>bu
def NT.of(h:o=S):NT o:=by rw[h];trivial
def NT.own(h:NT o)(e:o=L u)(k:LW u):bu:=by
 subst e;cases u<;>first|exact h.elim|exact k.elim
structure cj (F H F' H':Hp):Prop where
 h:bh H H'
 f:bh F F'
 s:bh F' H'
 n:∀b o,F' b=L o->F b=S->NT (H b)
structure jt (fp:M Addr) (H F':Hp):Prop where
 nd:fp.Nodup
 nh:∀a∈fp,H a=S
 nf:∀a∈fp,F' a=S
section
variable{K:ak}{H H1 H2 F F1 F2:Hp}
def cj.refl(s:bh F H):cj F H F H:=#[bh.refl _,bh.refl _,s,λb o h h'=>by rw[h]at h';cases h']
def bh.none(e:bh H H1)(h:H1 a=S):H a=S:=by
 cases q:H a with
 |none=>rfl
 |some o=>rw[e a o q]at h;cases h
def NT.back(e:bh H H1)(h:NT (H1 a)):NT (H a):=by
 cases q:H a with
 |none=>trivial
 |some o=>rw[e a o q]at h;exact h
def cj.trans(g:cj F H F1 H1)(g':cj F1 H1 F2 H2):cj F H F2 H2:=#[g.h.trans g'.h,g.f.trans g'.f,g'.s,λb o h h'=>by
 cases q:F1 b with
 |none=>exact NT.back g.h (g'.n b o h q)
 |some u=>exact g.n b u q h']
def jt.nil:jt [] H F:=#[gA,λ_ h=>aH h aD,λ_ h=>aH h aD]
mutual
theorem bI.ex:∀(d:D) (v:V) (fp:M Addr),bI K H F d v fp->∀a∈fp,∃o,H a=L o/\LW o
|.non,v,fp,h=>by rw[h.2];intro a ha;cases ha
|.bl b,v,fp,h=>by rw[h.2];intro a ha;cases ha
|.int i,v,fp,h=>by rw[h.2];intro a ha;cases ha
|.str x,v,fp,h=>by rw[h.2];intro a ha;cases ha
|.lst o ds,v,fp,h=>by
 unfold bI at h;split at h
 .obtain⟨a,vs,fs,h1,h2,h3,h4,rfl⟩:=h;intro b hb;rcases be.mp hb with rfl|hb
  .exact#[_,h2,trivial]
  .exact aN.ex ds vs fs h4 b hb
 .rw[h.2];intro a ha;cases ha
|.tup ds,v,fp,h=>by
 let#[a,vs,h1,h2,h3,h4]:=h;exact aN.ex ds vs fp h4
|.cW o ks ds,v,fp,h=>by
 unfold bI at h;split at h
 .obtain⟨a,vs,fs,h1,h2,h3,h4,h5,rfl⟩:=h;intro b hb;rcases be.mp hb with rfl|hb
  .exact#[_,h2,trivial]
  .exact aN.ex ds _ fs h5 b hb
 .rw[h.2];intro a ha;cases ha
|.bS o ks ds,v,fp,h=>by
 unfold bI at h;split at h
 .obtain⟨a,vs,fs,h1,h2,h3,h4,h5,rfl⟩:=h;intro b hb;rcases be.mp hb with rfl|hb
  .exact#[_,h2,trivial]
  .exact aN.ex ds _ fs h5 b hb
 .rw[h.2];intro a ha;cases ha
|.obj o C ks ds,v,fp,h=>by
 unfold bI at h;split at h
 .obtain⟨a,dx,vs,fs,h1,h2,h3,h4,h5,rfl⟩:=h;intro b hb;rcases be.mp hb with rfl|hb
  .exact#[_,h2.1,trivial]
  .rcases be.mp hb with rfl|hb
   .exact#[_,h2.2,trivial]
   .exact aN.ex ds _ fs h5 b hb
 .rw[h.2];intro a ha;cases ha
theorem aN.ex:∀(ds:M D) (vs:M V) (fp:M Addr),aN K H F ds vs fp->∀a∈fp,∃o,H a=L o/\LW o
|[],vs,fp,h=>by rw[h.2];intro a ha;cases ha
|d::ds,vs,fp,h=>by
 let#[v,r,f1,f2,h1,rfl,h3,h4]:=h;intro a ha;rcases bw.mp ha with ha|ha
 .exact bI.ex d v f1 h3 a ha
 .exact aN.ex ds r f2 h4 a ha
end
noncomputable def adopt(F H:Hp)(fp:M Addr):Hp:=λb=>if b∈fp then H b else F b
def nB(h:a∈fp):adopt F H fp a=H a:=aF h
def ku(h:a∉fp):adopt F H fp a=F a:=aG h
def fM(s:bh F H):bh F (adopt F H fp):=λb o h=>by
 by_cases q:b∈fp
 .rw[nB q];exact s b o h
 .rw[ku q];exact h
def iH(s:bh F H):bh (adopt F H fp) H:=λb o h=>by
 by_cases q:b∈fp
 .rw[nB q]at h;exact h
 .rw[ku q]at h;exact s b o h
def z6(g:cj F H F1 H1)(n:∀a∈fp,H a=S):cj F H (adopt F1 H1 fp) H1:=#[g.h,g.f.trans (fM g.s),iH g.s,λb o h h'=>by
 by_cases q:b∈fp
 .exact .of (n b q)
 .rw[ku q]at h;exact g.n b o h h']
def PM(g:cj F H F1 H1)(fr:jt fp H F1)(r:bI K H1 F1 d v fp):∃F2,cj F H F2 H1/\bh F1 F2/\bx K F2 d v:=
 #[adopt F1 H1 fp,z6 g fr.nh,fM g.s,bI.fix (fM g.s) d v fp (λ_ ha=>nB ha) r]
def PN(g:cj F H F1 H1)(fr:jt fp H F1)(r:aN K H1 F1 ds vs fp):∃F2,cj F H F2 H1/\bh F1 F2/\aM K F2 ds vs:=
 #[adopt F1 H1 fp,z6 g fr.nh,fM g.s,aN.fix (fM g.s) ds vs fp (λ_ ha=>nB ha) r]
def carry(g:cj F1 H1 F2 H2)(fr:jt fp H F1)(r:bI K H1 F1 d v fp):bI K H2 F2 d v fp/\(∀a∈fp,F2 a=S):=by
 refine#[bI.mono g.f d v fp (λa ha=>?_) r,λa ha=>?_]
 .obtain⟨o,e,_⟩:=bI.ex d v fp r a ha;rw[e,g.h a o e]
 .obtain⟨o,e,k⟩:=bI.ex d v fp r a ha;cases q:F2 a with
  |none=>rfl
  |some u=>exact((g.n a u q (fr.nf a ha)).own e k).elim
def acW(g:cj F1 H1 F2 H2)(fr:jt fp H F1)(r:aN K H1 F1 ds vs fp):aN K H2 F2 ds vs fp/\(∀a∈fp,F2 a=S):=by
 refine#[aN.mono g.f ds vs fp (λa ha=>?_) r,λa ha=>?_]
 .obtain⟨o,e,_⟩:=aN.ex ds vs fp r a ha;rw[e,g.h a o e]
 .obtain⟨o,e,k⟩:=aN.ex ds vs fp r a ha;cases q:F2 a with
  |none=>rfl
  |some u=>exact((g.n a u q (fr.nf a ha)).own e k).elim
def jt.app(s:bh H H1)(a1:jt f1 H F1)(e1:∀a∈f1,∃o,H1 a=L o)(k1:∀a∈f1,F2 a=S)(a2:jt f2 H1 F2):jt (f1++f2) H F2:=by
 refine#[cT.mpr #[a1.nd,a2.nd,λa h1 b h2 z=>?_],λa ha=>?_,λa ha=>?_]
 .subst z;let#[o,e]:=e1 a h1;rw[a2.nh a h2]at e;cases e
 .rcases bw.mp ha with h|h
  .exact a1.nh a h
  .exact bh.none s (a2.nh a h)
 .rcases bw.mp ha with h|h
  .exact k1 a h
  .exact a2.nf a h
def newList{vs:M V}(s:bh F H)(hp:H p=S):cj F H F (upd H p o)/\F p=S:=by
 have hf:=bh.none s hp;refine#[#[λb u q=>by rw[aY (bZ q hp)];exact q,bh.refl _,λb u q=>by rw[aY (bZ q hf)];exact s b u q,λb o h h'=>by rw[h]at h';cases h'],hf]
def FW(s:bh F H)(hp:H p=S):cj F H (upd F p o) (upd H p o):=by
 have hf:=bh.none s hp;refine#[λb u q=>by rw[aY (bZ q hp)];exact q,λb u q=>by rw[aY (bZ q hf)];exact q,λb u q=>?_,λb u q q'=>?_]
 .by_cases e:b=p
  .subst e;rw[bQ]at q ⊢;exact q
  .rw[aY e]at q ⊢;exact s b u q
 .by_cases e:b=p
  .subst e;exact .of hp
  .rw[aY e]at q;rw[q]at q';cases q'
end
class Ex where
 E:XK
def PV[Ex](K:ak)(F H:Hp)(r:R D)(Q:VK):Prop:=match r with
|.ok d=>∀F' H' v fp,cj F H F' H'->jt fp H F'->bI K H' F' d v fp->Q v H'
|.bad=>bu
def AE[Ex](K:ak)(F H:Hp)(r:R (M D))(Q:M V->Hp->Prop):Prop:=match r with
|.ok ds=>∀F' H' vs fp,cj F H F' H'->jt fp H F'->aN K H' F' ds vs fp->Q vs H'
|.bad=>bu
def PB[Ex]{α:Type}(K:ak)(F H:Hp)(r:R α)(Q:α->Hp->Prop):Prop:=match r with
|.ok b=>∀F' H',cj F H F' H'->Q b H'
|.bad=>bu
def ItF(K:ak)(F:Hp)(d:D):Item->Prop
|.v x=>bx K F d x
|.tup xs=>∃ds,d=.tup ds/\aM K F ds xs/\zl xs<=aj
def kJ(K:ak)(F:Hp):M D->M Item->Prop
|[],its=>its=[]
|d::ds,its=>∃it r,its=it::r/\ItF K F d it/\kJ K F ds r
noncomputable def minus(F:Hp)(A:M Addr):Hp:=λb=>if b∈A then S else F b
def vQ(own:Bool)(F:Hp)(A:M Addr):Hp:=if own=W then minus F A else F
def PI'[Ex](K:ak)(A:M Addr)(F H:Hp)(r:R (Bool×M D))(k:(Hp->Prop)->M Item->Hp->Prop):Prop:=match r with
|.ok ds=>∀F' H' ok its,cj F H F' H'->(∀H'',bh (vQ ds.1 F' A) H''->ok H'')->kJ K (vQ ds.1 F' A) ds.2 its->zl ds.2<=aj->k ok its H'
|.bad=>bu
def VD(K:ak)(H:Hp)(Y:br)(U:L2.St):Prop:=∀(k:Nat) d,Y[k]?=L (L d)->∃v F',U[k]?=L (L v)/\bh F' H/\bx K F' d v
structure kK (K:ak) (F H:Hp) (is:M Nat) (Y:br) (U:L2.St):Prop where
 e:∀i∈is,∀d,Y[i]?=L (L d)->∃v,U[i]?=L (L v)/\bx K F d v
 n:VD K H Y U
def yZ(K:ak)(m:M D->R D):Sp:=λvs H Q E=>∃F ds,bh F H/\aA ds=ds/\aM K F ds vs/\@PV ⟨E⟩ K F H (m ds) Q
def Jd(K:ak)(m:M D->R D):Sp:=λvs H Q E=>∃F ds vr H0 a us es,vs=vr++[.ref a]/\H=upd H0 a (.lst us)/\H0 a=S/\zl us<=aj/\bh F H0/\aA ds=ds/\aM K F ds vr/\aN K H F es us []/\@PV ⟨E⟩ K F H0 (m (ds++[.lst W es])) Q
def VE(K:ak):PG->G->Prop
|.val d,.val v=>bx K (λ_=>S) d v
|.val d,.tup a _=>bx K (λ_=>S) d (.ref a)
|.fn m dds,.fn sp dvs=>(∀vs H Q E,yZ K m vs H Q E->sp vs H Q E)/\aA dds=dds/\aM K (λ_=>S) dds dvs
|.jO C as,.jO C' as'=>C=C'/\as=as'
|.fh m,.fh sp=>∀vs H Q E,yZ K m vs H Q E->sp vs H Q E
|.fe _,.fn _ _=>True
|.lam,.lam _=>True
|.fm m,.fn sp dvs=>dvs=[]/\∀vs H Q E,Jd K m vs H Q E->sp vs H Q E
|.nop,.nop=>True
|_,_=>bu
def eY(K:ak):M PG->M G->Prop
|p::ps,gs=>∃g r,gs=g::r/\VE K p g/\eY K ps r
|[],_=>True
theorem eY.get:∀{ps:M PG}{gs:M G} (i:Nat) {p:PG},eY K ps gs->ps[i]?=L p->∃g,gs[i]?=L g/\VE K p g
|[],_,i,_,_,e=>by simp at e
|p::ps,_,0,_,h,e=>by
 let#[g,r,rfl,h2,_]:=h;simp at e;subst e;exact#[g,rfl,h2]
|p::ps,_,i+1,_,h,e=>by
 let#[g,r,rfl,_,h3]:=h;let#[w,e1,e2]:=eY.get i h3 (by simpa using e);exact#[w,by simpa using e1,e2]
def HL(K:ak)(Γp:M PG)(O:M G)(H0:Hp):Prop:=∀(g:Nat) (m:M D->R D),Γp[g]?=L (.fe m)->∃(e:Addr) (sp0:Sp) (C:Addr) (od:abM Addr),O[g]?=L (.fn (spE e sp0) [])/\H0 e=L (exH B e C od)/\∀vs H Q E,yZ K m vs H Q E->sp0 vs H Q E
def ji(h:b∉A):minus F A b=F b:=aG h
def EJ(h:b∈A):minus F A b=S:=aF h
theorem Je(F:Hp):minus F []=F:=by rfl
def R3(o:Bool)(F:Hp):vQ o F []=F:=by unfold vQ;rw[Je];split<;>rfl
def m_(F:Hp)(A:M Addr):bh (minus F A) F:=λb o h=>by
 by_cases q:b∈A
 .rw[EJ q]at h;cases h
 .rw[ji q]at h;exact h
def BF(o:Bool)(F:Hp)(A:M Addr):bh (vQ o F A) F:=by
 unfold vQ;split
 .exact m_ F A
 .exact bh.refl F
def rY(H:Hp)(A:M Addr):Prop:=∀a∈A,∃o,H a=L o/\LW o
def pQ(s:bh F H)(h:rY H A):LX F (minus F A):=λb o q=>by
 by_cases z:b∈A
 .obtain⟨u,e,k⟩:=h b z;rw[s b o q]at e;cases e;exact .inr k
 .exact .inl (by rw[ji z];exact q)
def rY.mono(s:bh H H')(h:rY H A):rY H' A:=λa ha=>by
 let#[o,e,k]:=h a ha;exact#[o,s a o e,k]
def PR(hA:rY H A)(g:cj F H F1 H1)(fr:jt fp H F1)(r:bI K H1 F1 d v fp):∃F2,cj F H F2 H1/\bx K (vQ (aU d) F2 A) d v:=by
 have g2:=z6 g fr.nh;refine#[adopt F1 H1 fp,g2,?_];unfold vQ;by_cases ho:aU d=W
 .rw[aF ho];have r2:=bI.less (pQ g.s (hA.mono g.h)) d v fp ho r;refine bI.fix ?_ d v fp ?_ r2
  .intro b o q;by_cases z:b∈A
   .rw[EJ z]at q;cases q
   .rw[ji z]at q ⊢;exact fM g.s b o q
  .intro a ha;have z:a∉A:=λz=>by
    let#[o,e,_]:=hA a z;rw[fr.nh a ha]at e;cases e
   rw[ji z,nB ha]
 .rw[aG ho];exact bI.fix (fM g.s) d v fp (λ_ ha=>nB ha) r
section
variable{K:ak}{H H1 F F1:Hp}{Y:br}{U:L2.St}
def kK.l(h:kK K F H (a++b) Y U):kK K F H a Y U:=#[λi hi=>h.e i (bC _ hi),h.n]
def kK.r(h:kK K F H (a++b) Y U):kK K F H b Y U:=#[λi hi=>h.e i (aJ _ hi),h.n]
def kK.mono(h:kK K F H a Y U)(g:cj F H F1 H1):kK K F1 H1 a Y U:=#[λi hi d hd=>by
 let#[v,h1,h2]:=h.e i hi d hd;exact#[v,h1,bx.mono g.f d v h2],λk d e=>by
 let#[v,F',h1,h2,h3]:=h.n k d e;exact#[v,F',h1,h2.trans g.h,h3]]
def PV.int[Ex](h:PV K F H (.ok (.int n)) Q)(s:bh F H):PV K F' H (.ok (.int n)) Q:=λF2 H2 v fp g fr r=>by
 let#[rfl,rfl]:=r;exact h F H2 _ [] #[g.h,bh.refl _,s.trans g.h,λb o q q'=>by rw[q]at q';cases q'] .nil #[rfl,rfl]
def PV.grow[Ex](h:PV K F H r Q)(g:cj F H F1 H1):PV K F1 H1 r Q:=by
 cases r with
 |ok d=>exact λF' H' v fp g' fr rx=>h F' H' v fp (g.trans g') #[fr.nd,λa ha=>bh.none g.h (fr.nh a ha),fr.nf] rx
 |bad=>exact h
def PB.grow[Ex]{α:Type}{r:R α}{Q:α->Hp->Prop}(h:PB K F H r Q)(g:cj F H F1 H1):PB K F1 H1 r Q:=by
 cases r with
 |ok d=>exact λF' H' g'=>h F' H' (g.trans g')
 |bad=>exact h
def PV.here[Ex](h:PV K F H (.ok (bq d)) Q)(s:bh F H)(r:bx K F d v):Q v H:=h F H v [] (cj.refl s) .nil (bx.wA d v r)
def PV.flat[Ex](h:PV K F H (.ok d) Q)(s:bh F H)(r:bI K H F d v []):Q v H:=h F H v [] (cj.refl s) .nil r
def nQ{α:Type}{r:R α}{a:α}(h:R.bV b r=.ok a):b=W/\r=.ok a:=by
 cases b with
 |true=>exact#[rfl,h]
 |false=>cases h
def PV.bV[Ex](h:PV K F H (R.bV b r) Q):b=W/\PV K F H r Q:=by
 cases b with
 |true=>exact#[rfl,h]
 |false=>exact h.elim
def PB.bV[Ex]{α:Type}{b:Bool}{r:R α}{Q:α->Hp->Prop}(h:PB K F H (R.bV b r) Q):b=W/\PB K F H r Q:=by
 cases b with
 |true=>exact#[rfl,h]
 |false=>exact h.elim
end
theorem szl:aj=16777216:=by rfl
theorem HM(x:Str):x.cps.toList.length=x.length:=by rfl
theorem R4(l:M Nat):(⟨l.toArray⟩:Str).length=l.length:=by rfl
def PU(z:Str)(n:Nat):(yY z n).length=z.length*n:=by
 unfold yY;rw[R4];induction n with
 |zero=>simp
 |succ n ih=>rw[eB,gC,bf,ih,HM,M9,M_]
def Oh{α:Type}(l:M α)(lo hi:abM J):zl (cut l lo hi)<=zl l:=by
 unfold cut;rw[cR,dz]
 lia
def ud{α:Type}{xs:M α}{i:J}{x:α}(h:dj xs i=L x):∃j,iU (zl xs) i=L j/\xs[j]?=L x:=by
 unfold dj at h;cases q:iU (zl xs) i with
 |none=>simp_all
 |some j=>simp_all
def y9{α:Type}{xs:M α}{i:J}{j:Nat}{x:α}(h:iU (zl xs) i=L j)(e:xs[j]?=L x):dj xs i=L x:=by
 unfold dj;rw[h];exact e
section
variable{K:ak}{H H0 F F0:Hp}
def Jf(r:bx K F x v):decide (v=.non)=dm x:=by
 cases x with
 |non=>rw[show v=.non from r];rfl
 |bl b=>rw[show v=.bl b from r];rfl
 |int i=>rw[show v=.int i from r];rfl
 |str z=>rw[show v=.str z from r.1];rfl
 |lst o ds=>let#[a,vs,rfl,_]:=r;rfl
 |tup ds=>let#[a,vs,rfl,_]:=r;rfl
 |cW o ks ds=>let#[a,vs,rfl,_]:=r;rfl
 |bS o ks ds=>let#[a,vs,rfl,_]:=r;rfl
 |obj o C ks ds=>let#[a,dx,vs,rfl,_]:=r;rfl
def R5(r:bx K F x v)(h:dm x=W):v=.non:=by
 cases x<;>first|exact r|(cases h)
def uu{x:D}{v:V}{k:Key}(r:bx K F x v)(h:mQ x=L k):v=kV k:=by
 cases x with
 |int i=>cases h;exact r
 |str z=>cases h;exact r.1
 |_=>cases h
theorem BG:∀{ds:M D}{vs:M V}{k:M Key},aM K F ds vs->qW ds=L k->vs=k.map kV/\keysOk k=W
|[],_,_,h,e=>by cases h;cases e;exact#[rfl,rfl]
|d::ds,_,k,h,e=>by
 let#[v,r,rfl,h2,h3]:=h;unfold qW at e;cases hd:mQ d with
 |none=>rw[hd]at e;cases e
 |some q=>
  rw[hd]at e;cases hr:qW ds with
  |none=>rw[hr]at e;cases e
  |some rs=>
   rw[hr]at e;cases e;let#[w1,w2]:=BG h3 hr;refine#[by rw[uu h2 hd,w1];rfl,?_];show(keyOk q&&keysOk rs)=W;rw[w2,nY];cases d with
   |int i=>cases hd;rfl
   |str z=>cases hd;exact a_ h2.2
   |_=>cases hd
def z7{x:D}{v:V}{k:M Key}(r:bx K F x v)(h:iP x=L k):∃b,v=.ref b/\F b=L (.tup (k.map kV))/\nO k=W:=by
 cases x with
 |tup ds=>
  let#[a,vs,rfl,h2,h3,h4]:=r;let#[w1,w2]:=BG h4 h;subst w1;refine#[a,rfl,h2,?_];unfold nO;rw[w2,vE];rw[aa]at h3;exact a_ h3
 |_=>cases h
theorem L1{κ:Type}[eT κ]:∀(kvs:M (κ×V)) (k:κ),jE (kvs.map (·.1)) k=(jo kvs k).isSome
|[],k=>rfl
|p::r,k=>by
 have ih:=L1 r k;unfold jE at ih ⊢;unfold jo at ih ⊢;simp only[bJ,vB,iz];by_cases e:p.1=k
 .simp[e]
 .simp only[e,pJ,Kv];exact ih
theorem wF{κ:Type}[eT κ]:∀(kvs:M (κ×V)) (ds:M D) (k:κ),aM K F ds (kvs.map (·.2))->match iQ (kvs.map (·.1)) ds k with
 |some d=>∃v,jo kvs k=L v/\bx K F d v
 |none=>jo kvs k=S
|[],ds,k,h=>by rfl
|p::r,[],k,h=>by cases h
|p::r,d::ds,k,h=>by
 let#[v,vs,e,h2,h3]:=h;simp only[bJ]at e;injection e with e1 e2;subst e1 e2;simp only[bJ,iQ];by_cases q:p.1=k
 .rw[aF q];exact#[p.2,by simp[jo,iz,q],h2]
 .rw[aG q];have ih:=wF r ds k h3;have z:jo (p::r) k=jo r k:=by simp[jo,iz,q]
  rw[z];exact ih
theorem rH:∀(xs ys:M D),aA (xs++ys)=aA xs++aA ys
|[],_=>rfl
|x::r,ys=>by show bq x::aA (r++ys)=_;rw[rH r ys];rfl
theorem uw:∀xs:M D,zl (aA xs)=zl xs
|[]=>rfl
|x::r=>by show(aA r).length+1=_;rw[uw r];rfl
def PV.lst[Ex]{ds:M D}{vs:M V}{Q:VK}{p:Addr}(h:PV K F H (.ok (.lst W (aA ds))) Q)(s:bh F H)(r:aM K F ds vs)(hl:zl vs<=aj)(hp:H p=S):Q (.ref p) (upd H p (.lst vs)):=by
 let#[g,hf]:=newList (vs:=vs) s hp;refine h F _ (.ref p) [p] g #[by simp,?_,?_] ?_
 .simp_all
 .simp_all
 .unfold bI;rw[aF rfl];exact#[p,vs,[],rfl,bQ,hl,aM.wA ds vs r,rfl]
def PV.tup[Ex]{ds:M D}{vs:M V}{Q:VK}{p:Addr}(h:PV K F H (.ok (.tup (aA ds))) Q)(s:bh F H)(r:aM K F ds vs)(hl:zl vs<=aj)(hp:H p=S):Q (.ref p) (upd H p (.tup vs)):=by
 have g:=FW (o:=.tup vs) s hp;refine h _ _ (.ref p) [] g .nil ?_;exact#[p,vs,rfl,bQ,hl,aM.wA ds vs (aM.mono g.f ds vs r)]
theorem L4:∀(n:Nat) {ds:M D}{vs:M V},aM K F ds vs->aM K F (aR n ds).flatten (aR n vs).flatten
|0,_,_,_=>rfl
|n+1,ds,vs,r=>by
 rw[eB,eB,gC,gC];exact aM.app r (L4 n r)
def VF(n:Nat)(xs:M D):(aR n (aA xs)).flatten=aA (aR n xs).flatten:=by
 induction n with
 |zero=>rfl
 |succ n ih=>rw[eB,eB,gC,gC,rH,ih]
def aeP[Ex](s:bh F H)(rx:bx K F x v)(ry:bx K F y u)(h:PV K F H (nA op x y) Q):U6 K op v u H Q:=by
 cases x with
 |int i=>
  cases rx;cases y with
  |int j=>
   cases ry;cases op<;>first|exact h.elim|exact h.flat s ⟨rfl,rfl⟩|(let#[c,h]:=h.bV;exact#[aE c,h.flat s #[rfl,rfl]])
  |_=>exact h.elim
 |str z=>
  let#[rfl,hz]:=rx;cases y with
  |int j=>
   cases ry;cases op<;>first|exact h.elim|skip
   let#[c,h]:=h.bV;have c:=aE c;exact#[c,h.flat s #[#[rfl,by rw[PU];exact c.2.2],rfl]]
  |str q=>
   let#[rfl,hq]:=ry;cases op<;>first|exact h.elim|skip
   let#[c,h]:=h.bV;have c:=aE c;exact#[c,h.flat s #[#[rfl,by rw[Str.length_append];exact c],rfl]]
  |_=>exact h.elim
 |lst o xs=>
  let#[a,vs,rfl,h2,h3,h4]:=rx;cases y with
  |lst o' ys=>
   let#[b,us,rfl,k2,k3,k4]:=ry;cases op<;>first|exact h.elim|skip
   let#[c,h]:=h.bV;have c:=aE c;rw[<-h4.len,<-k4.len]at c;rw[<-rH]at h;exact .inl #[vs,us,Rd.same s h2,Rd.same s k2,c,λp hp=>h.lst s (h4.app k4) (by rw[bf];exact c) hp]
  |int k=>
   cases ry;cases op<;>first|exact h.elim|skip
   let#[c,h]:=h.bV;have c:=aE c;rw[<-h4.len]at c;rw[VF]at h;refine#[vs,Rd.same s h2,c.1,c.2,λp hp=>h.lst s (L4 _ h4) ?_ hp];have z:∀n,(aR n vs).flatten.length=vs.length*n:=by
    intro n;induction n with
    |zero=>rfl
    |succ n ih=>rw[eB,gC,bf,ih,M9,M_]
   rw[z];exact c.2
  |_=>exact h.elim
 |tup xs=>
  let#[a,vs,rfl,h2,h3,h4]:=rx;cases y with
  |tup ys=>
   let#[b,us,rfl,k2,k3,k4]:=ry;cases op<;>first|exact h.elim|skip
   let#[c,h]:=h.bV;simp only[cu,eF,vL,List.isEmpty_eq_false_iff]at c;let#[#[c1,c2],c3]:=c;rw[<-h4.len,<-k4.len]at c3;rw[<-rH]at h;refine .inr #[vs,us,(tupS h2).same' s,(tupS k2).same' s,?_,?_,c3,λp hp=>h.tup s (h4.app k4) (by rw[bf];exact c3) hp]
   .rintro rfl;exact c1 (jr (by rw[<-h4.len];rfl))
   .rintro rfl;exact c2 (jr (by rw[<-k4.len];rfl))
  |_=>exact h.elim
 |_=>exact h.elim
def okIn(s:bh F H)(rx:bx K F x v)(ry:bx K F y u)(h:inD x y=.ok b){Q:Bool->Prop}(q:Q b):∃a,u=.ref a/\((∃t xs dx ds,iW K H a t xs/\bx K H dx v/\aM K H ds xs/\dP dx=W/\jw ds=W/\Q (memD dx ds))\/∃kvs k b,Rd H a (.dT kvs)/\v=.ref b/\H b=L (.tup (k.map kV))/\Q (jo kvs k).isSome):=by
 cases y with
 |lst o ys=>
  let#[a,us,rfl,k2,k3,k4]:=ry;let#[c,e]:=nQ h;cases e;have c:dP x=W/\jw ys=W:=by simpa using c
  exact#[a,rfl,.inl #[B,us,x,ys,(Rd.seq k2).same' s,bx.mono s _ _ rx,aM.mono s _ _ k4,c.1,c.2,q]]
 |tup ys=>
  let#[a,us,rfl,k2,k3,k4]:=ry;let#[c,e]:=nQ h;cases e;have c:dP x=W/\jw ys=W:=by simpa using c
  exact#[a,rfl,.inl #[W,us,x,ys,(tupS k2).same' s,bx.mono s _ _ rx,aM.mono s _ _ k4,c.1,c.2,q]]
 |bS o ks ds=>
  let#[a,kvs,rfl,k2,k3,k4,k5]:=ry;unfold inD at h;cases e:iP x with
  |none=>rw[e]at h;cases h
  |some k=>
   rw[e]at h;cases h;let#[b,rfl,hb,_]:=z7 rx e;refine#[a,rfl,.inr #[kvs,k,b,.inl (s _ _ k2),rfl,s _ _ hb,?_]];rw[<-k4.1,L1]at q;exact q
 |_=>cases h
def Ys[Ex](s:bh F H)(rx:bx K F x v)(ry:bx K F y u)(h:PV K F H (gE op x y) Q):Hv K op v u H Q:=by
 have ord:(op=.Lt\/op=.Gt)->PV K F H (acU op x y) Q->Hv K op v u H Q:=by
  intro ho h;cases x with
  |int i=>
   cases rx;cases y with
   |int j=>
    cases ry;rcases ho with rfl|rfl<;>exact h.flat s #[rfl,rfl]
   |_=>exact h.elim
  |_=>exact h.elim
 cases op with
 |Lt=>exact ord (.inl rfl) h
 |Gt=>exact ord (.inr rfl) h
 |LtE=>cases x<;>first|exact h.elim|(cases y<;>exact h.elim)
 |GtE=>cases x<;>first|exact h.elim|(cases y<;>exact h.elim)
 |Eq=>
  let#[c,h]:=h.bV;have c:dP x=W/\dP y=W:=by simpa using c
  exact#[x,y,bx.mono s _ _ rx,bx.mono s _ _ ry,c.1,c.2,h.flat s #[rfl,rfl]]
 |NotEq=>
  let#[c,h]:=h.bV;have c:dP x=W/\dP y=W:=by simpa using c
  exact#[x,y,bx.mono s _ _ rx,bx.mono s _ _ ry,c.1,c.2,h.flat s #[rfl,rfl]]
 |Is=>
  let#[c,h]:=h.bV;rw[R5 ry c];show Q (.bl (decide (v=.non))) H;rw[Jf rx];exact h.flat s #[rfl,rfl]
 |IsNot=>
  let#[c,h]:=h.bV;rw[R5 ry c];show Q (.bl (!decide (v=.non))) H;rw[Jf rx];exact h.flat s #[rfl,rfl]
 |In=>
  have h:PV K F H ((inD x y).bind λb=>.ok (.bl b)) Q:=h;cases e:inD x y with
  |ok b=>
   rw[e]at h;let#[a,rfl,z]:=okIn s rx ry e (Q:=λb=>Q (.bl b) H) (h.flat s #[rfl,rfl]);exact z
  |bad=>rw[e]at h;exact h.elim
 |NotIn=>
  have h:PV K F H ((inD x y).bind λb=>.ok (.bl (!b))) Q:=h;cases e:inD x y with
  |ok b=>
   rw[e]at h;let#[a,rfl,z]:=okIn s rx ry e (Q:=λb=>Q (.bl (!b)) H) (h.flat s #[rfl,rfl]);exact z
  |bad=>rw[e]at h;exact h.elim
def PX{Q:Bool->Prop}(s:bh F H)(rx:bx K F x v)(h:kI x=.ok b)(q:Q b):qh K v H Q:=by
 cases x with
 |bl k=>cases rx;cases h;exact q
 |_=>cases h
def cN{α β:Type}{r:R α}{f:α->R β}{b:β}(h:r.bind f=.ok b):∃a,r=.ok a/\f a=.ok b:=by
 cases r with
 |ok a=>exact#[a,rfl,h]
 |bad=>cases h
def wH{α:Type}{o:abM α}{a:α}(h:R.opt o=.ok a):o=L a:=by
 cases o with
 |none=>cases h
 |some b=>cases h;rfl
def PV.some[Ex]{r:R D}{Q:VK}(h:PV K F H r Q):∃d,r=.ok d:=by
 cases r with
 |ok d=>exact#[d,rfl]
 |bad=>exact h.elim
def acY[Ex]{x y:D}{v u:V}{Q:VK}(s:bh F H)(rx:bx K F x v)(ry:bx K F y u)(h:PV K F H (iY x y) Q):LC K v u H Q:=by
 let#[d,e]:=h.some;rw[e]at h;have hs:=szl;cases x with
 |str z=>
  let#[rfl,hz]:=rx;cases y with
  |int i=>
   cases ry;let#[c,e1,e2]:=cN e;cases e2;exact#[hz,c,wH e1,h.flat s #[#[rfl,by show(1:Nat)<=_;lia],rfl]]
  |_=>cases e
 |lst o ds=>
  let#[a,vs,rfl,h2,h3,h4]:=rx;cases y with
  |int i=>
   cases ry;let#[c,e1,e2]:=cN e;cases e2;let#[j,i1,i2]:=ud (wH e1);let#[w,w1,w2]:=h4.get j i2;exact .inl #[B,vs,i,w,rfl,(Rd.seq h2).same' s,y9 (by rw[h4.len];exact i1) w1,h.here s w2]
  |_=>cases e
 |tup ds=>
  let#[a,vs,rfl,h2,h3,h4]:=rx;cases y with
  |int i=>
   cases ry;let#[c,e1,e2]:=cN e;cases e2;let#[j,i1,i2]:=ud (wH e1);let#[w,w1,w2]:=h4.get j i2;exact .inl #[W,vs,i,w,rfl,(tupS h2).same' s,y9 (by rw[h4.len];exact i1) w1,h.here s w2]
  |_=>cases e
 |cW o ks ds=>
  let#[a,kvs,rfl,h2,h3,h4,h5]:=rx;unfold iY at e;cases q:mQ y with
  |none=>simp only[q]at e;cases e
  |some k=>
   simp only[q]at e;let#[c,e1,e2]:=cN e;cases e2;have z:=wF kvs ds k h5;rw[h4.1,wH e1]at z;let#[w,w1,w2]:=z;exact .inr (.inl #[kvs,k,w,.inl (s _ _ h2),uu ry q,w1,h.here s w2])
 |bS o ks ds=>
  let#[a,kvs,rfl,h2,h3,h4,h5]:=rx;unfold iY at e;cases q:iP y with
  |none=>simp only[q]at e;cases e
  |some k=>
   simp only[q]at e;let#[c,e1,e2]:=cN e;cases e2;have z:=wF kvs ds k h5;rw[h4.1,wH e1]at z;let#[w,w1,w2]:=z;let#[b,rfl,hb,_]:=z7 ry q;exact .inr (.inr #[kvs,k,b,w,.inl (s _ _ h2),rfl,s _ _ hb,w1,h.here s w2])
 |_=>cases e
def aM.cut:∀{ds:M D}{vs:M V},aM K F ds vs->∀lo hi,aM K F (L3.cut ds lo hi) (L3.cut vs lo hi):=by
 have dr:∀(n:Nat) {ds:M D}{vs:M V},aM K F ds vs->aM K F (ds.drop n) (vs.drop n):=by
  intro n;induction n with
  |zero=>intro ds vs h;exact h
  |succ n ih=>
   intro ds vs h;cases ds with
   |nil=>cases h;exact rfl
   |cons d ds=>
    let#[v,r,rfl,_,h3]:=h;exact ih h3
 have tk:∀(n:Nat) {ds:M D}{vs:M V},aM K F ds vs->aM K F (ds.take n) (vs.take n):=by
  intro n;induction n with
  |zero=>intro ds vs h;exact rfl
  |succ n ih=>
   intro ds vs h;cases ds with
   |nil=>cases h;exact rfl
   |cons d ds=>
    let#[v,r,rfl,h2,h3]:=h;exact#[v,_,rfl,h2,ih h3]
 intro ds vs h lo hi;unfold L3.cut;rw[h.len];exact tk _ (dr _ h)
def okSl[Ex](s:bh F H)(rx:bx K F x v)(h:PV K F H (Jb x lo hi) Q):Yb K v lo hi H Q:=by
 cases x with
 |str z=>
  let#[rfl,hz]:=rx;refine#[hz,h.flat s #[#[rfl,?_],rfl]];rw[R4];have:=Oh z.cps.toList lo hi;rw[HM]at this
  lia
 |lst o ds=>
  let#[a,vs,rfl,h2,h3,h4]:=rx;exact .inl #[B,vs,(Rd.seq h2).same' s,rfl,λp hp=>h.lst s (h4.cut lo hi) (cH (Oh _ _ _) h3) hp]
 |tup ds=>
  let#[a,vs,rfl,h2,h3,h4]:=rx;cases lo with
  |none=>exact h.elim
  |some n=>
   cases hi with
   |some _=>exact h.elim
   |none=>
    let#[c,h]:=h.bV;have c:=aE c;have en:((n.toNat:Nat):J)=n:=by lia
    have dr:∀(n:Nat) {ds:M D}{vs:M V},aM K F ds vs->aM K F (ds.drop n) (vs.drop n):=by
     intro n;induction n with
     |zero=>intro ds vs h;exact h
     |succ n ih=>
      intro ds vs h;cases ds with
      |nil=>cases h;exact rfl
      |cons d ds=>
       let#[v,r,rfl,_,h3]:=h;exact ih h3
    have hl:=h4.len;exact .inr #[n.toNat,vs,(tupS h2).same' s,by rw[en],rfl,by lia,by lia,λp hp=>h.tup s (dr n.toNat h4) (by rw[dz];lia) hp]
 |_=>exact h.elim
theorem BH:∀{ds:M D}{vs:M V},aM K F ds vs->ds.all lK=W->zQ vs=W/\vs.all sM=ds.all qX/\vs.any sM=ds.any qX
|[],_,h,_=>by cases h;exact#[rfl,rfl,rfl]
|d::ds,_,h,e=>by
 let#[v,r,rfl,h2,h3]:=h;have e':lK d=W/\ds.all lK=W:=by simpa using e
 let#[i1,i2,i3]:=BH h3 e'.2;cases d with
 |bl b=>
  cases h2;refine#[by show(W&&zQ r)=W;rw[i1];rfl,?_,?_]
  .rw[AV,AV,i2];cases b<;>rfl
  .rw[vB,vB,i3];cases b<;>rfl
 |_=>exact aH e'.1 bU
def PV.cW[Ex]{ks:M Key}{ds:M D}{kvs:M (Key×V)}{Q:VK}{p:Addr}(h:PV K F H (.ok (.cW W ks (aA ds))) Q)(s:bh F H)(r:aM K F ds (kvs.map (·.2)))(hk:kvs.map (·.1)=ks/\keysOk ks=W)(hl:zl kvs<=aj)(hp:H p=S):Q (.ref p) (upd H p (.dK kvs)):=by
 let#[g,hf]:=newList (vs:=[]) s hp;refine h F _ (.ref p) [p] g #[by simp,?_,?_] ?_
 .simp_all
 .simp_all
 .unfold bI;rw[aF rfl];exact#[p,kvs,[],rfl,bQ,hl,hk,aM.wA ds _ r,rfl]
set_option tactic.hygienic true in
def R6(h:pairD d=L p):∃k x,d=.tup [k,x]/\mQ k=L p.1/\p.2=x:=by
 unfold pairD at h;split at h
 .rename_i k v;cases e:mQ k with
  |none=>rw[e]at h;cases h
  |some q=>rw[e]at h;cases h;exact#[k,v,rfl,e,rfl]
 .cases h
theorem Jg(s:bh F H):∀{ds:M D}{vs:M V}{ps:M (Key×D)},aM K F ds vs->o7 ds=L ps->
 ∃qs:M (Key×V),RH K H vs qs/\qs.map (·.1)=ps.map (·.1)/\aM K F (ps.map (·.2)) (qs.map (·.2))/\keysOk (ps.map (·.1))=W
|[],_,_,h,e=>by cases h;cases e;exact#[[],.nil,rfl,rfl,rfl]
|d::ds,_,ps,h,e=>by
 let#[v,r,rfl,h2,h3]:=h;unfold o7 at e;cases hd:pairD d with
 |none=>rw[hd]at e;cases e
 |some p=>
  rw[hd]at e;cases hr:o7 ds with
  |none=>rw[hr]at e;cases e
  |some rs=>
   rw[hr]at e;cases e;let#[qs,w1,w2,w3,w4]:=Jg s h3 hr;let#[k,x,rfl,hk,hx]:=R6 hd;let#[a,ws,rfl,t2,t3,t4]:=h2;let#[vk,r1,rfl,rk,t5]:=t4;let#[vx,r2,rfl,rx,t6]:=t5;cases t6;have ek:=uu rk hk;subst ek;refine#[(p.1,vx)::qs,.cons #[a,rfl,((tupS t2).same' s).t8] w1,by rw[bJ,bJ,w2],#[vx,_,rfl,by show bx K F p.2 vx;rw[hx];exact rx,w3],?_];show(keyOk p.1&&keysOk (rs.map (·.1)))=W;rw[w4,nY];cases k with
   |int i=>
    have e:=cB hk;rw[<-e];rfl
   |str z=>
    have e:=cB hk;rw[<-e];exact a_ rk.2
   |_=>cases hk
theorem aM.jy{κ:Type}[eT κ]{kk:κ}(hd:bx K F d v):∀{ds:M D}{kvs:M (κ×V)},aM K F ds (kvs.map (·.2))->aM K F (L3.jy (kvs.map (·.1)) ds kk d) ((kvs.map λkv=>if kv.1=kk then(kv.1,v)else kv).map (·.2))
|[],[],_=>rfl
|[],_::_,h=>by cases h
|_::_,[],h=>by rfl
|e::ds,(k,w)::kvs,h=>by
 let#[u,r,z,h3,h4]:=h;simp only[bJ]at z;injection z with z1 z2;subst z1 z2;have q1:=aM.jy (kk:=kk) hd h4;simp only[bJ,L3.jy];by_cases hk:k=kk
 .rw[aF hk,aF hk];exact#[v,_,rfl,hd,q1]
 .rw[aG hk,aG hk];exact#[w,_,rfl,h3,q1]
def map_put{κ:Type}[eT κ](kvs:M (κ×V))(kk:κ)(v:V):(kvs.map λkv=>if kv.1=kk then(kv.1,v)else kv).map (·.1)=kvs.map (·.1):=by
 rw[bK];apply gJ;intro kv _;show(if kv.1=kk then(kv.1,v)else kv).1=kv.1;split<;>rfl
theorem BI:∀{ps:M (M Key×D)}{qs kvs:M (M Key×V)}{xs:M D},qs.map (·.1)=ps.map (·.1)->aM K F (ps.map (·.2)) (qs.map (·.2))->aM K F xs (kvs.map (·.2))->
 (qB kvs qs).map (·.1)=(gk (kvs.map (·.1)) xs ps).1/\aM K F (gk (kvs.map (·.1)) xs ps).2 ((qB kvs qs).map (·.2))
|[],[],kvs,xs,_,_,h=>#[rfl,h]
|[],_::_,_,_,e,_,_=>by cases e
|_::_,[],_,_,e,_,_=>by cases e
|(k,d)::ps,(k',v)::qs,kvs,xs,e,h1,h2=>by
 simp only[bJ,Y9]at e;let#[rfl,e]:=e;let#[v',r,z,r1,r2]:=h1;simp only[bJ]at z;injection z with z1 z2;subst z1 z2;have hany:(kvs.any λkv=>decide (kv.1=k'))=jE (kvs.map (·.1)) k':=by unfold jE;rw[tU];rfl
 show(qB (putK kvs k' v) qs).map (·.1)=(if jE (kvs.map (·.1)) k'=W then gk (kvs.map (·.1)) (jy (kvs.map (·.1)) xs k' d) ps else gk (kvs.map (·.1)++[k']) (xs++[d]) ps).1 /\
  aM K F (if jE (kvs.map (·.1)) k'=W then gk (kvs.map (·.1)) (jy (kvs.map (·.1)) xs k' d) ps else gk (kvs.map (·.1)++[k']) (xs++[d]) ps).2 ((qB (putK kvs k' v) qs).map (·.2))
 by_cases hh:jE (kvs.map (·.1)) k'=W
 .have e5:putK kvs k' v=kvs.map (λkv=>if kv.1=k' then(kv.1,v)else kv):=by
   unfold putK;rw[hany,aF hh]
  rw[aF hh,e5];have:=BI e r2 (aM.jy (kk:=k') r1 h2);rw[map_put]at this;exact this
 .have e5:putK kvs k' v=kvs++[(k',v)]:=by
   unfold putK;rw[hany,aG hh]
  rw[aG hh,e5];have:=BI (kvs:=kvs++[(k',v)]) (xs:=xs++[d]) e r2 (by rw[bE];exact h2.app #[v,[],rfl,r1,rfl]);rw[bE]at this;exact this
theorem z8:∀(ps:M (M Key×D)) (ks:M (M Key)) (xs:M D),fZ ks=W->fZ (ps.map (·.1))=W->fZ (gk ks xs ps).1=W
|[],ks,xs,h,_=>h
|p::r,ks,xs,h,e=>by
 have e':nO p.1=W/\fZ (r.map (·.1))=W:=by simpa[fZ]using e
 unfold gk;split
 .exact z8 r ks _ h e'.2
 .refine z8 r _ _ ?_ e'.2;unfold fZ at h ⊢;rw[ym,h];simp[e'.1]
set_option tactic.hygienic true in
def R7(h:C3 d=L p):∃k x,d=.tup [k,x]/\iP k=L p.1/\p.2=x:=by
 unfold C3 at h;split at h
 .rename_i k v;cases e:iP k with
  |none=>rw[e]at h;cases h
  |some q=>rw[e]at h;cases h;exact#[k,v,rfl,e,rfl]
 .cases h
theorem FY(s:bh F H):∀{ds:M D}{vs:M V}{ps:M (M Key×D)},aM K F ds vs->qD ds=L ps->
 ∃qs:M (M Key×V),Pb K H vs qs/\qs.map (·.1)=ps.map (·.1)/\aM K F (ps.map (·.2)) (qs.map (·.2))/\fZ (ps.map (·.1))=W
|[],_,_,h,e=>by cases h;cases e;exact#[[],.nil,rfl,rfl,rfl]
|d::ds,_,ps,h,e=>by
 let#[v,r,rfl,h2,h3]:=h;unfold qD at e;cases hd:C3 d with
 |none=>rw[hd]at e;cases e
 |some p=>
  rw[hd]at e;cases hr:qD ds with
  |none=>rw[hr]at e;cases e
  |some rs=>
   rw[hr]at e;cases e;let#[qs,w1,w2,w3,w4]:=FY s h3 hr;let#[k,x,rfl,hk,hx]:=R7 hd;let#[a,ws,rfl,t2,t3,t4]:=h2;let#[vk,r1,rfl,rk,t5]:=t4;let#[vx,r2,rfl,rx,t6]:=t5;cases t6;let#[b,rfl,hb,ho]:=z7 rk hk;refine#[(p.1,vx)::qs,.cons #[a,b,rfl,((tupS t2).same' s).t8,s _ _ hb] w1,by rw[bJ,bJ,w2],#[vx,_,rfl,by show bx K F p.2 vx;rw[hx];exact rx,w3],?_];show(nO p.1&&fZ (rs.map (·.1)))=W;rw[w4,ho];rfl
def PV.bS[Ex]{ks:M (M Key)}{ds:M D}{kvs:M (M Key×V)}{Q:VK}{p:Addr}(h:PV K F H (.ok (.bS W ks (aA ds))) Q)(s:bh F H)(r:aM K F ds (kvs.map (·.2)))(hk:kvs.map (·.1)=ks/\fZ ks=W)(hl:zl kvs<=aj)(hp:H p=S):Q (.ref p) (upd H p (.dT kvs)):=by
 let#[g,hf]:=newList (vs:=[]) s hp;refine h F _ (.ref p) [p] g #[by simp,?_,?_] ?_
 .simp_all
 .simp_all
 .unfold bI;rw[aF rfl];exact#[p,kvs,[],rfl,bQ,hl,hk,aM.wA ds _ r,rfl]
theorem Jh:∀(k:M Key),keysOk k=W->aM K F (k.map iB) (k.map kV)
|[],_=>rfl
|q::r,h=>by
 have h':keyOk q=W/\keysOk r=W:=by simpa[keysOk]using h
 refine#[kV q,_,rfl,?_,Jh r h'.2];cases q with
 |inl i=>exact rfl
 |inr z=>exact#[rfl,aE h'.1]
theorem Oi:∀{kss:M (M Key)}{ts:M Addr},jX H kss ts->zl kss=zl ts/\∀i,i<zl kss->H (ts.getD i 0)=L (.tup ((kss.getD i []).map kV))/\ts.getD i 0∈ts
|_,_,.nil=>#[rfl,λi h=>aH h (oU _)]
|_,_,.cons e r=>by
 let#[h1,h2]:=Oi r;refine#[by simp[h1],λi hi=>?_];cases i with
 |zero=>exact#[e,aB]
 |succ i=>
  let#[a,b]:=h2 i (by simpa using hi);exact#[by simpa using a,ao _ (by simpa using b)]
theorem Ji:∀{ds:M D}{vs:M V}{ss:M Str},aM K F ds vs->FP ds=L ss->vs=ss.map V.str
|[],_,_,h,e=>by cases h;cases e;rfl
|d::ds,_,ss,h,e=>by
 let#[v,r,rfl,h2,h3]:=h;cases d with
 |str z=>
  have e:(FP ds).map (z::·)=L ss:=e;cases q:FP ds with
  |none=>rw[q]at e;cases e
  |some s2=>
   rw[q]at e;cases e;rw[Ji h3 q,h2.1];rfl
 |_=>cases e
theorem BJ:∀{ds:M D}{vs:M V}{ss:M J},aM K F ds vs->qY ds=L ss->vs=ss.map V.int
|[],_,_,h,e=>by cases h;cases e;rfl
|d::ds,_,ss,h,e=>by
 let#[v,r,rfl,h2,h3]:=h;cases d with
 |int z=>
  have e:(qY ds).map (z::·)=L ss:=e;cases q:qY ds with
  |none=>rw[q]at e;cases e
  |some s2=>
   rw[q]at e;cases e;rw[BJ h3 q,h2];rfl
 |_=>cases e
theorem Jj:∀{ds:M D}{vs:M V}{kss:M (M Key)},aM K F ds vs->FQ ds=L kss->∃ts,vs=ts.map V.ref/\jX F kss ts
|[],_,_,h,e=>by cases e;cases h;exact#[[],rfl,.nil]
|d::ds,_,_,h,e=>by
 let#[v,r,rfl,h2,h3]:=h;have e:((iP d).bind λk=>(FQ ds).map (k::·))=L _:=e;cases q:iP d with
 |none=>rw[q]at e;cases e
 |some k=>
  rw[q]at e;cases q2:FQ ds with
  |none=>rw[q2]at e;cases e
  |some ks=>
   rw[q2]at e;cases e;let#[ts,rfl,ht]:=Jj h3 q2;cases d with
   |tup xs=>
    let#[a,us,rfl,u2,_,u4]:=h2;exact#[a::ts,rfl,.cons (by rw[u2,(BG u4 q).1]) ht]
   |_=>cases q
theorem DK(s:bh F H):∀{kss:M (M Key)}{ts:M Addr},jX F kss ts->jX H kss ts
|_,_,.nil=>.nil
|_,_,.cons e r=>.cons (s _ _ e) (DK s r)
set_option tactic.hygienic true in
def R8(h:aM K F ds vs)(e:FT ds=L kss):zl kss=zl ds/\∀{H:Hp},bh F H->Lx H vs kss:=by
 have hl:=h.len;unfold FT at e;split at e
 .rename_i ss q;cases e;have:=Ji h q;exact#[by rw[<-hl,this,aa,aa],λ_=>.inr (.inl #[ss,this,rfl])]
 .split at e
  .rename_i ns q;cases e;have:=BJ h q;exact#[by rw[<-hl,this,aa,aa],λ_=>.inr (.inr #[ns,this,rfl])]
  .obtain⟨ts,e1,e2⟩:=Jj h e;exact#[by rw[<-hl,e1,aa];exact Paired.length e2,λs=>.inl #[ts,e1,DK s e2]]
theorem Jk:∀(ds:M D) (i:Nat),(aA ds).getD i .non=bq (ds.getD i .non)
|[],_=>rfl
|_::_,0=>rfl
|_::ds,i+1=>Jk ds i
theorem Jl(h:aM K F ds vs):∀l:M Nat,(∀i∈l,i<zl ds)->aM K F (l.map λi=>ds.getD i .non) (l.map λi=>vs.getD i .non)/\aA (l.map λi=>ds.getD i .non)=l.map λi=>(aA ds).getD i .non
|[],_=>#[rfl,rfl]
|i::r,hi=>by
 have h0:=hi i aB;let#[v,e1,e2]:=aM.get i h (aq h0);let#[q1,q2]:=Jl h r λj hj=>hi j (ao _ hj);refine#[#[_,_,rfl,?_,q1],?_]
 .show bx K F (ds.getD i .non) (vs.getD i .non);rw[aZ,aZ,aq h0,e1];exact e2
 .show bq (ds.getD i .non)::aA _=(aA ds).getD i .non::_;rw[q2,Jk]
def PV.sorted[Ex](h:PV K F H (.ok (.lst W (pL ks))) Q)(s:bh F H)(hk:fZ ks=W)(hs:sortable ks=W)(ht:jX H ks ts)(hp:H p=S):Q (.ref p) (upd H p (.lst ((dX ks).map λi=>.ref (ts.getD i 0)))):=by
 let#[hl,hat]:=Oi ht;have hlt:∀i∈dX ks,i<zl ks:=λi hi=>uV _ _ i hi;have hpt:p∉ts:=λz=>by
  let#[i,hi,e]:=gI z;have:=(hat i (by lia)).1;rw[aZ,aq hi]at this;have this:H ts[i]=_:=this;rw[e,hp]at this;cases this
 have sa:bh (adopt F H ts) H:=iH s;have g:cj F H (adopt F H ts) (upd H p (.lst ((dX ks).map λi=>.ref (ts.getD i 0)))):=by
  refine#[λb u q=>by rw[aY (bZ q hp)];exact q,fM s,λb u q=>by
   have:=sa b u q;rw[aY (bZ this hp)];exact this,λb o h h'=>?_]
  by_cases z:b∈ts
  .obtain⟨i,hi,e⟩:=gI z;have:=(hat i (by lia)).1;rw[aZ,aq hi]at this;have this:H ts[i]=_:=this;rw[e]at this;rw[this];trivial
  .rw[ku z,h']at h;cases h
 have fp0:adopt F H ts p=S:=by rw[ku hpt];exact bh.none s hp
 refine h (adopt F H ts) _ (.ref p) [p] g #[by simp,?_,?_] ?_
 .intro a ha;rw[aQ.mp ha];exact hp
 .intro a ha;rw[aQ.mp ha];exact fp0
 .unfold bI;rw[aF rfl];refine#[p,_,[],rfl,bQ,?_,?_,rfl]
  .rw[aa];unfold dX;rw[n6,bY];have:=(n9 hs).1
   lia
  .unfold pL;have:∀l:M Nat,(∀i∈l,i<zl ks)->aN K (upd H p (.lst ((dX ks).map λi=>.ref (ts.getD i 0)))) (adopt F H ts) (l.map λi=>D.tup ((ks.getD i []).map iB)) (l.map λi=>V.ref (ts.getD i 0)) []:=by
    intro l;induction l with
    |nil=>intro _;exact#[rfl,rfl]
    |cons i r ih=>
     intro hi;have h0:=hi i aB;let#[a1,a2]:=hat i h0;have ko:nO (ks.getD i [])=W:=by
      unfold fZ at hk;have:=bz.mp hk (ks.getD i []) (by rw[aZ,aq h0];exact cz h0);exact this
     unfold nO at ko;rw[cu]at ko;refine#[_,_,[],[],rfl,rfl,#[ts.getD i 0,_,rfl,by rw[nB a2];exact a1,by rw[aa];exact aE ko.2,?_],ih λj hj=>hi j (ao _ hj)];have q:=aM.wA (H:=upd H p (.lst ((dX ks).map λi=>.ref (ts.getD i 0)))) _ _ (Jh (K:=K) (F:=adopt F H ts) (ks.getD i []) ko.1);have ef:∀k:M Key,aA (k.map iB)=k.map iB:=by
      intro k;induction k with
      |nil=>rfl
      |cons q r ih=>
       show bq (iB q)::aA (r.map iB)=_;rw[ih];cases q<;>rfl
     rw[ef]at q;exact q
   exact this _ hlt
theorem FZ:∀(ps acc:M (Key×V)),((acc++ps).map (·.1)).Nodup->uS acc ps=acc++ps
|[],acc,_=>(d_ acc).symm
|p::r,acc,h=>by
 have hn:¬(acc.any λkv=>decide (kv.1=p.1))=W:=by grind
 have e:putK acc p.1 p.2=acc++[p]:=by
  unfold putK;rw[aG hn]
 show uS (putK acc p.1 p.2) r=_;rw[e,FZ r (acc++[p]) (by rw[dF];exact h),dF];rfl
def Z0(h:RH K H vs qs):zl vs=zl qs:=Paired.length h
def PY[Ex](s:bh F H)(r:aM K F ds vs)(h:PV K F H (h_ f ds) Q):zR K f vs H Q:=by
 match ds,r,h with
 |[],_,h=>exact h.elim
 |[x],r,h=>
  let#[v,r',rfl,rx,e]:=r;cases e;cases f with
  |len=>
   cases x with
   |str z=>let#[rfl,hz]:=rx;exact#[hz,h.flat s #[rfl,rfl]]
   |lst o ds=>
    let#[a,vs,rfl,h2,h3,h4]:=rx;exact#[B,vs,(Rd.seq h2).same' s,by show Q (.int (zl vs)) H;rw[h4.len];exact h.flat s #[rfl,rfl]]
   |tup ds=>
    let#[a,vs,rfl,h2,h3,h4]:=rx;exact#[W,vs,(tupS h2).same' s,by show Q (.int (zl vs)) H;rw[h4.len];exact h.flat s #[rfl,rfl]]
   |_=>exact h.elim
  |all=>
   cases x with
   |lst o ds=>
    let#[a,vs,rfl,h2,h3,h4]:=rx;let#[c,h]:=h.bV;let#[i1,i2,i3]:=BH h4 c;exact#[B,vs,(Rd.seq h2).same' s,rfl,i1,by rw[i2];exact h.flat s #[rfl,rfl]]
   |_=>exact h.elim
  |any=>
   cases x with
   |lst o ds=>
    let#[a,vs,rfl,h2,h3,h4]:=rx;let#[c,h]:=h.bV;let#[i1,i2,i3]:=BH h4 c;exact#[B,vs,(Rd.seq h2).same' s,rfl,i1,by rw[i3];exact h.flat s #[rfl,rfl]]
   |_=>exact h.elim
  |int=>
   cases x with
   |bl b=>cases rx;exact h.flat s #[rfl,rfl]
   |_=>exact h.elim
  |list=>
   cases x with
   |lst o ds=>
    let#[a,vs,rfl,h2,h3,h4]:=rx;exact#[vs,Rd.same s h2,λp hp=>h.lst s h4 h3 hp]
   |_=>exact h.elim
  |tuple=>
   cases x with
   |lst o ds=>
    let#[a,vs,rfl,h2,h3,h4]:=rx;exact#[vs,Rd.same s h2,λp hp=>h.tup s h4 h3 hp]
   |_=>exact h.elim
  |dict=>
   cases x with
   |lst o ds=>
    let#[a,vs,rfl,h2,h3,h4]:=rx;have h:PV K F H ((R.opt (o7 ds)).bind λps=>.bV (decide (ps.map (·.1)).Nodup) (.ok (.cW W (ps.map (·.1)) (aA (ps.map (·.2)))))) Q:=h;cases e:o7 ds with
    |none=>rw[e]at h;exact h.elim
    |some ps=>
     rw[e]at h;let#[c,h]:=h.bV;let#[qs,w1,w2,w3,w4]:=Jg s h4 e;refine#[vs,qs,((Rd.seq h2).same' s).RJ,w1,λp hp=>?_];have hn:(qs.map (·.1)).Nodup:=by rw[w2];exact aE c
     rw[FZ qs [] hn];exact PV.cW h s w3 #[w2,w4] (by rw[oW,<-Z0 w1];exact h3) hp
   |_=>exact h.elim
  |dictT=>
   cases x with
   |lst o ds=>
    let#[a,vs,rfl,h2,h3,h4]:=rx;have h:PV K F H ((R.opt (qD ds)).bind λps=>.ok (.bS W (gk [] [] ps).1 (aA (gk [] [] ps).2))) Q:=h;cases e:qD ds with
    |none=>rw[e]at h;exact h.elim
    |some ps=>
     rw[e]at h;have h:PV K F H (.ok (.bS W (gk [] [] ps).1 (aA (gk [] [] ps).2))) Q:=h;let#[qs,w1,w2,w3,w4]:=FY s h4 e;refine#[vs,qs,((Rd.seq h2).same' s).RJ,w1,λp hp=>?_];let#[m1,m2]:=BI (kvs:=[]) (xs:=[]) w2 w3 rfl;refine PV.bS h s m2 #[m1,z8 ps [] [] rfl w4] ?_ hp;have z1:=zP qs [];have z2:zl vs=zl qs:=Paired.length w1;rw[jU]at z1
     lia
   |_=>exact h.elim
  |sorted=>
   cases x with
   |bS o ks ds=>
    let#[a,kvs,rfl,h2,h3,h4,h5]:=rx;have h:PV K F H (.bV (sortable ks) (.ok (.lst W (pL ks)))) Q:=h;let#[c,h]:=h.bV;let#[rfl,hk]:=h4;exact .inl #[kvs,.inl (s _ _ h2),c,λts ht p hp=>PV.sorted h s hk c ht hp]
   |lst o ds=>
    let#[a,vs,rfl,h2,h3,h4]:=rx;have h:PV K F H ((R.opt (FT ds)).bind λkss=>.bV (sortable kss) (.ok (.lst W (Yr kss ds)))) Q:=h;cases e:FT ds with
    |none=>rw[e]at h;exact h.elim
    |some kss=>
     rw[e]at h;let#[c,h]:=PV.bV h;let#[k1,k2]:=R8 h4 e;refine .inr #[vs,kss,Rd.same s h2,k2 s,c,λp hp=>?_];let#[r1,r2]:=Jl h4 (dX kss) λi hi=>by rw[<-k1];exact uV _ _ i hi
     have:=(n9 c).1;exact PV.lst (by rw[r2];exact h) s r1 (by rw[aa];unfold dX;rw[n6,bY];lia) hp
   |_=>exact h.elim
  |_=>exact h.elim
 |[x,y],r,h=>
  let#[v,r',rfl,rx,u,r2,rfl,ry,e]:=r;cases e;cases x with
  |int i=>
   cases rx;cases y with
   |int j=>
    cases ry;cases f<;>first|exact h.elim|exact h.flat s ⟨rfl,rfl⟩
   |_=>exact h.elim
  |_=>exact h.elim
 |_::_::_::_,_,h=>exact h.elim
def Yt{Q:Bool->Prop}(s:bh F H)(rx:bx K F x v)(hn:sX x=W)(q:Q (yx t x)):Bm K t v H Q:=by
 cases x with
 |int i=>cases rx;exact q
 |tup ds=>
  let#[a,vs,rfl,h2,h3,h4]:=rx;exact#[vs,(tupS h2).same' s,q]
 |_=>cases hn
def R9(s:bh F H)(rx:bx K F x v)(h:uq m x ds=.ok d):xP m v H:=by
 cases x with
 |lst o xs=>
  let#[a,us,rfl,h2,_]:=rx
  match ds,h with
  |[y],h=>
   cases y<;>first|(cases h;done)|skip
   all_goals (cases m<;>first|exact⟨us,Rd.same s h2⟩|(cases h))
  |[],h=>cases h
  |_::_::_,h=>cases h
 |cW o ks xs=>
  let#[a,kvs,rfl,h2,_]:=rx
  match ds,h with
  |[k,y],h=>
   cases m<;>first|(cases h)|skip
   show zS H a;unfold zS;rw[s _ _ h2];trivial
  |[],h=>cases h
  |[k],h=>
   cases m<;>first|(cases h)|skip
   show zS H a;unfold zS;rw[s _ _ h2];trivial
  |_::_::_::_,h=>cases h
 |_=>cases h
set_option tactic.hygienic true in
def Yu[Ex](s:bh F H)(rx:bx K F x v)(r:aM K F ds vs)(h:PV K F H (uq m x ds) Q):yu K m v vs H Q:=by
 cases x with
 |lst o xs=>
  let#[a,us,rfl,h2,h3,h4]:=rx
  match ds,r,h with
  |[y],r,h=>
   let#[u,r',rfl,ry,e]:=r;cases e;cases y<;>first|exact h.elim|skip
   case int k=>
    cases ry;cases m<;>first|exact h.elim|skip
    have h:PV K F H ((R.opt (qY xs)).bind λns=>.bV (decide (k∈ns)) (.ok (.int (ns.idxOf k)))) Q:=h;cases q:qY xs with
    |none=>rw[q]at h;exact h.elim
    |some ns=>
     rw[q]at h;have e:=BJ h4 q;subst e;let#[c,h]:=PV.bV h;exact#[ns,Rd.same s h2,aE c,h.flat s #[rfl,rfl]]
  |[],_,h=>exact h.elim
  |_::_::_,_,h=>exact h.elim
 |cW o ks xs=>
  let#[a,kvs,rfl,h2,h3,h4,h5]:=rx
  match ds,r,h with
  |[k,y],r,h=>
   let#[u,r',rfl,rk,w,r2,rfl,ry,e]:=r;cases e;cases m<;>first|exact h.elim|skip
   have h:PV K F H (match mQ k with|some k'=>.ok (bq ((iQ ks xs k').getD y))|none=>.bad) Q:=h;cases q:mQ k with
   |none=>rw[q]at h;exact h.elim
   |some k'=>
    have h:PV K F H (.ok (bq ((iQ ks xs k').getD y))) Q:=by rw[q]at h;exact h
    refine#[kvs,k',.inl (s _ _ h2),uu rk q,?_];have z:=wF kvs xs k' h5;rw[h4.1]at z;cases e:iQ ks xs k' with
    |none=>
     rw[e]at z h;rw[show jo kvs k'=S from z];exact h.here s ry
    |some d=>
     rw[e]at z h;let#[w',w1,w2]:=z;rw[w1];exact h.here s w2
  |[],_,h=>exact h.elim
  |[k],r,h=>
   let#[u,r',rfl,rk,e]:=r;cases e;cases m<;>first|exact h.elim|skip
   have h:PV K F H (match mQ k with|some k'=>.ok (bq ((iQ ks xs k').getD .non))|none=>.bad) Q:=h;cases q:mQ k with
   |none=>rw[q]at h;exact h.elim
   |some k'=>
    have h:PV K F H (.ok (bq ((iQ ks xs k').getD .non))) Q:=by rw[q]at h;exact h
    refine#[kvs,k',.inl (s _ _ h2),uu rk q,?_];have z:=wF kvs xs k' h5;rw[h4.1]at z;cases e:iQ ks xs k' with
    |none=>
     rw[e]at z h;rw[show jo kvs k'=S from z];exact h.here s rfl
    |some d=>
     rw[e]at z h;let#[w',w1,w2]:=z;rw[w1];exact h.here s w2
  |_::_::_::_,_,h=>exact h.elim
 |_=>exact h.elim
end
section
variable{K:ak}{Γp:M PG}{O:M G}
def PV.bind[Ex]{f:D->R D}(h:PV K F H (r.bind f) Q)(k:∀x F1 H1 v,cj F H F1 H1->bx K F1 x v->PV K F1 H1 (f x) Q->Q' v H1):PV K F H r Q':=by
 cases r with
 |ok x=>
  intro F1 H1 v fp g fr rx;let#[F2,g2,s2,rf]:=PM g fr rx;exact k x F2 H1 v g2 rf (PV.grow h g2)
 |bad=>exact h.elim
def PB.z9[Ex]{α:Type}{f:D->R α}{Q:α->Hp->Prop}(h:PB K F H (r.bind f) Q)(k:∀x F1 H1 v,cj F H F1 H1->bx K F1 x v->PB K F1 H1 (f x) Q->Q' v H1):PV K F H r Q':=by
 cases r with
 |ok x=>
  intro F1 H1 v fp g fr rx;let#[F2,g2,s2,rf]:=PM g fr rx;exact k x F2 H1 v g2 rf (PB.grow h g2)
 |bad=>exact h.elim
def PB.bindB[Ex]{α β:Type}{F H:Hp}{r:R β}{f:β->R α}{Q:α->Hp->Prop}{Q':β->Hp->Prop}(h:PB K F H (r.bind f) Q)(k:∀x F1 H1,cj F H F1 H1->PB K F1 H1 (f x) Q->Q' x H1):PB K F H r Q':=by
 cases r with
 |ok x=>exact λF1 H1 g=>k x F1 H1 g (PB.grow h g)
 |bad=>exact h.elim
def PV.bindB[Ex]{β:Type}{r:R β}{f:β->R D}{Q:VK}{Q':β->Hp->Prop}(h:PV K F H (r.bind f) Q)(k:∀x F1 H1,cj F H F1 H1->PV K F1 H1 (f x) Q->Q' x H1):PB K F H r Q':=by
 cases r with
 |ok x=>exact λF1 H1 g=>k x F1 H1 g (PV.grow h g)
 |bad=>exact h.elim
def AE.F4[Ex]{f:M D->R D}{Q':M V->Hp->Prop}(h:PV K F H (r.bind f) Q)(k:∀xs F1 H1 vs,cj F H F1 H1->aM K F1 xs vs->PV K F1 H1 (f xs) Q->Q' vs H1):AE K F H r Q':=by
 cases r with
 |ok x=>
  intro F1 H1 v fp g fr rx;let#[F2,g2,s2,rf]:=PN g fr rx;exact k x F2 H1 v g2 rf (PV.grow h g2)
 |bad=>exact h.elim
def PB.acZ[Ex]{α:Type}{f:M D->R α}{Q:α->Hp->Prop}{Q':M V->Hp->Prop}(h:PB K F H (r.bind f) Q)(k:∀xs F1 H1 vs,cj F H F1 H1->aM K F1 xs vs->PB K F1 H1 (f xs) Q->Q' vs H1):AE K F H r Q':=by
 cases r with
 |ok x=>
  intro F1 H1 v fp g fr rx;let#[F2,g2,s2,rf]:=PN g fr rx;exact k x F2 H1 v g2 rf (PB.grow h g2)
 |bad=>exact h.elim
def PV.VG[Ex](h:PV K F H (.ok (.lst W ds)) Q)(g:cj F H F1 H1)(fr:jt fp H F1)(r:aN K H1 F1 ds vs fp)(hl:zl vs<=aj)(hp:H1 p=S):Q (.ref p) (upd H1 p (.lst vs)):=by
 let#[g2,hf]:=newList (vs:=vs) g.s hp;have np:p∉fp:=λz=>by
  let#[o,e,_]:=aN.ex ds vs fp r p z;rw[hp]at e;cases e
 refine h F1 _ (.ref p) (p::fp) (g.trans g2) #[bX.mpr #[np,fr.nd],?_,?_] ?_
 .intro a ha;rcases be.mp ha with rfl|ha
  .exact bh.none g.h hp
  .exact fr.nh a ha
 .intro a ha;rcases be.mp ha with rfl|ha
  .exact hf
  .exact fr.nf a ha
 .unfold bI;rw[aF rfl];exact#[p,vs,fp,rfl,bQ,hl,aN.mono (bh.refl _) ds vs fp (λa ha=>aY (λz=>np (by rw[<-z];exact ha))) r,rfl]
def PV.tupX[Ex](h:PV K F H (.ok (.tup ds)) Q)(g:cj F H F1 H1)(fr:jt fp H F1)(r:aN K H1 F1 ds vs fp)(hl:zl vs<=aj)(hp:H1 p=S):Q (.ref p) (upd H1 p (.tup vs)):=by
 have g2:=FW (o:=.tup vs) g.s hp;have np:p∉fp:=λz=>by
  let#[o,e,_]:=aN.ex ds vs fp r p z;rw[hp]at e;cases e
 refine h _ _ (.ref p) fp (g.trans g2) #[fr.nd,fr.nh,λa ha=>?_] ?_
 .rw[aY (λz=>np (by simp_all))];exact fr.nf a ha
 .exact#[p,vs,rfl,bQ,hl,aN.mono g2.f ds vs fp (λa ha=>aY (λz=>np (by simp_all))) r]
def R_(z:Str):kJ K F (FU z) ((chars z).map .v):=by
 unfold FU chars;have hs:=szl;induction z.cps.toList with
 |nil=>exact rfl
 |cons c r ih=>exact#[_,_,rfl,#[rfl,by show(1:Nat)<=_;lia],ih]
theorem BK:∀{ds:M D}{vs:M V},aM K F ds vs->kJ K F (aA ds) (vs.map .v)
|[],_,h=>by cases h;exact rfl
|d::ds,_,h=>by
 let#[v,r,rfl,h2,h3]:=h;exact#[_,_,rfl,(bx.bq d v).mpr h2,BK h3]
theorem Oj:∀{ds es:M D}{xs ys:M Item},kJ K F ds xs->kJ K F es ys->kJ K F (ds++es) (xs++ys)
|[],_,_,_,h,h'=>by cases h;exact h'
|d::ds,_,_,_,h,h'=>by
 let#[it,r,rfl,h2,h3]:=h;exact#[_,_,rfl,h2,Oj h3 h']
theorem Ol:∀{ds:M D}{vs:M V},aM K F ds vs->kJ K F (aA ds).reverse (vs.reverse.map .v)
|[],_,h=>by cases h;exact rfl
|d::ds,_,h=>by
 let#[v,r,rfl,h2,h3]:=h;show kJ K F (bq d::aA ds).reverse _;rw[ic,ic,bE];exact Oj (Ol h3) #[_,_,rfl,(bx.bq d v).mpr h2,rfl]
theorem Z1:∀{ds es:M D}{vs us:M V},aM K F ds vs->aM K F es us->kJ K F (acV (aA ds) (aA es)) (acm vs us)
|[],_,_,_,h,h'=>by cases h;exact rfl
|d::ds,[],_,_,h,h'=>by
 let#[v,r,rfl,h2,h3]:=h;cases h';exact rfl
|d::ds,e::es,_,_,h,h'=>by
 let#[v,r,rfl,h2,h3]:=h;let#[v',r',rfl,h2',h3']:=h';have hs:=szl;exact#[_,_,rfl,#[_,rfl,#[_,_,rfl,(bx.bq d v).mpr h2,_,_,rfl,(bx.bq e v').mpr h2',rfl],by show(2:Nat)<=_;lia],Z1 h3 h3']
theorem L5:∀{ds:M D}{vs:M V} (n:Nat),aM K F ds vs->kJ K F (ir n (aA ds)) (qU n vs)
|[],_,n,h=>by cases h;exact rfl
|d::ds,_,n,h=>by
 let#[v,r,rfl,h2,h3]:=h;have hs:=szl;exact#[_,_,rfl,#[_,rfl,#[_,_,rfl,rfl,_,_,rfl,(bx.bq d v).mpr h2,rfl],by show(2:Nat)<=_;lia],L5 (n+1) h3]
def Sa(lo:J)(n:Nat):kJ K F (gx lo n) ((bM n).map λ(i:Nat)=>Item.v (.int (lo+(i:J)))):=by
 unfold gx;induction bM n with
 |nil=>exact rfl
 |cons c r ih=>exact#[_,_,rfl,rfl,ih]
theorem Jm:∀(ds:M D) (n:Nat),zl (ir n ds)=zl ds
|[],n=>rfl
|d::r,n=>by show(ir (n+1) r).length+1=_;rw[Jm r];rfl
theorem kJ.mono(e:bh F F'):∀{ds:M D}{its:M Item},kJ K F ds its->kJ K F' ds its
|[],_,h=>h
|d::ds,_,h=>by
 let#[it,r,h1,h2,h3]:=h;refine#[it,r,h1,?_,kJ.mono e h3];cases it with
 |v x=>exact bx.mono e d x h2
 |tup xs=>let#[es,q1,q2,q3]:=h2;exact#[es,q1,aM.mono e es xs q2,q3]
def Jo{k:V->Hp->Prop}(s:bh F H)(r:ItF K F d it)(h:∀F1 H1 v,cj F H F1 H1->bx K F1 d v->k v H1):mkItem it H k:=by
 cases it with
 |v x=>exact h F H x (cj.refl s) r
 |tup xs=>
  let#[ds,rfl,r2,r3]:=r;intro p hp;have g:=FW (o:=.tup xs) s hp;exact h _ _ _ g #[p,xs,rfl,bQ,r3,aM.mono g.f ds xs r2]
def l9(K:ak)(F:Hp)(Y:br)(U:L2.St):Prop:=∀(i:Nat) d,Y[i]?=L (L d)->∃v,U[i]?=L (L v)/\bx K F d v
def l9.env(h:l9 K F Y U)(s:bh F H):kK K F H is Y U:=#[λi _ d e=>h i d e,λk d e=>let⟨v,h1,h2⟩:=h k d e;#[v,F,h1,s,h2]]
def l9.mono(h:l9 K F Y U)(e:bh F F'):l9 K F' Y U:=λi d q=>by
 let#[v,h1,h2]:=h i d q;exact#[v,h1,bx.mono e d v h2]
def l9.set(h:l9 K F Y U)(hl:zl Y=zl U)(r:bx K F d v):l9 K F (Y.set i (L d)) (U.set i (L v)):=λj e q=>by
 by_cases hij:i=j
 .subst hij;rw[j_]at q;by_cases hi:i<zl Y
  .simp[hi]at q;subst q;exact#[v,by rw[j_];simp[<-hl,hi],r]
  .simp[hi]at q
 .rw[fQ hij]at q;let#[w,h1,h2]:=h j e q;exact#[w,by rw[fQ hij];exact h1,h2]
mutual
theorem ruG:∀(g:CG) {d:D}{v:V}{Y ahs:br}{U:L2.St}{F H:Hp}{Q:L2.St->Hp->Prop},l9 K F Y U->zl Y=zl U->bh F H->bx K F d v->pG g d Y=.ok ahs->(∀σ',l9 K F ahs σ'->zl ahs=zl σ'->Q σ' H)->wG K O E g v U H Q
|.name i,d,v,Y,ahs,U,F,H,Q,a,hl,s,r,e,h=>by
 cases e;exact h _ (a.set hl r) (by simp[hl])
|.tup gs,d,v,Y,ahs,U,F,H,Q,a,hl,s,r,e,h=>by
 cases d with
 |tup ds=>
  let#[b,vs,rfl,h2,h3,h4]:=r;let#[c,e]:=nQ e;exact#[W,vs,(tupS h2).same' s,rfl,by rw[h4.len];exact aE c,ac0 gs a hl s h4 e h]
 |_=>cases e
|.sub _ _,d,v,Y,ahs,U,F,H,Q,a,hl,s,r,e,h=>by cases e
theorem ac0:∀(g:xO) {ds:M D}{vs:M V}{Y ahs:br}{U:L2.St}{F H:Hp}{Q:L2.St->Hp->Prop},l9 K F Y U->zl Y=zl U->bh F H->aM K F ds vs->BE g ds Y=.ok ahs->(∀σ',l9 K F ahs σ'->zl ahs=zl σ'->Q σ' H)->N7 K O E g vs U H Q
|.nil,ds,vs,Y,ahs,U,F,H,Q,a,hl,s,r,e,h=>by
 cases ds with
 |nil=>cases r;cases e;exact h U a hl
 |cons d dr=>cases e
|.cons g gr,ds,vs,Y,ahs,U,F,H,Q,a,hl,s,r,e,h=>by
 cases ds with
 |nil=>cases e
 |cons d dr=>
  let#[v,vr,rfl,r1,r2]:=r;let#[σ2,e1,e2]:=cN e;exact ruG g a hl s r1 e1 fun σ' a' hl'=>ac0 gr a' hl' s r2 e2 h
end
def Jp{Y:br}{U:L2.St}{nl:M Str}{fr:M Nat}(h:kK K F H fr Y U):l9 K F (nl.map (λ_=>S)++fr.map (λi=>Y.getD i S)) (nl.map (λ_=>S)++fr.map (λi=>U.getD i S)):=by
 intro i d e;by_cases hi:i<zl nl
 .rw[cI (by simpa using hi)]at e;rw[bg]at e;cases q:nl[i]? with
  |none=>rw[q]at e;cases e
  |some x=>rw[q]at e;cases e
 .rw[dJ (by simpa using hi)]at e ⊢;simp only[aa,bg]at e ⊢;cases q:fr[i-zl nl]? with
  |none=>rw[q]at e;cases e
  |some j=>
   rw[q]at e;have e:Y.getD j S=L d:=by simpa using e
   have e':Y[j]?=L (L d):=by
    rw[aZ]at e;cases z:Y[j]? with
    |none=>rw[z]at e;cases e
    |some o=>rw[z]at e;simp at e;rw[e]
   let#[v,h1,h2]:=h.e j (fT q) d e';refine#[v,?_,h2];simp[aZ,h1]
def Sb{Y:br}{U:L2.St}{nl:M Str}{fr:M Nat}:zl (nl.map (λ_=>(S:abM D))++fr.map (λi=>Y.getD i S))=zl (nl.map (λ_=>(S:abM V))++fr.map (λi=>U.getD i S)):=by simp
theorem L6[Ex]{E:XK}{tg:CG}{cond:CO}{elt:CE}{k:M V->Hp->Prop}(hc:∀{Y:br}{U:L2.St}{F H:Hp}{Q:Bool->Hp->Prop},l9 K F Y U->bh F H->PB K F H (pC Γp cond Y) Q->wC K O E cond U H Q)(he:∀{Y:br}{U:L2.St}{F H:Hp}{Q:VK},l9 K F Y U->bh F H->PV K F H (pE Γp elt Y) Q->wE K O E elt U H Q)(ok:Hp->Prop)(H0:Hp)(F0:Hp):∀(ds:M D) (its:M Item) (acc:M D) (vacc:M V) (fp:M Addr) (Y:br) (U:L2.St) (F H:Hp),l9 K F Y U->zl Y=zl U->cj F0 H0 F H->kJ K F ds its->(∀H'',bh F H''->ok H'')->zl acc+zl ds<=aj->
  aN K H F acc vacc fp->jt fp H0 F->
  (∀ys,dS (pG tg) (pC Γp cond) (pE Γp elt) ds Y=.ok ys->∀F' H' vs fp',cj F0 H0 F' H'->aN K H' F' (acc++ys) vs fp'->jt fp' H0 F'->k vs H')->(∃ys,dS (pG tg) (pC Γp cond) (pE Γp elt) ds Y=.ok ys)->
  sO ok (wG K O E tg) (wC K O E cond) (wE K O E elt) k its vacc U H
|[],its,acc,vacc,fp,Y,U,F,H,a,hl,g,hi,hok,hz,ra,fr,hk,hy=>by
 cases hi;refine#[hok H g.s,hk [] rfl F H vacc fp g (by rw[d_];exact ra) fr]
|d::ds,its,acc,vacc,fp,Y,U,F,H,a,hl,g,hi,hok,hz,ra,fr,hk,hy=>by
 let#[it,r,rfl,i1,i2]:=hi;let#[ys,ey]:=hy;let#[σ2,e1,e2]:=cN ey;let#[b,e3,e4]:=cN e2;simp only[cL]at hz;refine#[hok H g.s,by rw[ra.len];lia,Jo g.s i1 λF1 H1 v g1 r1=>?_];have fresh1:∀{F' H':Hp},cj F H F' H'->aN K H' F' acc vacc fp/\jt fp H0 F':=λg'=>by
  let#[c1,c2]:=acW g' fr ra;exact#[c1,fr.nd,fr.nh,c2]
 refine ruG tg (a.mono g1.f) hl g1.s r1 e1 fun σ' a' hl'=>?_;refine hc a' g1.s ?_;rw[e3];intro F2 H2 g2;have g12:=g1.trans g2;have hok2:∀{F' H':Hp},cj F H F' H'->∀H'',bh F' H''->ok H'':=λg' H'' s''=>hok H'' (g'.f.trans s'');cases b with
 |false=>
  rw[aG bU];let#[c1,c2]:=fresh1 g12;refine L6 hc he ok H0 F0 ds r acc vacc fp σ2 σ' F2 H2 (a'.mono g2.f) hl' (g.trans g12) (kJ.mono g12.f i2) (hok2 g12) (by lia) c1 c2 (λzs ez=>?_) #[ys,e4];refine hk zs ?_;simp only[dS,e1,R.bind,e3,gq,iF];exact ez
 |true=>
  rw[aF rfl];let#[y,e5,e6]:=cN e4;let#[zs,e7,e8]:=cN e6;refine he (a'.mono g2.f) g2.s ?_;rw[e5];intro F3 H3 w f3 g3 fr3 r3;have g123:=g12.trans g3;let#[c1,c2]:=fresh1 g123;have hx:∀a∈fp,∃o,H a=L o:=λa ha=>by
   let#[o,e,_]:=aN.ex acc vacc fp ra a ha;exact#[o,e]
  have fr':=jt.app g.h fr hx c2.nf #[fr3.nd,λa ha=>bh.none g12.h (fr3.nh a ha),fr3.nf];refine L6 hc he ok H0 F0 ds r (acc++[y]) (vacc++[w]) (fp++f3) σ2 σ' F3 H3 (a'.mono (g2.f.trans g3.f)) hl' (g.trans g123) (kJ.mono g123.f i2) (hok2 g123) (by simp;lia) (aN.app c1 (aN.one r3)) fr' (λzs' ez=>?_) #[zs,e7];rw[dF];refine hk (y::zs') ?_;simp only[dS,e1,R.bind,e3,e5,ez,jT]
theorem F5:∀{ds:M D}{vs:M V}{fp:M Addr}{k:M Key},aN K H F ds vs fp->qW ds=L k->vs=k.map kV
|[],_,_,_,h,e=>by cases e;exact h.1
|d::ds,_,_,k,h,e=>by
 let#[v,r,f1,f2,rfl,_,h1,h2]:=h;unfold qW at e;cases hk:mQ d with
 |none=>rw[hk]at e;cases e
 |some q=>
  rw[hk]at e;cases hr:qW ds with
  |none=>rw[hr]at e;cases e
  |some qs=>
   rw[hr]at e;cases e;rw[F5 h2 hr];cases d<;>first|(cases hk;done)|skip
   .cases hk;rw[h1.1];rfl
   .cases hk;rw[h1.1.1];rfl
theorem Jq:∀is:M Nat,aN K H F (is.map λ(i:Nat)=>D.int (i:J)) (is.map λ(i:Nat)=>V.int (i:J)) []
|[]=>#[rfl,rfl]
|_::r=>#[_,_,[],[],rfl,rfl,#[rfl,rfl],Jq r]
def l9.cons{F:Hp}{Y:br}{U:L2.St}{d:D}{v:V}(h:l9 K F Y U)(r:bx K F d v):l9 K F (L d::Y) (L v::U):=λj e q=>by
 cases j with
 |zero=>simp_all
 |succ j=>exact h j e q
def cj.code(s:bh F H)(h:H2=H\/∃c oc P,H c=S/\H2=upd H c (.bq oc (.own P))):cj F H F H2:=by
 rcases h with rfl|⟨c,oc,P,hc,rfl⟩
 .exact cj.refl s
 .obtain⟨g,_⟩:=newList (vs:=[]) s hc;exact g
theorem Yv[Ex]{E:XK}{body:CE}{k:M (Addr×M Key)->Hp->Prop}{csd:br}{cs:L2.St}(he:∀{Y:br}{U:L2.St}{F H:Hp}{Q:VK},l9 K F Y U->bh F H->PV K F H (pE Γp body Y) Q->wE K O E body U H Q)(H0:Hp)(F0:Hp):∀(m i:Nat) (ks:M (Addr×M Key)) (F H:Hp),l9 K F csd cs->cj F0 H0 F H->(∀p∈ks,H p.1=L (.tup (p.2.map kV)))->
  (∀kss,xR (pE Γp body) csd m i=.ok kss->∀F' H' ks',cj F0 H0 F' H'->ks'.map (·.2)=ks.map (·.2)++kss->(∀p∈ks',H' p.1=L (.tup (p.2.map kV)))->k ks' H')->(∃kss,xR (pE Γp body) csd m i=.ok kss)->
  Pg (wE K O E body) cs k m i ks H
|0,i,ks,F,H,a,g,hp,hk,_=>hk [] rfl F H ks g (by simp) hp
|m+1,i,ks,F,H,a,g,hp,hk,hy=>by
 let#[kss,ey]:=hy;let#[d,e1,e2]:=cN ey;let#[kk,e3,e4]:=cN e2;let#[r,e5,e6]:=cN e4;refine he (a.cons (d:=.int (i:J)) rfl) g.s ?_;rw[e1];intro F1 H1 v fp g1 fr1 r1;have e3':iP d=L kk:=by
  cases q:iP d with
  |none=>rw[q]at e3;cases e3
  |some z=>rw[q]at e3;cases e3;rfl
 have hb:∃b,v=.ref b/\H1 b=L (.tup (kk.map kV)):=by
  cases d<;>first|(cases e3';done)|skip
  let#[b,vs,rfl,hb,_,hr]:=r1;exact#[b,rfl,by rw[g1.s _ _ hb,F5 hr e3']]
 let#[b,rfl,hb]:=hb;refine#[b,kk,rfl,Yv he H0 F0 m (i+1) _ F1 H1 (a.mono g1.f) (g.trans g1) (λp hp'=>?_) (λzs ez F' H' ks' g' e' hp'=>hk (kk::zs) ?_ F' H' ks' g' ?_ hp') #[r,e5]]
 .rcases bw.mp hp' with z|z
  .exact g1.h _ _ (hp p z)
  .rw[aQ.mp z];exact hb
 .simp only[xR,e1,R.bind,R.opt,e3',ez]
 .rw[e'];simp
end
section
variable{K:ak}{Γp:M PG}{O:M G}
mutual
theorem C4:∀d:D,bq (bq d)=bq d
|.non=>rfl
|.bl _=>rfl
|.int _=>rfl
|.str _=>rfl
|.lst o xs=>by show D.lst B (aA (aA xs))=_;rw[iI xs];rfl
|.tup xs=>by show D.tup (aA (aA xs))=_;rw[iI xs];rfl
|.cW o ks xs=>by show D.cW B ks (aA (aA xs))=_;rw[iI xs];rfl
|.bS o ks xs=>by show D.bS B ks (aA (aA xs))=_;rw[iI xs];rfl
|.obj o C ks xs=>by show D.obj B C ks (aA (aA xs))=_;rw[iI xs];rfl
theorem iI:∀ds:M D,aA (aA ds)=aA ds
|[]=>rfl
|d::r=>by show bq (bq d)::aA (aA r)=_;rw[C4 d,iI r];rfl
end
def PV.isOk[Ex](h:PV K F H r Q):∃d,r=.ok d:=h.some
def PI'.isOk[Ex]{k:(Hp->Prop)->M Item->Hp->Prop}(h:PI' K A F H r k):∃d,r=.ok d:=by
 cases r with
 |ok d=>exact#[d,rfl]
 |bad=>exact h.elim
def PB.isOk[Ex]{α:Type}{F H:Hp}{r:R α}{Q:α->Hp->Prop}(h:PB K F H r Q):∃d,r=.ok d:=by
 cases r with
 |ok d=>exact#[d,rfl]
 |bad=>exact h.elim
def v5{α:Type}{r:R α}{a:α}(h:r.n_=.ok a):r=.ok a:=by
 cases r with
 |ok b=>exact h
 |bad=>cases h
theorem L7:∀{fs:M (Str×V)}{ds:M D}{f:Str}{d:D},PL (fs.map (·.1)) ds f=L d->aM K F ds (fs.map (·.2))->∃w,fs.lookup f=L w/\bx K F d w
|[],ds,f,d,e,h=>by cases ds<;>cases e
|(k,v)::r,[],f,d,e,h=>by cases e
|(k,v)::r,y::ds,f,d,e,h=>by
 let#[v',r',e1,h2,h3]:=h;cases e1;have e:(if f=k then L y else PL (r.map (·.1)) ds f)=L d:=e;by_cases c:f=k
 .rw[aF c]at e;cases e;exact#[v,by simp[l_,c],h2]
 .rw[aG c]at e;let#[w,w1,w2]:=L7 e h3;have hb:=fi.mpr c;exact#[w,by simp only[l_,hb];exact w1,w2]
def aeQ[Ex](hΓ:eY K Γp O)(s:bh F H)(r:bx K F x v)(h:PV K F H (rG Γp g f x) Q):LF O g f v H Q:=by
 let#[y,e]:=h.isOk;rw[e]at h;unfold rG at e;unfold LF;cases z:Γp[g]? with
 |none=>rw[z]at e;cases e
 |some p=>
  let#[g',e1,e2]:=hΓ.get g z;rw[z]at e;rw[e1];cases p<;>first|cases e|skip
  .cases g'<;>first|exact e2.elim|skip
   let#[rfl,rfl]:=e2;cases x<;>first|cases e|skip
   let#[a,dx,fs,rfl,h2,h3,h4,h5]:=r;let#[c,e]:=nQ e;let#[y',e3,e4]:=cN e;cases e4;simp only[cu,eF]at c;let#[rfl,c2]:=c;let#[w,k1,k2]:=L7 (by rw[h4.1];exact wH e3) h5;exact#[dx,fs,w,s _ _ h2.1,c2,k1,h.here s k2]
def PB.Yw[Ex]{F H:Hp}{r:R D}{Q:Bool->Hp->Prop}(h:PB K F H (r.bind kI) Q):PV K F H r (λx H1=>qh K x H1 λb=>Q b H1):=by
 refine h.z9 λx F1 H1 v g r hb=>?_;let#[b,e]:=hb.isOk;rw[e]at hb;exact PX g.s r e (hb F1 H1 (cj.refl g.s))
def Sd(F:Hp):bh (λ_=>S) F:=λb o h=>by cases h
def VH(r:bx K F x v)(h:vj x=.ok ds):zl ds<=aj:=by
 cases x with
 |str z=>cases h;unfold FU;rw[aa,HM];exact r.2
 |lst o xs=>cases h;let#[a,vs,_,_,h3,h4]:=r;rw[uw,<-h4.len];exact h3
 |tup xs=>cases h;let#[a,vs,_,_,h3,h4]:=r;rw[uw,<-h4.len];exact h3
 |_=>cases h
def aeR{G H:Hp}{k:(Hp->Prop)->M Item->Hp->Prop}(s:bh G H)(r:bx K G x v)(e:vj x=.ok ds)(h:∀ok its,(∀H'',bh G H''->ok H'')->kJ K G ds its->zl ds<=aj->k ok its H):Hw K v H k:=by
 have hl:=VH r e;cases x with
 |str z=>cases e;let#[rfl,hz]:=r;exact#[hz,h _ _ (λ_ _=>trivial) (R_ z) hl]
 |lst o xs=>
  cases e;let#[a,vs,rfl,h2,h3,h4]:=r;exact#[B,vs,(Rd.seq h2).same' s,h _ _ (λ_ s'=>(Rd.seq h2).same' s') (BK h4) hl]
 |tup xs=>
  cases e;let#[a,vs,rfl,h2,h3,h4]:=r;exact#[W,vs,(tupS h2).same' s,h _ _ (λ_ s'=>(tupS h2).same' s') (BK h4) hl]
 |_=>cases e
def aeS{k:(Hp->Prop)->M Item->Hp->Prop}(r:aM K F ds vs)(e:EI ds=.ok is)(h:∀its,(∀G,kJ K G is its)->zl is<=aj->k (λ_=>True) its H):Fy vs H k:=by
 have hs:=szl
 match ds,r,e with
 |[x],r,e=>
  let#[v,r',rfl,rx,er]:=r;cases er;cases x with
  |int j=>
   cases rx;let#[c,e2]:=nQ e;cases e2;have c:=aE c;refine#[#[c.1,by omega],h _ (λG=>?_) (by unfold gx;rw[aa,ig];exact c.2)];have q:=Sa (K:=K) (F:=G) 0 j.toNat;simpa using q
  |_=>cases e
 |[],_,e=>cases e
 |x::_::_,_,e=>cases x<;>cases e
theorem Jr(i:J):∀l:M Nat,aA (l.map λ(k:Nat)=>D.int (i+(k:J)))=(l.map λ(k:Nat)=>D.int (i+(k:J)))/\aM K F (l.map λ(k:Nat)=>D.int (i+(k:J))) (l.map λ(k:Nat)=>V.int (i+(k:J)))
|[]=>#[rfl,rfl]
|k::r=>by
 let#[a,b]:=Jr i r;exact#[by show D.int _::aA (r.map λ(k:Nat)=>D.int (i+(k:J)))=_;rw[a];rfl,#[_,_,rfl,rfl,b]]
set_option tactic.hygienic true in
def aeT[Ex](s:bh F H)(r:aM K F ds vs)(h:PV K F H (HF ds) Q):U7 vs H Q:=by
 unfold HF at h;split at h
 .rename_i i j;let#[v,r',rfl,rx,u,r2,rfl,ry,e]:=r;cases e;cases rx;cases ry;let#[c,h]:=PV.bV h;have c:=aE c;let#[e1,e2]:=Jr i (bM (j-i).toNat);have h:PV K F H (.ok (.tup (aA ((bM (j-i).toNat).map λ(k:Nat)=>D.int (i+(k:J)))))) Q:=by rw[e1];exact h
  exact#[c,λp hp=>h.tup s e2 (by rw[aa,ig,bY];omega) hp]
 .exact h.elim
theorem dR{α:Type}(f:α->D)(h:∀a,bq (f a)=f a):∀l:M α,aA (l.map f)=l.map f
|[]=>rfl
|a::r=>by show bq (f a)::aA (r.map f)=_;rw[h a,dR f h r];rfl
theorem L8(f:Nat->J):∀l:M Nat,kJ K F (l.map λ(k:Nat)=>D.int (f k)) (l.map λ(k:Nat)=>Item.v (.int (f k)))
|[]=>rfl
|k::l=>#[_,_,rfl,rfl,L8 f l]
theorem HN:∀(ks:M (M Key)) {F H:Hp}{k:M Addr->Hp->Prop},bh F H->(∀ts F1 H1,cj F H F1 H1->jX F1 ks ts->k ts H1)->yU ks H k
|[],F,H,k,s,h=>h [] F H (cj.refl s) .nil
|x::ks,F,H,k,s,h=>λp hp=>by
 have hf:=bh.none s hp;have g:cj F H (upd F p (.tup (x.map kV))) (upd H p (.tup (x.map kV))):=by
  refine#[λb u q=>by rw[aY (bZ q hp)];exact q,λb u q=>by rw[aY (bZ q hf)];exact q,λb u q=>?_,λb o q q'=>?_]
  .by_cases hb:b=p
   .subst hb;rw[bQ]at q ⊢;exact q
   .rw[aY hb]at q ⊢;exact s b u q
  .by_cases hb:b=p
   .subst hb;exact NT.of hp
   .rw[aY hb,q']at q;cases q
 refine HN ks g.s λts F1 H1 g1 ht=>h (p::ts) F1 H1 (g.trans g1) (.cons (g1.f p _ bQ) ht)
theorem Jt:∀{k:M Key},keysOk k=W->aM K F (k.map iB) (k.map kV)
|[],_=>rfl
|x::k,h=>by
 obtain⟨h1,h2⟩:keyOk x=W/\keysOk k=W:=by simpa[keysOk]using h
 refine#[_,_,rfl,?_,Jt h2];cases x with
 |inl i=>rfl
 |inr x=>exact#[rfl,aE h1]
theorem Ju:∀{ks:M (M Key)}{ts:M Addr},jX F ks ts->fZ ks=W->aM K F (ks.map λk=>.tup (k.map iB)) (ts.map V.ref)
|_,_,.nil,_=>rfl
|_,_,.cons (a:=k) e r,h=>by
 obtain⟨h1,h2⟩:nO k=W/\fZ _=W:=by simpa[fZ]using h
 let#[h3,h4]:=nL.mp h1;exact#[_,_,rfl,#[_,_,rfl,e,by rw[aa];exact aE h4,Jt h3],Ju r h2]
def Se(ks:M (M Key)):aA (ks.map λk=>D.tup (k.map iB))=ks.map λk=>D.tup (k.map iB):=by
 induction ks with
 |nil=>rfl
 |cons k ks ih=>
  show bq (.tup (k.map iB))::aA _=_::_;rw[ih];congr 1;show D.tup (aA _)=_;rw[dR _ (λx=>by cases x<;>rfl)]
def Nr(ks:M (M Key)):aX (ks.map λk=>D.tup (k.map iB))=W:=by
 induction ks with
 |nil=>rfl
 |cons k ks ih=>
  show(aX (k.map iB)&&_)=W;rw[ih,nY];induction k with
  |nil=>rfl
  |cons x k ih2=>
   show(aU (iB x)&&_)=W;rw[ih2];cases x<;>rfl
theorem Om:∀{ks:M Key}{xs:M D}{kvs:M (Key×V)}{ps:M (Str×J)},z5 ks xs=L ps->kvs.map (·.1)=ks->aM K F xs (kvs.map (·.2))->kvs=ps.map λp:Str×J=>(d9 p.1,V.int p.2)
|[],[],kvs,ps,h,h1,_=>by
 cases h;cases kvs with
 |nil=>rfl
 |cons _ _=>cases h1
|.inr x::ks,d::xs,kvs,ps,h,h1,h2=>by
 cases d<;>first|(cases h;done)|skip
 cases kvs with
 |nil=>cases h1
 |cons kv kvs=>
  let#[k,v]:=kv;let#[qs,e1,rfl]:=yN.mp h;let#[w,r,e2,e3,e4]:=h2;cases e2;cases h1;cases e3;rw[Om e1 rfl e4];rfl
|[],_::_,_,_,h,_,_=>by cases h
|.inr _::_,[],_,_,h,_,_=>by cases h
|.inl _::_,_,_,_,h,_,_=>by cases h
theorem L_:∀{ps:M (Str×J)},keysOk (ps.map λp=>(d9 p.1:Key))=W->fZ (mO ps)=W
|[],_=>rfl
|p::ps,h=>by
 obtain⟨h1,h2⟩:keyOk (.inr p.1)=W/\keysOk (ps.map λp=>(d9 p.1:Key))=W:=by simpa[keysOk]using h
 have h3:=L_ h2;have h4:nO [.inr p.1,.inl p.2]=W:=by
  have:2<=aj:=by rw[bY];lia
  unfold nO keysOk;simp[h1,keyOk,this];exact aE h1
 show(nO _&&_)=W;rw[h4];exact h3
set_option tactic.hygienic true in
def aeU[Ex](s:bh F H)(r:bx K F d v)(h:PV K F H (LY d) Q):U8 v H Q:=by
 cases d<;>first|exact h.elim|skip
 rename_i o ks xs;let#[a,kvs,rfl,h1,h2,#[h3,h4],h5]:=r;have h:PV K F H ((R.opt (z5 ks xs)).bind λps=>.bV (decide (zl ps<64)) (.ok (.lst W (pL (mO ps))))) Q:=h;cases e:z5 ks xs with
 |none=>rw[e]at h;exact h.elim
 |some ps=>
  rw[e]at h;let#[c,h]:=PV.bV h;have ek:=Om e h3 h5;subst ek;have h64:=aE c;rw[<-h3,bK]at h4;refine#[a,ps,rfl,.inl (s a _ h1),h64,HN _ s λts F1 H1 g ht p hp=>(h.grow g).sorted g.s (L_ h4) ?_ (Paired.imp' (λk t e=>g.s t _ e) ht) hp];unfold sortable;rw[cu];refine#[by rw[mO,aa];exact c,bz.mpr λk hk=>?_];rw[cu];refine#[?_,bz.mpr λq hq=>IZ k hk q hq];let#[p,_,rfl]:=ck.mp hk;rfl
theorem Jv:∀{ds:M D}{vs:M V},aM K F ds vs->aM K F ds.reverse vs.reverse
|[],_,h=>by cases h;rfl
|d::ds,_,h=>by
 let#[v,r,rfl,h1,h2]:=h;rw[ic,ic];exact aM.app (Jv h2) #[v,[],rfl,h1,rfl]
def aeV[Ex](s:bh F H)(r:bx K F d v)(h:PV K F H (LZ d) Q):U9 v H Q:=by
 cases d<;>first|exact h.elim|skip
 let#[a,vs,rfl,h1,h2,h3]:=r;exact#[a,vs,rfl,Rd.same s h1,λp hp=>PV.lst h s (Jv h3) (by simp_all) hp]
def aeW[Ex](s:bh F H)(r:bx K F (.bS o ks xs) v)(hk:(ks.all λk=>decide (zl k=3))=W)(h:PV K F H (.ok (.lst W (HH n ks))) Q):Pe n v H Q:=by
 let#[a,kvs,rfl,h1,h2,#[h3,h4],h5]:=r;have hk':fZ (ks.filterMap (sP n))=W:=bz.mpr λk hk1=>by
  let#[q,hq,e]:=u_.mp hk1;have h6:=bz.mp h4 q hq;let#[x,y,z,rfl]:=acP (aE (bz.mp hk q hq));by_cases c:z=.inl n
  .have e:=(aF c).symm.trans e;cases e;unfold nO keysOk at h6 ⊢;simp at h6 ⊢;have:2<=aj:=by rw[bY];lia
   exact#[#[h6.1.1,h6.1.2.1],this]
  .have e:=(aG c).symm.trans e;cases e
 have hlen:zl (ks.filterMap (sP n))<=aj:=cH (List.length_filterMap_le _ _) (by rw[<-h3,aa];exact h2);rw[<-h3]at hk hk' hlen;refine#[a,kvs,rfl,s a _ h1,#[h2,by rw[h3];exact h4,λk q=>aE (bz.mp hk k q)],HN _ s λts F1 H1 g ht p hp=>?_];have h6:PV K F H (.ok (.lst W (aA (((kvs.map (·.1)).filterMap (sP n)).map λk=>D.tup (k.map iB))))) Q:=by rw[Se,h3];exact h
 exact PV.lst (h6.grow g) g.s (Ju ht hk') (by rw[aa,<-Paired.length ht];exact hlen) hp
def PZ:aU (.lst W (HH n ks))=W:=Nr _
def band'(h:(a&&b)=W):a=W/\b=W:=by simpa using h
theorem ac1(n:VD K H Y U):∀(ps:M (Str×Nat)) (a y:Str),R0 Y ps a=L y->Yc U ps a=L y
|[],a,y,h=>h
|p::r,a,y,h=>by
 have h:(match Y[p.2]? with
  |some (L d)=>(HK d).bind λy=>R0 Y r (a++p.1++y)
  |_=>S)=L y:=h
 show(match U[p.2]? with
  |some (L v)=>(Pf v).bind λy=>Yc U r (a++p.1++y)
  |_=>S)=L y
 cases q:Y[p.2]? with
 |none=>rw[q]at h;cases h
 |some o=>
  cases o with
  |none=>rw[q]at h;cases h
  |some d=>
   rw[q]at h;let#[v,F',h1,_,h2]:=n p.2 d q;rw[h1];have e:∀z,HK d=L z->Pf v=L z:=λz hz=>by
    cases d<;>first|cases hz|skip
    .cases h2;exact hz
    .obtain⟨rfl,_⟩:=h2;rfl
   cases c:HK d with
   |none=>have h:(HK d).bind (λy=>R0 Y r (a++p.1++y))=L y:=h;rw[c]at h;cases h
   |some z=>
    have h:(HK d).bind (λy=>R0 Y r (a++p.1++y))=L y:=h;rw[c]at h;show(Pf v).bind (λy=>Yc U r (a++p.1++y))=L y;rw[e z c];exact ac1 n r _ y h
def aeX[Ex](h:PV K F H (h_ .len [x]) Q)(s:bh F H):PV K F' H (h_ .len [x]) Q:=by
 cases x<;>first|exact PV.int h s|exact h.elim
set_option tactic.hygienic true in
def Yx[Ex](n:VD K H Y U)(s:bh F H)(hl:yq f as=W)(h:PV K F H ((gv Γp as Y).bind λds=>h_ f ds) Q):wEs K O Ex.E as U H λvs H1=>zR K f vs H1 Q:=by
 cases f<;>first|cases hl;done|skip
 cases as with
 |nil=>cases hl
 |cons a r=>
  cases a<;>first|cases hl;done|skip
  rename_i k;cases r with
  |cons _ _=>cases hl
  |nil=>
  have h:PV K F H (((match Y[k]? with
   |some (L d)=>R.ok (bq d)
   |_=>.bad).bind λx=>(R.ok []).bind λxs=>.ok (x::xs)).bind λds=>h_ .len ds) Q:=h
  show gU U k λv=>zR K .len [v] H Q;unfold gU;cases q:Y[k]? with
  |none=>rw[q]at h;exact h.elim
  |some o=>
   cases o with
   |none=>rw[q]at h;exact h.elim
   |some d=>
    rw[q]at h;let#[v,F',h1,h2,h3]:=n k d q;rw[h1];exact PY h2 (show aM K F' [bq d] [v]from#[v,[],rfl,(bx.bq d v).mpr h3,rfl]) (aeX (show PV K F H (h_ .len [bq d]) Q from h) s)
def Sf(hΓ:eY K Γp O)[Ex](hE:∀QA:M V->Hp->Prop,AE K F H (gv Γp as Y) QA->wEs K O Ex.E as U H QA)(h:PV K F H (pE Γp (.call g as) Y) Q):wE K O Ex.E (.call g as) U H Q:=by
 have h:PV K F H (match Γp[g]? with
  |some (.fn m dds)=>(gv Γp as Y).bind λds=>m (aA ds++dds)
  |_=>.bad) Q:=h
 show(match O[g]? with
  |some (.fn sp dvs)=>wEs K O Ex.E as U H λvs H1=>sp (vs++dvs) H1 Q Ex.E
  |_=>bu)
 cases q:Γp[g]? with
 |none=>rw[q]at h;exact h.elim
 |some p=>
  let#[g',e1,e2]:=hΓ.get g q;rw[q]at h;rw[e1];cases p<;>first|exact h.elim|skip
  .rename_i m dds;cases g'<;>first|exact e2.elim|skip
   .rename_i sp dvs;refine hE _ (AE.F4 h λds F1 H1 vs g1 r1 h1=>?_);exact e2.1 _ _ _ _ #[F1,aA ds++dds,g1.s,by rw[rH,iI,e2.2.1],aM.app ((aM.aA ds vs).mpr r1) (aM.mono (Sd F1) dds dvs e2.2.2),h1]
set_option tactic.hygienic true in
mutual
theorem iJ(hΓ:eY K Γp O)[Ex]:∀(e:CE) {Y:br}{U:L2.St}{F H:Hp}{Q:VK},kK K F H (cK e) Y U->bh F H->dW e=W->PV K F H (pE Γp e Y) Q->wE K O Ex.E e U H Q
|.var i,Y,U,F,H,Q,env,s,lt,h=>by
 have h:PV K F H (match Y[i]? with
  |some (L d)=>.ok (bq d)
  |_=>.bad) Q:=h
 show gU U i λv=>Q v H;unfold gU;cases q:Y[i]? with
 |none=>rw[q]at h;exact h.elim
 |some o=>
  cases o with
  |none=>rw[q]at h;exact h.elim
  |some d=>
   rw[q]at h;let#[v,h1,h2]:=env.e i (aQ.mpr rfl) d q;rw[h1];exact h.here s h2
|.con v,Y,U,F,H,Q,env,s,lt,h=>by
 have h:PV K F H (BD v) Q:=h;show Q v H;unfold BD at h;cases v<;>first|exact h.elim|exact h.flat s ⟨rfl,rfl⟩|exact h.flat s ⟨⟨rfl,aE lt⟩,rfl⟩
|.bin op a b,Y,U,F,H,Q,env,s,lt,h=>by
 let#[l1,l2]:=band' lt;refine iJ hΓ a env.l s l1 (PV.bind (show PV K F H ((pE Γp a Y).bind λx=>(pE Γp b Y).bind λy=>nA op x y) Q from h) λx F1 H1 v g1 r1 h1=>?_);refine iJ hΓ b (env.r.mono g1) g1.s l2 (h1.bind λy F2 H2 u g2 r2 h2=>?_);exact aeP g2.s (bx.mono g2.f x v r1) r2 h2
|.neg a,Y,U,F,H,Q,env,s,lt,h=>by
 refine iJ hΓ a env s lt (PV.bind (show PV K F H ((pE Γp a Y).bind λx=>match x with|.int i=>.ok (.int (-i))|_=>.bad) Q from h) λx F1 H1 v g1 r1 h1=>?_);cases x with
 |int i=>cases r1;exact h1.flat g1.s #[rfl,rfl]
 |_=>exact h1.elim
|.not a,Y,U,F,H,Q,env,s,lt,h=>by
 refine iJ hΓ a env s lt (PV.bind (show PV K F H ((pE Γp a Y).bind λx=>(kI x).bind λb=>.ok (.bl (!b))) Q from h) λx F1 H1 v g1 r1 h1=>?_);let#[d,e]:=h1.isOk;let#[b,e1,e2]:=cN e;rw[e1]at h1;exact PX g1.s r1 e1 (h1.flat g1.s #[rfl,rfl])
|.and a b,Y,U,F,H,Q,env,s,lt,h=>by
 let#[l1,l2]:=band' lt;refine iJ hΓ a env.l s l1 (PV.bind (show PV K F H ((pE Γp a Y).bind λx=>match x with|.bl c=>if c=W then pE Γp b Y else .ok (.bl B)|_=>.bad) Q from h) λx F1 H1 v g1 r1 h1=>?_);cases x with
 |bl c=>
  cases r1;cases c with
  |true=>exact iJ hΓ b (env.r.mono g1) g1.s l2 h1
  |false=>exact h1.flat g1.s #[rfl,rfl]
 |_=>exact h1.elim
|.or a b,Y,U,F,H,Q,env,s,lt,h=>by
 let#[l1,l2]:=band' lt;refine iJ hΓ a env.l s l1 (PV.bind (show PV K F H ((pE Γp a Y).bind λx=>match x with|.bl c=>if c=W then .ok (.bl W)else pE Γp b Y|_=>.bad) Q from h) λx F1 H1 v g1 r1 h1=>?_);cases x with
 |bl c=>
  cases r1;cases c with
  |false=>exact iJ hΓ b (env.r.mono g1) g1.s l2 h1
  |true=>exact h1.flat g1.s #[rfl,rfl]
 |_=>exact h1.elim
|.ite c a b,Y,U,F,H,Q,env,s,lt,h=>by
 let#[l1,l2]:=band' lt;let#[l2,l3]:=band' l2;refine BL hΓ c env.l s l1 (PV.bindB (K:=K) (show PV K F H ((pT Γp c Y).bind λk=>if k=W then pE Γp a Y else pE Γp b Y) Q from h) λk F1 H1 g1 h1=>?_);cases k with
 |true=>exact iJ hΓ a (env.r.l.mono g1) g1.s l2 h1
 |false=>exact iJ hΓ b (env.r.r.mono g1) g1.s l3 h1
|.cmp op a b,Y,U,F,H,Q,env,s,lt,h=>by
 let#[l1,l2]:=band' lt;refine iJ hΓ a env.l s l1 (PV.bind (show PV K F H ((pE Γp a Y).bind λx=>(pE Γp b Y).bind λy=>gE op x y) Q from h) λx F1 H1 v g1 r1 h1=>?_);refine iJ hΓ b (env.r.mono g1) g1.s l2 (h1.bind λy F2 H2 u g2 r2 h2=>?_);exact Ys g2.s (bx.mono g2.f x v r1) r2 h2
|.call g as,Y,U,F,H,Q,env,s,lt,h=>Sf hΓ (λ_ h=>wJ hΓ as env s lt h) h
|.blt f as,Y,U,F,H,Q,env,s,lt,h=>by
 by_cases hl:yq f as=W
 .exact Yx env.n s hl h
 have env:kK K F H (gX as) Y U:=by
  have e:kK K F H (if yq f as=W then[]else gX as) Y U:=env;rw[aG hl]at e;exact e
 refine wJ hΓ as env s lt (AE.F4 (show PV K F H ((gv Γp as Y).bind λds=>h_ f ds) Q from h) λds F1 H1 vs g1 r1 h1=>PY g1.s r1 h1)
|.isi a t,Y,U,F,H,Q,env,s,lt,h=>by
 refine iJ hΓ a env s lt (PV.bind (show PV K F H ((pE Γp a Y).bind λx=>.bV (sX x) (.ok (.bl (yx t x)))) Q from h) λx F1 H1 v g1 r1 h1=>?_);let#[hn,h1]:=h1.bV;exact Yt g1.s r1 hn (h1.flat g1.s #[rfl,rfl])
|.mth m o as,Y,U,F,H,Q,env,s,lt,h=>by
 let#[l1,l2]:=band' lt;refine iJ hΓ o env.l s l1 (PV.bind (show PV K F H ((pE Γp o Y).bind λx=>(gv Γp as Y).n_.bind λds=>uq m x ds) Q from h) λx F1 H1 v g1 r1 h1=>?_);let#[d,e]:=h1.isOk;let#[ds,e1,e2]:=cN e;have e1':=v5 e1;rw[e1,<-e1']at h1;refine#[R9 g1.s r1 e2,wJ hΓ as (env.r.mono g1) g1.s l2 (AE.F4 h1 λds F2 H2 vs g2 r2 h2=>?_)];exact Yu g2.s (bx.mono g2.f x v r1) r2 h2
|.ix a b,Y,U,F,H,Q,env,s,lt,h=>by
 let#[l1,l2]:=band' lt;refine iJ hΓ a env.l s l1 (PV.bind (show PV K F H ((pE Γp a Y).bind λx=>(pE Γp b Y).bind λy=>iY x y) Q from h) λx F1 H1 v g1 r1 h1=>?_);refine iJ hΓ b (env.r.mono g1) g1.s l2 (h1.bind λy F2 H2 u g2 r2 h2=>?_);exact acY g2.s (bx.mono g2.f x v r1) r2 h2
|.sl a lo hi,Y,U,F,H,Q,env,s,lt,h=>by
 let#[l1,l2]:=band' lt;let#[l2,l3]:=band' l2;refine iJ hΓ a env.l s l1 (PV.bind (show PV K F H ((pE Γp a Y).bind λx=>(pO Γp lo Y).bind λl=>(pO Γp hi Y).bind λh=>Jb x l h) Q from h) λx F1 H1 v g1 r1 h1=>?_);refine ruO hΓ lo (env.r.l.mono g1) g1.s l2 (h1.bindB λl F2 H2 g2 h2=>?_);refine ruO hΓ hi (env.r.r.mono (g1.trans g2)) g2.s l3 (h2.bindB λl' F3 H3 g3 h3=>?_);exact okSl g3.s (bx.mono (g2.f.trans g3.f) x v r1) h3
|.lst as,Y,U,F,H,Q,env,s,lt,h=>by
 have h:PV K F H ((gv Γp as Y).bind λds=>.bV (decide (zl ds<=aj)) (.ok (.lst W ds))) Q:=h;refine wJ hΓ as env s lt ?_;cases e1:gv Γp as Y with
 |bad=>rw[e1]at h;exact h.elim
 |ok ds=>
 rw[e1]at h;let#[c,h]:=PV.bV h;intro F1 H1 vs fp g fr r;have hl:zl vs<=aj:=by rw[r.len];exact aE c
 exact#[hl,λp hp=>h.VG g fr r hl hp]
|.tup as,Y,U,F,H,Q,env,s,lt,h=>by
 have h:PV K F H ((gv Γp as Y).bind λds=>.bV (decide (zl ds<=aj)) (.ok (.tup ds))) Q:=h;refine wJ hΓ as env s lt ?_;cases e1:gv Γp as Y with
 |bad=>rw[e1]at h;exact h.elim
 |ok ds=>
 rw[e1]at h;let#[c,h]:=PV.bV h;intro F1 H1 vs fp g fr r;have hl:zl vs<=aj:=by rw[r.len];exact aE c
 exact#[hl,λp hp=>h.tupX g fr r hl hp]
|.skl g fr n body,Y,U,F,H,Q,env,s,lt,h=>by
 let#[l1,l2]:=band' lt;have h:PV K F H (HJ Γp g (pE Γp n Y) (pE Γp body) (fr.map λi=>Y.getD i S)) Q:=h;unfold HJ at h;cases eg:Γp[g]? with
 |none=>rw[eg]at h;exact h.elim
 |some p=>
 rw[eg]at h;cases p<;>first|exact h.elim|skip
 let#[g',e1,e2]:=hΓ.get g eg;cases g'<;>first|exact e2.elim|skip
 show(match O[g]? with
  |some (.lam _)=>Ph (wE K O Ex.E n) (wE K O E0 body) fr U H Q
  |_=>bu)
 rw[e1];refine iJ hΓ n env.l s l1 (PV.bind h λd F1 H1 v g1 r1 h1=>?_);cases ed:VC d with
 |none=>rw[ed]at h1;exact h1.elim
 |some k=>
 rw[ed]at h1;have h1:PV K F1 H1 ((xR (pE Γp body) (fr.map λi=>Y.getD i S) k 0).n_.bind λkss=>.bV (L2.sortable kss) (.ok (.lst W ((L2.dX kss).map λ(i:Nat)=>D.int (i:J))))) Q:=h1;have hv:v=.int (k:J)/\k<64:=by
  cases d<;>first|(cases ed;done)|skip
  rename_i i;have ed:(if 0<=i/\i<64 then L i.toNat else S)=L k:=ed;split at ed
  .rename_i hi;cases ed;refine#[?_,by omega];rw[show((i.toNat:Nat):J)=i by omega];exact r1
  .cases ed
 refine#[k,hv.1,hv.2,λH2 hH=>?_];have g2:cj F1 H1 F1 H2:=cj.code g1.s hH;let#[d',e]:=h1.isOk;let#[kss,e3,e4]:=cN e;rw[e]at h1;replace e3:=v5 e3;let#[hs,e5]:=nQ e4;cases e5;refine@Yv K Γp O ⟨E0⟩ E0 body _ _ _ (λa s' hv=>@iJ hΓ ⟨E0⟩ body _ _ _ _ _ (a.env s') s' l2 hv) H1 F1 k 0 [] F1 H2 (Jp (nl:=[]) (env.r.mono g1)) g2 (λ_ z=>aH z aD) (λzs ez F' H' ks' g' e' hp=>?_) #[kss,e3];replace ez:xR (pE Γp body) (fr.map λi=>Y.getD i S) k 0=.ok zs:=ez;rw[e3]at ez;cases ez;rw[gi,oW]at e';refine#[#[hp,by rw[e'];exact hs],λp hn=>?_];rw[e'];refine h1.VG g' #[.nil,(λ_ z=>nomatch z),(λ_ z=>nomatch z)] (Jq _) ?_ hn;rw[aa];unfold L2.dX;rw[n6,bY];have:=(n9 hs).1;omega
|.sit a,Y,U,F,H,Q,env,s,lt,h=>
 iJ hΓ a env s lt (PV.bind (show PV K F H ((pE Γp a Y).bind λx=>LY x) Q from h) λx F1 H1 v g1 r1 h1=>aeU g1.s r1 h1)
|.lrv a,Y,U,F,H,Q,env,s,lt,h=>
 iJ hΓ a env s lt (PV.bind (show PV K F H ((pE Γp a Y).bind λx=>LZ x) Q from h) λx F1 H1 v g1 r1 h1=>aeV g1.s r1 h1)
|.trg as,Y,U,F,H,Q,env,s,lt,h=>
 wJ hΓ as env s lt (AE.F4 (show PV K F H ((gv Γp as Y).bind λds=>HF ds) Q from h) λds F1 H1 vs g1 r1 h1=>aeT g1.s r1 h1)
|.dcT,Y,U,F,H,Q,env,s,lt,h=>by
 intro p hp;have h:PV K F H (.ok (.bS W [] [])) Q:=h;let#[g,hf]:=newList (vs:=[]) (o:=.dT []) s hp;refine h F _ (.ref p) [p] g #[by simp,?_,?_] ?_
 .intro a ha;rw[aQ.mp ha];exact hp
 .intro a ha;rw[aQ.mp ha];exact hf
 .unfold bI;rw[aF rfl];exact#[p,[],[],rfl,bQ,dg _,#[rfl,rfl],#[rfl,rfl],rfl]
|.dct,Y,U,F,H,Q,env,s,lt,h=>by
 intro p hp;have h:PV K F H (.ok (.cW W [] [])) Q:=h;let#[g,hf]:=newList (vs:=[]) (o:=.dK []) s hp;refine h F _ (.ref p) [p] g #[by simp,?_,?_] ?_
 .intro a ha;rw[aQ.mp ha];exact hp
 .intro a ha;rw[aQ.mp ha];exact hf
 .unfold bI;rw[aF rfl];exact#[p,[],[],rfl,bQ,dg _,#[rfl,rfl],#[rfl,rfl],rfl]
|.comp nl fr elt tg src cond,Y,U,F,H,Q,env,s,lt,h=>by
 let#[l1,l2]:=band' lt;let#[l2,l3]:=band' l2;have h:PV K F H ((pI Γp src Y).bind λitems=>(dS (pG tg) (pC Γp cond) (pE Γp elt) items.2 (nl.map (λ_=>S)++fr.map (λi=>Y.getD i S))).n_.bind λds=>.ok (.lst W ds)) Q:=h;refine ruI hΓ src [] env.l s (λ_ h=>aH h aD) l2 ?_;cases e1:pI Γp src Y with
 |bad=>rw[e1]at h;exact h.elim
 |ok items=>
 rw[e1]at h;have h:PV K F H ((dS (pG tg) (pC Γp cond) (pE Γp elt) items.2 (nl.map (λ_=>S)++fr.map (λi=>Y.getD i S))).n_.bind λds=>.ok (.lst W ds)) Q:=h;let#[d,e]:=h.isOk;let#[ys,e3,e4]:=cN e;rw[e]at h;cases e4;replace e3:=v5 e3;intro F1 H1 ok its g1 hok hi hl;rw[R3]at hok hi;refine@L6 K Γp O ⟨E0⟩ E0 tg cond elt _ (λa s' hb=>@ruC hΓ ⟨E0⟩ cond _ _ _ _ _ (a.env s') s' l3 hb) (λa s' hv=>@iJ hΓ ⟨E0⟩ elt _ _ _ _ _ (a.env s') s' l1 hv) ok H1 F1 items.2 its [] [] [] _ _ F1 H1 (Jp (env.r.mono g1)) Sb (cj.refl g1.s) hi hok (by simpa using hl) #[rfl,rfl] .nil (λzs ez F' H' vs fp' g' r' fr' p hp=>?_) #[ys,e3];rw[e3]at ez;cases ez;have hz:zl vs<=aj:=by
  rw[r'.len,oW];have:∀(ds:M D) (Y:br) (ys:M D),dS (pG tg) (pC Γp cond) (pE Γp elt) ds Y=.ok ys->zl ys<=zl ds:=by
   intro ds;induction ds with
   |nil=>intro Y ys h;cases h;exact aK _
   |cons d ds ih=>
    intro Y ys h;let#[σ2,i1,i2]:=cN h;let#[b,i3,i4]:=cN i2;cases b with
    |false=>have:=ih σ2 ys i4;simp;omega
    |true=>
     let#[y,i5,i6]:=cN (show((pE Γp elt σ2).bind λy=>(dS (pG tg) (pC Γp cond) (pE Γp elt) ds σ2).bind λys=>.ok (y::ys))=.ok ys from i4);let#[zs,i7,i8]:=cN i6;cases i8;have:=ih σ2 zs i7;simp;omega
  have:=this items.2 _ ys e3;omega
 refine h.VG (g1.trans g') #[fr'.nd,λa ha=>bh.none g1.h (fr'.nh a ha),fr'.nf] r' hz hp
|.att g a f,Y,U,F,H,Q,env,s,lt,h=>by
 exact iJ hΓ a env s lt (PV.bind (show PV K F H ((pE Γp a Y).bind λx=>rG Γp g f x) Q from h) λx F1 H1 v g1 r1 h1=>aeQ hΓ g1.s r1 h1)
theorem BL(hΓ:eY K Γp O)[Ex]:∀(e:CE) {Y:br}{U:L2.St}{F H:Hp}{Q:Bool->Hp->Prop},kK K F H (cK e) Y U->bh F H->dW e=W->PB K F H (pT Γp e Y) Q->wT K O Ex.E e U H Q
|.not a,Y,U,F,H,Q,env,s,lt,h=>by
 exact BL hΓ a env s lt (PB.bindB (show PB K F H ((pT Γp a Y).bind λb=>.ok (!b)) Q from h) λb F1 H1 g1 h1=>h1 F1 H1 (cj.refl g1.s))
|.and a b,Y,U,F,H,Q,env,s,lt,h=>by
 let#[l1,l2]:=band' lt;refine BL hΓ a env.l s l1 (PB.bindB (show PB K F H ((pT Γp a Y).bind λc=>if c=W then pT Γp b Y else .ok B) Q from h) λc F1 H1 g1 h1=>?_);cases c with
 |true=>exact BL hΓ b (env.r.mono g1) g1.s l2 h1
 |false=>exact h1 F1 H1 (cj.refl g1.s)
|.or a b,Y,U,F,H,Q,env,s,lt,h=>by
 let#[l1,l2]:=band' lt;refine BL hΓ a env.l s l1 (PB.bindB (show PB K F H ((pT Γp a Y).bind λc=>if c=W then .ok W else pT Γp b Y) Q from h) λc F1 H1 g1 h1=>?_);cases c with
 |false=>exact BL hΓ b (env.r.mono g1) g1.s l2 h1
 |true=>exact h1 F1 H1 (cj.refl g1.s)
|.ite c a b,Y,U,F,H,Q,env,s,lt,h=>by
 let#[l1,l2]:=band' lt;let#[l2,l3]:=band' l2;refine BL hΓ c env.l s l1 (PB.bindB (show PB K F H ((pT Γp c Y).bind λk=>if k=W then pT Γp a Y else pT Γp b Y) Q from h) λk F1 H1 g1 h1=>?_);cases k with
 |true=>exact BL hΓ a (env.r.l.mono g1) g1.s l2 h1
 |false=>exact BL hΓ b (env.r.r.mono g1) g1.s l3 h1
|.cmp op a b,Y,U,F,H,Q,env,s,lt,h=>by
 let#[l1,l2]:=band' lt;refine iJ hΓ a env.l s l1 (PB.z9 (show PB K F H ((pE Γp a Y).bind λx=>(pE Γp b Y).bind λy=>(gE op x y).bind λz=>match z with|.bl k=>.ok k|_=>.bad) Q from h) λx F1 H1 v g1 r1 h1=>?_);refine iJ hΓ b (env.r.mono g1) g1.s l2 (h1.z9 λy F2 H2 u g2 r2 h2=>?_);refine Ys g2.s (bx.mono g2.f x v r1) r2 (h2.z9 λz F3 H3 w g3 r3 h3=>?_);cases z with
 |bl k=>cases r3;exact h3 F3 H3 (cj.refl g3.s)
 |_=>exact h3.elim
|.var i,Y,U,F,H,Q,env,s,lt,h=>by
 have h:PB K F H (match Y[i]? with
  |some (L d)=>kI d
  |_=>.bad) Q:=h
 show gU U i λv=>qh K v H λb=>Q b H;unfold gU;cases q:Y[i]? with
 |none=>rw[q]at h;exact h.elim
 |some o=>
  cases o with
  |none=>rw[q]at h;exact h.elim
  |some d=>
   rw[q]at h;let#[v,h1,h2]:=env.e i (aQ.mpr rfl) d q;rw[h1];let#[b,e]:=h.isOk;rw[e]at h;exact PX s h2 e (h F H (cj.refl s))
|.call g as,Y,U,F,H,Q,env,s,lt,h=>by
 rw[Of];have h':PB K F H ((pE Γp (.call g as) Y).bind kI) Q:=by
  revert h;show PB K F H (match Γp[g]? with
   |some (.fn m dds)=>((gv Γp as Y).bind λds=>m (aA ds++dds)).bind kI
   |_=>.bad) Q->PB K F H ((match Γp[g]? with
   |some (.fn m dds)=>(gv Γp as Y).bind λds=>m (aA ds++dds)
   |_=>.bad).bind kI) Q
  cases Γp[g]? with
  |none=>exact λh=>h
  |some p=>cases p<;>exact λh=>h
 have hv:=PB.Yw (K:=K) h';exact Sf hΓ (λ_ h=>wJ hΓ as env s lt h) hv
|.blt f as,Y,U,F,H,Q,env,s,lt,h=>by
 have hv:=PB.Yw (K:=K) (show PB K F H (((gv Γp as Y).bind λds=>h_ f ds).bind kI) Q from h);by_cases hl:yq f as=W
 .exact Yx (Q:=λx H2=>qh K x H2 λb=>Q b H2) env.n s hl hv
 have env:kK K F H (gX as) Y U:=by
  have e:kK K F H (if yq f as=W then[]else gX as) Y U:=env;rw[aG hl]at e;exact e
 exact wJ hΓ as env s lt (AE.F4 hv λds F1 H1 vs g1 r1 h1=>PY g1.s r1 h1)
|.isi a t,Y,U,F,H,Q,env,s,lt,h=>by
 refine iJ hΓ a env s lt (PB.z9 (show PB K F H ((pE Γp a Y).bind λx=>.bV (sX x) (.ok (yx t x))) Q from h) λx F1 H1 v g1 r1 h1=>?_);let#[hn,h1]:=h1.bV;exact Yt g1.s r1 hn (show qh K (.bl (yx t x)) H1 λb=>Q b H1 from h1 F1 H1 (cj.refl g1.s))
|.mth m o as,Y,U,F,H,Q,env,s,lt,h=>by
 let#[l1,l2]:=band' lt;refine iJ hΓ o env.l s l1 (PB.z9 (show PB K F H ((pE Γp o Y).bind λx=>(gv Γp as Y).n_.bind λds=>(uq m x ds).bind kI) Q from h) λx F1 H1 v g1 r1 h1=>?_);let#[d,e]:=h1.isOk;let#[ds,e1,e2]:=cN e;have e1':=v5 e1;rw[e1,<-e1']at h1;let#[d',e3,e4]:=cN e2;refine#[R9 g1.s r1 e3,wJ hΓ as (env.r.mono g1) g1.s l2 (PB.acZ h1 λds F2 H2 vs g2 r2 h2=>?_)];exact Yu g2.s (bx.mono g2.f x v r1) r2 (PB.Yw h2)
|.con v,Y,U,F,H,Q,env,s,lt,h=>h.elim
|.bin op a b,Y,U,F,H,Q,env,s,lt,h=>h.elim
|.neg a,Y,U,F,H,Q,env,s,lt,h=>h.elim
|.ix a b,Y,U,F,H,Q,env,s,lt,h=>by
 let#[l1,l2]:=band' lt;have hv:=PB.Yw (K:=K) (show PB K F H (((pE Γp a Y).bind λx=>(pE Γp b Y).bind λy=>iY x y).bind kI) Q from h);refine iJ hΓ a env.l s l1 (PV.bind hv λx F1 H1 v g1 r1 h1=>?_);refine iJ hΓ b (env.r.mono g1) g1.s l2 (h1.bind λy F2 H2 u g2 r2 h2=>?_);exact acY g2.s (bx.mono g2.f x v r1) r2 h2
|.sl a lo hi,Y,U,F,H,Q,env,s,lt,h=>h.elim
|.lst as,Y,U,F,H,Q,env,s,lt,h=>h.elim
|.tup as,Y,U,F,H,Q,env,s,lt,h=>h.elim
|.dcT,Y,U,F,H,Q,env,s,lt,h=>h.elim
|.trg _,Y,U,F,H,Q,env,s,lt,h=>h.elim
|.sit _,Y,U,F,H,Q,env,s,lt,h=>h.elim
|.lrv _,Y,U,F,H,Q,env,s,lt,h=>h.elim
|.skl _ _ _ _,Y,U,F,H,Q,env,s,lt,h=>h.elim
|.dct,Y,U,F,H,Q,env,s,lt,h=>h.elim
|.comp nl fr elt tg src cond,Y,U,F,H,Q,env,s,lt,h=>h.elim
|.att g a f,Y,U,F,H,Q,env,s,lt,h=>h.elim
theorem wJ(hΓ:eY K Γp O)[Ex]:∀(as:iV) {Y:br}{U:L2.St}{F H:Hp}{Q:M V->Hp->Prop},kK K F H (gX as) Y U->bh F H->l6 as=W->AE K F H (gv Γp as Y) Q->wEs K O Ex.E as U H Q
|.nil,Y,U,F,H,Q,env,s,lt,h=>(show AE K F H (.ok []) Q from h) F H [] [] (cj.refl s) .nil #[rfl,rfl]
|.cons a r,Y,U,F,H,Q,env,s,lt,h=>by
 let#[l1,l2]:=band' lt;have h:AE K F H ((pE Γp a Y).bind λx=>(gv Γp r Y).bind λxs=>.ok (x::xs)) Q:=h;refine iJ hΓ a env.l s l1 ?_;cases e1:pE Γp a Y with
 |bad=>rw[e1]at h;exact h.elim
 |ok x=>
  cases e2:gv Γp r Y with
  |bad=>rw[e1]at h;simp only[R.bind,e2]at h;exact h.elim
  |ok xs=>
   rw[e1]at h;simp only[R.bind,e2]at h;intro F1 H1 v f1 g1 fr1 r1;refine wJ hΓ r (env.r.mono g1) g1.s l2 ?_;rw[e2];intro F2 H2 vs f2 g2 fr2 r2;let#[c1,c2]:=carry g2 fr1 r1;refine h F2 H2 (v::vs) (f1++f2) (g1.trans g2) (jt.app g1.h fr1 (λa ha=>?_) c2 fr2) #[v,vs,f1,f2,rfl,rfl,c1,r2];let#[o,e,_]:=bI.ex x v f1 r1 a ha;exact#[o,e]
theorem ruO(hΓ:eY K Γp O)[Ex]:∀(c:CO) {Y:br}{U:L2.St}{F H:Hp}{Q:abM J->Hp->Prop},kK K F H (Jc c) Y U->bh F H->R1 c=W->PB K F H (pO Γp c Y) Q->wO K O Ex.E c U H Q
|.none,Y,U,F,H,Q,env,s,lt,h=>(show PB K F H (.ok S) Q from h) F H (cj.refl s)
|.some a,Y,U,F,H,Q,env,s,lt,h=>by
 refine iJ hΓ a env s lt (PB.z9 (show PB K F H ((pE Γp a Y).bind λx=>match x with|.int i=>.ok (L i)|_=>.bad) Q from h) λx F1 H1 v g1 r1 h1=>?_);cases x with
 |int i=>cases r1;exact h1 F1 H1 (cj.refl g1.s)
 |_=>exact h1.elim
theorem ruC(hΓ:eY K Γp O)[Ex]:∀(c:CO) {Y:br}{U:L2.St}{F H:Hp}{Q:Bool->Hp->Prop},kK K F H (Jc c) Y U->bh F H->R1 c=W->PB K F H (pC Γp c Y) Q->wC K O Ex.E c U H Q
|.none,Y,U,F,H,Q,env,s,lt,h=>(show PB K F H (.ok W) Q from h) F H (cj.refl s)
|.some a,Y,U,F,H,Q,env,s,lt,h=>BL hΓ a env s lt h
theorem ruI(hΓ:eY K Γp O)[Ex]:∀(c:CI) (A:M Addr) {Y:br}{U:L2.St}{F H:Hp}{k:(Hp->Prop)->M Item->Hp->Prop},kK K F H (wB c) Y U->bh F H->rY H A->ltI c=W->PI' K A F H (pI Γp c Y) k->wI K O Ex.E c U H k
|.seq a,A,Y,U,F,H,k,env,s,hA,lt,h=>by
 have h:PI' K A F H ((pE Γp a Y).bind λx=>(vj x).bind λds=>.ok (aU x,ds)) k:=h;refine iJ hΓ a env s lt ?_;cases e1:pE Γp a Y with
 |bad=>rw[e1]at h;exact h.elim
 |ok x=>
 rw[e1]at h;have h:PI' K A F H ((vj x).bind λds=>.ok (aU x,ds)) k:=h;let#[o,e]:=h.isOk;let#[ds,e3,e4]:=cN (show((vj x).bind λds=>R.ok (aU x,ds))=.ok o from e);rw[e]at h;cases e4;intro F1 H1 v fp g fr r;let#[F2,g2,r2]:=PR hA g fr r;exact aeR ((BF _ _ _).trans g2.s) r2 e3 λok its h1 h2 h3=>h F2 H1 ok its g2 h1 h2 h3
|.range as,A,Y,U,F,H,k,env,s,hA,lt,h=>by
 have h:PI' K A F H ((gv Γp as Y).bind λxs=>(EI xs).bind λds=>.ok (W,ds)) k:=h;refine wJ hΓ as env s lt ?_;cases e1:gv Γp as Y with
 |bad=>rw[e1]at h;exact h.elim
 |ok xs=>
 rw[e1]at h;have h:PI' K A F H ((EI xs).bind λds=>.ok (W,ds)) k:=h;let#[o,e]:=h.isOk;let#[ds,e3,e4]:=cN (show((EI xs).bind λds=>R.ok (W,ds))=.ok o from e);rw[e]at h;cases e4;intro F1 H1 vs fp g fr r;let#[F2,g2,_,r2]:=PN g fr r;exact aeS r2 e3 λits h1 h2=>h F2 H1 _ its g2 (λ_ _=>trivial) (h1 _) h2
|.enum a,A,Y,U,F,H,k,env,s,hA,lt,h=>by
 have h:PI' K A F H ((pE Γp a Y).bind λx=>match x with|.lst _ xs=>.ok (aU x,ir 0 (aA xs))|_=>.bad) k:=h;refine iJ hΓ a env s lt ?_;cases e1:pE Γp a Y with
 |bad=>rw[e1]at h;exact h.elim
 |ok x=>
 rw[e1]at h;intro F1 H1 v fp g fr r;let#[F2,g2,r2]:=PR hA g fr r;cases x with
 |lst o xs=>
  have s2:=(BF (aU (.lst o xs)) F2 A).trans g2.s;let#[b,vs,rfl,h2,h3,h4]:=r2;exact#[vs,Rd.same s2 h2,h F2 H1 _ _ g2 (λ_ s'=>Rd.same s' h2) (L5 0 h4) (by rw[Jm,uw,<-h4.len];exact h3)]
 |_=>exact h.elim
|.rev a,A,Y,U,F,H,k,env,s,hA,lt,h=>by
 have h:PI' K A F H ((pE Γp a Y).bind λx=>match x with|.lst _ xs=>.ok (aU x,(aA xs).reverse)|_=>.bad) k:=h;refine iJ hΓ a env s lt ?_;cases e1:pE Γp a Y with
 |bad=>rw[e1]at h;exact h.elim
 |ok x=>
 rw[e1]at h;intro F1 H1 v fp g fr r;let#[F2,g2,r2]:=PR hA g fr r;cases x with
 |lst o xs=>
  have s2:=(BF (aU (.lst o xs)) F2 A).trans g2.s;let#[b,vs,rfl,h2,h3,h4]:=r2;exact#[vs,Rd.same s2 h2,h F2 H1 _ _ g2 (λ_ s'=>Rd.same s' h2) (Ol h4) (by rw[oB,uw,<-h4.len];exact h3)]
 |_=>exact h.elim
|.rrg a,A,Y,U,F,H,k,env,s,hA,lt,h=>by
 have h:PI' K A F H ((pE Γp a Y).bind λx=>L0 x) k:=h;refine iJ hΓ a env s lt ?_;cases e1:pE Γp a Y with
 |bad=>rw[e1]at h;exact h.elim
 |ok x=>
 rw[e1]at h;intro F1 H1 v fp g fr r;let#[F2,g2,r2]:=PR hA g fr r;cases x with
 |int i=>
  cases r2;have h:PI' K A F H (R.bV (decide (0<=i/\i.toNat<=aj)) (.ok (W,(bM i.toNat).map λ(k:Nat)=>D.int (i-1-k)))) k:=h;by_cases c:0<=i/\i.toNat<=aj
  .rw[a_ c]at h;have ei:i=(i.toNat:J):=by omega
   refine#[i.toNat,by rw[<-ei],by have:=c.2;rw[bY]at this;omega,h F2 H1 _ _ g2 (λ_ _=>trivial) ?_ (by simpa using c.2)];unfold Bp;rw[<-ei];exact L8 (λ(k:Nat)=>i-1-k) _
  .rw[bW c]at h;exact h.elim
 |_=>exact h.elim
|.kys _,A,Y,U,F,H,k,env,s,hA,lt,h=>h.elim
end
end
def rJ:Nat->br->br
|_,[]=>[]
|0,o::r=>o.map bq::r
|n+1,o::r=>o::rJ n r
def kg:M Nat->br->br
|[],U=>U
|i::is,U=>kg is (rJ i U)
def jZ(is:M Nat)(o:Bool)(U:br):br:=match o with
|true=>U
|false=>kg is U
noncomputable def P0:CE->abM Nat
|.var i=>L i
|_=>S
def mR(O:M PG):iV->br->R (M D)
|.nil=>λ_=>.ok []
|.cons a r=>λU=>match P0 a with
 |some i=>match U[i]? with
  |some (L d)=>(mR O r (U.set i S)).bind λds=>.ok (d::ds)
  |_=>.bad
 |none=>(pE O a U).bind λd=>.bV (aU d) ((mR O r U).bind λds=>.ok (d::ds))
noncomputable def R.alt{α β:Type}(x:R α)(f:α->R β)(y:R β):R β:=match x with
|.ok a=>f a
|_=>y
def pM(O:M PG)(e:CE)(U:br):R D:=match e with
|.var i=>match U[i]? with
 |some (L d)=>.ok d
 |_=>.bad
|.tup as=>(mR O as U).alt (λds=>.bV (decide (zl ds<=aj)) (.ok (.tup ds))) (pE O (.tup as) U)
|e=>pE O e U
noncomputable def wK:abM (abM D)->Bool
|some (L (.lst W _))=>W
|_=>B
noncomputable def P_(U:br):CE->abM J
|.con (.int n)=>L n
|_=>S
def Ma(U:br):CE->abM (Nat×M J)
|.var k=>L (k,[])
|.ix o i=>(Ma U o).bind λp=>(P_ U i).map λn=>(p.1,p.2++[n])
|_=>S
def mG:M J->D->D->abM D
|[],x,d=>match x with
 |.lst W xs=>if zl xs<aj then L (.lst W (xs++[d]))else S
 |_=>S
|i::r,x,d=>match x with
 |.tup xs=>(iU (zl xs) i).bind λn=>(xs[n]?).bind λy=>(mG r y d).map λy'=>.tup (xs.set n y')
 |_=>S
def xS:M J->D->abM D
|[],x=>L x
|i::r,x=>match x with
 |.tup xs=>(iU (zl xs) i).bind λn=>(xs[n]?).bind λy=>xS r y
 |_=>S
def Mb(O:M PG)(o a:CE)(U:br):Fl:=match Ma U o with
|some p=>(pE O a U).kc B λd=>match U[p.1]? with
 |some (L x)=>if aU d=W then(R.opt (mG p.2 x d)).bA λx'=>.nx (U.set p.1 (L x'))else .bad
 |_=>.bad
|none=>.bad
def HP(k:Nat)(is:M Nat)(d:D)(U:br):Fl:=match d with
|.lst W ys=>match U[k]? with
 |some (L (.lst W xs))=>if(decide (zl xs+zl ys<=aj)&&(aU d||!is.contains k))=W then .nx ((jZ is (aU d) U).set k (L (.lst W (xs++ys))))else .bad
 |_=>.bad
|_=>.bad
def pX(O:M PG)(e:CE)(U:br):Fl:=match e with
|.mth m (.var k) as=>match m with
 |.append=>match as with
  |.cons a .nil=>(pE O a U).kc (wK U[k]?) λd=>match U[k]? with
   |some (L (.lst W xs))=>if(decide (zl xs<aj)&&(aU d||!(cK a).contains k))=W then .nx ((jZ (cK a) (aU d) U).set k (L (.lst W (xs++[d]))))else .bad
   |_=>.bad
  |_=>.bad
 |.extend=>match as with
  |.cons a .nil=>(pE O a U).kc (wK U[k]?) λd=>HP k (cK a) d U
  |_=>.bad
 |.insert=>match as with
  |.cons i (.cons a .nil)=>(pE O i U).kc B λj=>(pE O a U).kc B λd=>match j with
   |.int j=>match U[k]? with
    |some (L (.lst W xs))=>if(decide (0<=j/\j<2 ^ 40/\zl xs<aj)&&aU d)=W then .nx (U.set k (L (.lst W (xs.take j.toNat++d::xs.drop j.toNat))))else .bad
    |_=>.bad
   |_=>.bad
  |_=>.bad
 |_=>(pE O e U).bA λ_=>.nx U
|.mth m (.ix o i) as=>match m with
 |.append=>match as with
  |.cons a .nil=>Mb O (.ix o i) a U
  |_=>.bad
 |_=>(pE O e U).bA λ_=>.nx U
|e=>(pE O e U).bA λ_=>.nx U
mutual
noncomputable def nC:D->Bool
|.lst _ _=>B
|.cW _ _ _=>B
|.bS _ _ _=>B
|.obj _ _ _ _=>B
|.tup xs=>jF xs
|_=>W
noncomputable def jF:M D->Bool
|[]=>W
|d::r=>nC d&&jF r
end
def putL(xs:M D)(d j:D):abM D:=match j with
|.int j=>(iU (zl xs) j).map λn=>.lst W (xs.set n d)
|_=>S
def VI(ks:M Key)(xs:M D)(d j:D):abM D:=match mQ j with
|some q=>if zl ks<aj then(if jE ks q=W then(if nC d=W then L (.cW W ks (jy ks xs q d))else S)else L (.cW W (ks++[q]) (xs++[d])))else S
|none=>S
def Mc(ks:M (M Key))(xs:M D)(d j:D):abM D:=match iP j with
|some q=>if zl ks<aj then(if jE ks q=W then(if nC d=W then L (.bS W ks (jy ks xs q d))else S)else L (.bS W (ks++[q]) (xs++[d])))else S
|none=>S
def putIn(x d j:D):abM D:=match x with
|.lst W xs=>putL xs d j
|.cW W ks xs=>VI ks xs d j
|.bS W ks xs=>Mc ks xs d j
|_=>S
def pA(O:M PG)(g:CG)(e:CE)(U:br):Fl:=match g with
|.name i=>(pE O e U).bA λd=>.nx ((jZ (cK e) (aU d) U).set i (L d))
|.tup gs=>(pE O e U).bA λd=>(pG (.tup gs) d (jZ (cK e) (aU d) U)).bA .nx
|.sub o i=>match o with
 |.var k=>(pE O e U).bA λd=>(pE O i (jZ (cK e) (aU d) U)).kc B λj=>match U[k]? with
  |some (L x)=>if(aU d||!(cK e).contains k)=W then(R.opt (putIn x d j)).bA λx'=>.nx ((jZ (cK e) (aU d) U).set k (L x'))else .bad
  |_=>.bad
 |_=>.bad
noncomputable def Lf(i:Nat)(a:J)(U:br):D->Fl
|.int b=>.nx (U.set i (L (.int (a+b))))
|_=>.bad
def HQ(k:Nat)(n:J)(U:br)(x y:abM (abM D)):Fl:=match x,y with
|some (L (.lst W xs)),L (L (.int i))=>match iU (zl xs) i with
 |some p=>match xs[p]? with
  |some (.int m)=>.nx (U.set k (L (.lst W (xs.set p (.int (m+n))))))
  |_=>.bad
 |none=>.bad
|_,_=>.bad
noncomputable def C5(o:abM PG)(k:Nat)(f:Str)(U:br)(d:D):Fl:=match o,U[k]? with
|some (.jO C as),L (L (.obj W C' ks xs))=>if f∈as/\C'=C/\f∉ks/\zl ks<1000 then .nx (U.set k (L (.obj W C (ks++[f]) (xs++[d]))))else .bad
|_,_=>.bad
noncomputable def nR:iV->abM (iV×CE)
|.nil=>S
|.cons a r=>match nR r with
 |some p=>L (.cons a p.1,p.2)
 |none=>L (.nil,a)
def EK(O:M PG)(m:M D->R D)(i:Nat)(as:iV)(U:br):Fl:=match nR as with
|some (bs,.var k)=>match U[k]? with
 |some (L (.lst W es))=>match jF es with
  |true=>(gv O bs (U.set k S)).n_.bA λds=>(m (aA ds++[.lst W es])).kc B λd=>.nx ((kg (gX bs) (U.set k S)).set i (L d))
  |false=>.bad
 |_=>.bad
|_=>.bad
def Me(m:M D->R D)(ds:M D):D->Fl
|.lst W es=>match jF es with
 |true=>(m (aA ds++[.lst W es])).kc B .rt
 |false=>.bad
|_=>.bad
def EL(O:M PG)(m:M D->R D)(as:iV)(U:br):Fl:=match nR as with
|some (bs,e)=>(gv O bs U).n_.bA λds=>(pE O e (kg (gX bs) U)).kc B (Me m ds)
|none=>.bad
noncomputable def Mf(i j:Nat)(U:br):abM (abM D)->Fl
|some (L d)=>.nx ((U.set j S).set i (L d))
|_=>.bad
def HR(i:Nat)(nl:M Str)(U:br):abM (abM D)->abM (abM D)->Fl
|some (L (.int n)),L (L (.bS _ ks _))=>if(decide (zl nl=3)&&ks.all λk=>decide (zl k=3))=W then .nx (U.set i (L (.lst W (HH n ks))))else .bad
|_,_=>.bad
mutual
noncomputable def pS(O:M PG)(n:Nat):CS->br->Fl
|.expr e=>λU=>pX O e U
|.asg g e=>λU=>pA O g e U
|.aug i e=>λU=>match U[i]? with
 |some (L (.int a))=>(pE O e U).bA λd=>Lf i a U d
 |_=>.bad
|.casg i e=>λU=>(pE O e U).bA λd=>.nx ((jZ (cK e) (aU d) U).set i (L d))
|.acl i g as=>λU=>match O[g]? with
 |some (.fm m)=>EK O m i as U
 |_=>.bad
|.agi k j n=>λU=>HQ k n U U[k]? U[j]?
|.dfs i nl j k=>λU=>HR i nl U U[j]? U[k]?
|.sfld g k f e=>λU=>(pE O e U).bA λd=>C5 O[g]? k f (jZ (cK e) (aU d) U) d
|.tasg g e=>λU=>pA O g e U
|.ret e=>λU=>(pM O e U).bA .rt
|.rcl g as=>λU=>match O[g]? with
 |some (.fm m)=>EL O m as U
 |_=>.bad
|.rite c a b=>λU=>(pT O c U).bA λk=>if k=W then(pM O a U).bA .rt else(pM O b U).bA .rt
|.mov i j=>λU=>Mf i j U U[j]?
|.ifs c a b=>λU=>(pT O c U).bA λk=>if k=W then b9 O n a U else b9 O n b U
|.whil c b=>λU=>vn (pT O c) (b9 O n b) n U
|.forr g src b=>λU=>(pI O src U).bA λitems=>forR (pG g) (b9 O n b) items.2 (jZ (wB src) items.1 U)
|.brk=>λU=>.bk U
|.cont=>λU=>.ct U
|.never=>λ_=>.bad
noncomputable def b9(O:M PG)(n:Nat):cF->br->Fl
|.nil=>λU=>.nx U
|.cons s r=>λU=>match pS O n s U with
 |.nx σ'=>b9 O n r σ'
 |x=>x
end
noncomputable def jG(N:M Str)(ds:M D):br:=ds.map L++aR (zl N-zl ds) S
noncomputable def yy:Fl->R D
|.nx _=>.ok .non
|.rt d=>.ok d
|_=>.bad
def BO(O:M PG)(n:Nat)(N:M Str)(c:cF)(ds:M D):R D:=yy (b9 O n c (jG N ds))
mutual
noncomputable def ltS:CS->Bool
|.expr e=>dW e
|.asg g e=>ltG g&&dW e
|.aug _ e=>dW e
|.casg _ e=>dW e
|.acl _ _ as=>l6 as
|.sfld _ _ _ e=>dW e
|.tasg g e=>ltG g&&dW e
|.ret e=>dW e
|.rite c a b=>dW c&&(dW a&&dW b)
|.rcl _ as=>l6 as
|.ifs c a b=>dW c&&(oh a&&oh b)
|.whil c b=>dW c&&oh b
|.forr _ src b=>ltI src&&oh b
|_=>W
noncomputable def oh:cF->Bool
|.nil=>W
|.cons s r=>ltS s&&oh r
noncomputable def ltG:CG->Bool
|.sub o i=>dW o&&dW i
|_=>W
end
structure bH (K:ak) (F0 H0:Hp) (Y:br) (U:L2.St) (F H:Hp) (fp:Nat->M Addr):Prop where
 g:cj F0 H0 F H
 len:zl Y=zl U
 rep:∀(i:Nat) d,Y[i]?=L (L d)->∃v,U[i]?=L (L v)/\bI K H F d v (fp i)
 ex:∀i,rY H (fp i)
 nd:∀i,(fp i).Nodup
 nf:∀i a,a∈fp i->F a=S
 nh:∀i a,a∈fp i->H0 a=S
 dis:∀i j a,a∈fp i->a∈fp j->i=j
structure kh (K:ak) (H0 F H:Hp) (fp:Nat->M Addr) (d:D) (v:V) (f:M Addr):Prop where
 r:bI K H F d v f
 nd:f.Nodup
 nf:∀a∈f,F a=S
 nh:∀a∈f,H0 a=S
 dis:∀i a,a∈f->a∉fp i
section
variable{K:ak}{F0 H0 F H:Hp}{Y:br}{U:L2.St}{fp:Nat->M Addr}
theorem EM:∀(n:Nat) (U:br) (i:Nat),(rJ n U)[i]?=if i=n then(U[i]?).map (Q4 bq)else U[i]?
|n,[],i=>by cases n<;>simp[rJ]
|0,o::r,0=>by simp[rJ]
|0,o::r,i+1=>by simp[rJ]
|n+1,o::r,0=>by simp[rJ]
|n+1,o::r,i+1=>by
 simp only[rJ,xG,EM n r i];by_cases h:i=n
 .simp[h]
 .simp[h]
theorem Mg:∀(n:Nat) (U:br),zl (rJ n U)=zl U
|n,[]=>by cases n<;>rfl
|0,o::r=>rfl
|n+1,o::r=>by simp[rJ,Mg n r]
theorem Jw:∀(is:M Nat) (U:br),zl (kg is U)=zl U
|[],U=>rfl
|i::is,U=>by rw[kg,Jw is,Mg]
noncomputable def ownAt(fp:Nat->M Addr)(is:M Nat):M Addr:=is.flatMap fp
def iK:a∈ownAt fp is↔∃i∈is,a∈fp i:=by simp[ownAt,List.mem_flatMap]
def bH.lists(I:bH K F0 H0 Y U F H fp)(is:M Nat):rY H (ownAt fp is):=λa ha=>by
 let#[i,_,h]:=iK.mp ha;exact I.ex i a h
def bH.env(I:bH K F0 H0 Y U F H fp)(is:M Nat):kK K (adopt F H (ownAt fp is)) H is Y U:=#[λi hi d e=>by
 let#[v,h1,h2]:=I.rep i d e;exact#[v,h1,bI.fix (fM I.g.s) d v _ (λa ha=>nB (iK.mpr #[i,hi,ha])) h2],λk d e=>by
 let#[v,h1,h2]:=I.rep k d e;exact#[v,adopt F H (ownAt fp [k]),h1,iH I.g.s,bI.fix (fM I.g.s) d v _ (λa ha=>nB (iK.mpr #[k,aQ.mpr rfl,ha])) h2]]
def bH.Yy(I:bH K F0 H0 Y U F H fp)(g:cj (adopt F H (ownAt fp is)) H F' H')(ha:a∈fp i)(hn:a∉ownAt fp is):F' a=S:=by
 let#[o,e,k]:=I.ex i a ha;cases q:F' a with
 |none=>rfl
 |some u=>exact((g.n a u q (by rw[ku hn];exact I.nf i a ha)).own e k).elim
def bH.Yz(I:bH K F0 H0 Y U F H fp)(g:cj (adopt F H (ownAt fp is)) H F' H'):cj F0 H0 F' H':=by
 refine#[I.g.h.trans g.h,(I.g.f.trans (fM I.g.s)).trans g.f,g.s,λb o h h'=>?_];cases q:adopt F H (ownAt fp is) b with
 |none=>exact NT.back I.g.h (g.n b o h q)
 |some u=>
  by_cases z:b∈ownAt fp is
  .obtain⟨i,_,hb⟩:=iK.mp z;exact .of (I.nh i b hb)
  .rw[ku z]at q;exact I.g.n b u q h'
def bH.back(I:bH K F0 H0 Y U F H fp)(g:cj (adopt F H (ownAt fp is)) H F' H'):bH K F0 H0 Y U (minus F' (ownAt fp is)) H' fp where
 g:=by
  have g0:=I.Yz g;refine#[g0.h,λb o h=>?_,(m_ _ _).trans g0.s,λb o h h'=>g0.n b o (m_ _ _ b o h) h'];have hn:b∉ownAt fp is:=λz=>by
   let#[i,_,hb]:=iK.mp z;have:=I.nf i b hb;rw[I.g.f b o h]at this;cases this
  rw[ji hn];exact g0.f b o h
 len:=I.len
 rep:=λi d e=>by
  let#[v,h1,h2]:=I.rep i d e;refine#[v,h1,bI.mono ?_ d v _ (λa ha=>?_) h2]
  .intro b o h;have hn:b∉ownAt fp is:=λz=>by
    let#[i,_,hb]:=iK.mp z;have:=I.nf i b hb;rw[h]at this;cases this
   rw[ji hn];exact g.f b o (fM I.g.s b o h)
  .obtain⟨o,e,_⟩:=I.ex i a ha;rw[e,g.h a o e]
 ex:=λi=>(I.ex i).mono g.h
 nd:=I.nd
 nf:=λi a ha=>by
  by_cases hn:a∈ownAt fp is
  .exact EJ hn
  .rw[ji hn];exact I.Yy g ha hn
 nh:=I.nh
 dis:=I.dis
def Sg:∀(is:M Nat) (U:br) (i:Nat),(kg is U)[i]?=L (L d)->∃d',U[i]?=L (L d')/\((i∈is/\d=bq d')\/(i∉is/\d=d')):=by
 have ff:=C4;intro is;induction is with
 |nil=>intro U i h;exact#[d,h,.inr #[aD,rfl]]
 |cons j is ih=>
  intro U i h;let#[d1,e1,e2]:=ih (rJ j U) i h;rw[EM]at e1;by_cases hj:i=j
  .rw[aF hj]at e1;cases q:U[i]? with
   |none=>rw[q]at e1;cases e1
   |some o=>
    cases o with
    |none=>rw[q]at e1;cases e1
    |some d'=>
     rw[q]at e1;cases e1;refine#[d',rfl,.inl #[by rw[hj];exact aB,?_]];rcases e2 with⟨_,rfl⟩|⟨_,rfl⟩
     .exact ff d'
     .rfl
  .rw[aG hj]at e1;refine#[d1,e1,?_];rcases e2 with⟨h1,h2⟩|⟨h1,h2⟩
   .exact .inl #[ao _ h1,h2]
   .exact .inr #[λz=>by rcases be.mp z with z|z;exact hj z;exact h1 z,h2]
def bH.iR(I:bH K F0 H0 Y U F H fp)(g:cj (adopt F H (ownAt fp is)) H F' H'):bH K F0 H0 (kg is Y) U F' H' (λi=>if i∈is then[]else fp i) where
 g:=I.Yz g
 len:=by rw[Jw];exact I.len
 rep:=λi d e=>by
  let#[d',e1,e2]:=Sg is Y i e;rcases e2 with⟨h1,rfl⟩|⟨h1,rfl⟩
  .obtain⟨v,q1,q2⟩:=(I.env is).e i h1 d' e1;exact#[v,q1,by rw[aF h1];exact bx.wA d' v (bx.mono g.f d' v q2)]
  .obtain⟨v,q1,q2⟩:=I.rep i d e1;refine#[v,q1,?_];rw[aG h1];refine bI.mono ((fM I.g.s).trans g.f) d v _ (λa ha=>?_) q2;let#[o,e,_]:=I.ex i a ha;rw[e,g.h a o e]
 ex:=λi=>by
  by_cases h:i∈is
  .rw[aF h];exact λa ha=>aH ha aD
  .rw[aG h];exact(I.ex i).mono g.h
 nd:=λi=>by
  by_cases h:i∈is
  .rw[aF h];exact gA
  .rw[aG h];exact I.nd i
 nf:=λi a ha=>by
  by_cases h:i∈is
  .rw[aF h]at ha;exact aH ha aD
  .rw[aG h]at ha;refine I.Yy g ha λz=>?_;let#[j,hj,hb]:=iK.mp z;have:=I.dis i j a ha hb;subst this;exact h hj
 nh:=λi a ha=>by
  by_cases h:i∈is
  .rw[aF h]at ha;exact aH ha aD
  .rw[aG h]at ha;exact I.nh i a ha
 dis:=λi j a ha hb=>by
  by_cases h:i∈is
  .rw[aF h]at ha;exact aH ha aD
  .by_cases h':j∈is
   .rw[aF h']at hb;exact aH hb aD
   .rw[aG h]at ha;rw[aG h']at hb;exact I.dis i j a ha hb
def bH.told(I:bH K F0 H0 Y U F H fp)(g:cj (adopt F H (ownAt fp is)) H F' H')(fr:jt f H F')(r:bI K H' F' d v f):∃F1 fp1,bH K F0 H0 (jZ is (aU d) Y) U F1 H' fp1/\kh K H0 F1 H' fp1 d v f/\(aU d=W->fp1=fp)/\∀i,i∉is->fp1 i=fp i:=by
 have nn:∀i a,a∈f->a∉fp i:=λi a ha hb=>by
  let#[o,e,_]:=I.ex i a hb;rw[fr.nh a ha]at e;cases e
 cases ho:aU d with
 |true=>
  refine#[_,fp,I.back g,#[bI.less (pQ g.s ((I.lists is).mono g.h)) d v f ho r,fr.nd,λa ha=>?_,λa ha=>bh.none I.g.h (fr.nh a ha),nn],λ_=>rfl,λ_ _=>rfl];exact bh.none (m_ _ _) (fr.nf a ha)
 |false=>
  refine#[_,_,I.iR g,#[r,fr.nd,fr.nf,λa ha=>bh.none I.g.h (fr.nh a ha),λi a ha hb=>?_],(λz=>nomatch z),λi hi=>aG hi];by_cases h:i∈is
  .rw[aF h]at hb;exact aH hb aD
  .rw[aG h]at hb;exact nn i a ha hb
def bH.set{v:V}(I:bH K F0 H0 Y U F H fp)(V:kh K H0 F H fp d v f)(k:Nat):bH K F0 H0 (Y.set k (L d)) (U.set k (L v)) F H (λi=>if i=k then f else fp i) where
 g:=I.g
 len:=by simp[I.len]
 rep:=λi d' e=>by
  by_cases h:i=k
  .subst h;rw[aF rfl];rw[j_]at e;by_cases hi:i<zl Y
   .simp[hi]at e;subst e;exact#[v,by rw[j_];simp[<-I.len,hi],V.r]
   .simp[hi]at e
  .rw[aG h];rw[fQ (gf h)]at e;let#[w,h1,h2]:=I.rep i d' e;exact#[w,by rw[fQ (gf h)];exact h1,h2]
 ex:=λi=>by
  by_cases h:i=k
  .rw[aF h];exact bI.ex d v f V.r
  .rw[aG h];exact I.ex i
 nd:=λi=>by
  by_cases h:i=k
  .rw[aF h];exact V.nd
  .rw[aG h];exact I.nd i
 nf:=λi a ha=>by
  by_cases h:i=k
  .rw[aF h]at ha;exact V.nf a ha
  .rw[aG h]at ha;exact I.nf i a ha
 nh:=λi a ha=>by
  by_cases h:i=k
  .rw[aF h]at ha;exact V.nh a ha
  .rw[aG h]at ha;exact I.nh i a ha
 dis:=λi j a ha hb=>by
  by_cases h:i=k
  .rw[aF h]at ha;by_cases h':j=k
   .rw[h,h']
   .rw[aG h']at hb;exact aH hb (V.dis j a ha)
  .rw[aG h]at ha;by_cases h':j=k
   .rw[aF h']at hb;exact aH ha (V.dis i a hb)
   .rw[aG h']at hb;exact I.dis i j a ha hb
def bH.put(I:bH K F0 H0 Y U F H fp)(ha:a∈fp k)(hv:U[k]?=L (L v))(hr:bI K (upd H a o) F d v f)(nd:f.Nodup)(nf:∀b∈f,F b=S)(nh:∀b∈f,H0 b=S)(dis:∀i,i≠k->∀b∈f,b∉fp i):bH K F0 H0 (Y.set k (L d)) U F (upd H a o) (λi=>if i=k then f else fp i):=by
 have hF:=I.nf k a ha;have hH0:=I.nh k a ha;have hne:∀i,i≠k->∀b∈fp i,b≠a:=λi hi b hb z=>by
  subst z;exact hi (I.dis i k b hb ha)
 refine#[#[λb u q=>by rw[aY (bZ q hH0)];exact I.g.h b u q,I.g.f,λb u q=>by rw[aY (bZ q hF)];exact I.g.s b u q,I.g.n],by simp[I.len],λi d' e=>?_,λi=>?_,λi=>?_,λi b hb=>?_,λi b hb=>?_,λi j b hb hc=>?_]
 .by_cases h:i=k
  .subst h;rw[aF rfl];rw[j_]at e;by_cases hi:i<zl Y
   .simp[hi]at e;subst e;exact#[v,hv,hr]
   .simp[hi]at e
  .rw[aG h];rw[fQ (gf h)]at e;let#[w,h1,h2]:=I.rep i d' e;exact#[w,h1,bI.mono (bh.refl _) d' w _ (λb hb=>aY (hne i h b hb)) h2]
 .by_cases h:i=k
  .rw[aF h];exact bI.ex d v f hr
  .rw[aG h];intro b hb;let#[u,e,q]:=I.ex i b hb;exact#[u,by rw[aY (hne i h b hb)];exact e,q]
 .by_cases h:i=k
  .rw[aF h];exact nd
  .rw[aG h];exact I.nd i
 .by_cases h:i=k
  .rw[aF h]at hb;exact nf b hb
  .rw[aG h]at hb;exact I.nf i b hb
 .by_cases h:i=k
  .rw[aF h]at hb;exact nh b hb
  .rw[aG h]at hb;exact I.nh i b hb
 .by_cases h:i=k
  .rw[aF h]at hb;by_cases h':j=k
   .rw[h,h']
   .rw[aG h']at hc;exact aH hc (dis j h' b hb)
  .rw[aG h]at hb;by_cases h':j=k
   .rw[aF h']at hc;exact aH hb (dis i h b hc)
   .rw[aG h']at hc;exact I.dis i j b hb hc
def bH.rebase(I:bH K F0 H0 Y U F H fp):bH K F H0 Y U F H fp:=#[#[I.g.h,bh.refl _,I.g.s,λb o h h'=>by rw[h]at h';cases h'],I.len,I.rep,I.ex,I.nd,I.nf,I.nh,I.dis]
def bH.F6(g0:cj F0 H0 F1 H1)(I:bH K F1 H0 Y U F H fp):bH K F0 H0 Y U F H fp:=#[#[I.g.h,g0.f.trans I.g.f,I.g.s,λb o h h'=>by
 cases q:F1 b with
 |none=>exact I.g.n b o h q
 |some u=>exact g0.n b u q h'],I.len,I.rep,I.ex,I.nd,I.nf,I.nh,I.dis]
end
def cY[Ex](K:ak)(F0 H0:Hp)(fl:Fl)(X:Ends):Prop:=match fl with
|.nx Y=>∀U F H fp,bH K F0 H0 Y U F H fp->X.nx U H
|.bk Y=>∀U F H fp,bH K F0 H0 Y U F H fp->X.bk U H
|.ct Y=>∀U F H fp,bH K F0 H0 Y U F H fp->X.ct U H
|.rt d=>∀v F H f,cj F0 H0 F H->jt f H0 F->bI K H F d v f->X.rt v H
|.bad=>bu
section
variable{K:ak}{Γp:M PG}{O:M G}{F0 H0 F H:Hp}{Y:br}{U:L2.St}{fp:Nat->M Addr}{X:Ends}
def Z2(g0:cj F0 H0 F1 H1)(g:cj F1 H0 F H):cj F0 H0 F H:=#[g.h,g0.f.trans g.f,g.s,λb o h h'=>by
 cases q:F1 b with
 |none=>exact g.n b o h q
 |some u=>exact g0.n b u q h']
def cY.rebase[Ex](g0:cj F0 H0 F1 H1)(h:cY K F0 H0 fl X):cY K F1 H0 fl X:=by
 cases fl with
 |nx Y=>exact λU F H fp I=>h U F H fp (I.F6 g0)
 |bk Y=>exact λU F H fp I=>h U F H fp (I.F6 g0)
 |ct Y=>exact λU F H fp I=>h U F H fp (I.F6 g0)
 |rt d=>exact λv F H f g fr r=>h v F H f (Z2 g0 g) fr r
 |bad=>exact h
def BP[Ex]{α:Type}{r:R α}{f:α->Fl}(h:cY K F0 H0 (r.bA f) X):∃a,r=.ok a/\cY K F0 H0 (f a) X:=by
 cases r with
 |ok a=>exact#[a,rfl,h]
 |bad=>exact h.elim
def nS[Ex]{α:Type}{r:R α}{f:α->Fl}(h:cY K F0 H0 (r.bA f) X):∃a,r=.ok a/\cY K F0 H0 (f a) X:=by
 cases r with
 |ok a=>exact#[a,rfl,h]
 |bad=>exact h.elim
def v7[Ex]{α:Type}{b:Bool}{r:R α}{f:α->Fl}(h:cY K F0 H0 (r.kc b f) X):∃a,r=.ok a/\cY K F0 H0 (f a) X:=by
 cases r with
 |ok a=>exact#[a,rfl,h]
 |bad=>exact h.elim
theorem Sh(F H:Hp):adopt F H []=F:=by rfl
def bH.grow(I:bH K F0 H0 Y U F H fp)(g:cj F H F1 H1):bH K F0 H0 Y U F1 H1 fp:=by
 have e:ownAt fp []=[]:=rfl;have q:=I.back (by rw[e,Sh];exact g);rw[e,Je]at q;exact q
def kh.VJ(r:bx K F d v):kh K H0 F H fp (bq d) v []:=#[bx.wA d v r,gA,λ_ h=>aH h aD,λ_ h=>aH h aD,λ_ _ h=>aH h aD]
mutual
theorem ruG':∀(g:CG) {d:D}{v:V}{Y ahs:br}{U:L2.St}{fp:Nat->M Addr}{Q:L2.St->Hp->Prop},bH K F0 H0 Y U F H fp->bx K F d v->pG g (bq d) Y=.ok ahs->(∀σ' fp',bH K F0 H0 ahs σ' F H fp'->Q σ' H)->wG K O E g v U H Q
|.name i,d,v,Y,ahs,U,fp,Q,I,r,e,h=>by
 cases e;exact h _ _ (I.set (kh.VJ r) i)
|.tup gs,d,v,Y,ahs,U,fp,Q,I,r,e,h=>by
 cases d with
 |tup ds=>
  let#[b,vs,rfl,h2,h3,h4]:=r;let#[c,e]:=nQ (show R.bV (decide (zl (aA ds)=gs.len)) (BE gs (aA ds) Y)=.ok ahs from e);have c:=aE c;rw[uw]at c;exact#[W,vs,(tupS h2).same' I.g.s,rfl,by rw[h4.len];exact c,ruGs' gs I h4 e h]
 |_=>cases e
|.sub _ _,d,v,Y,ahs,U,fp,Q,I,r,e,h=>by cases e
theorem ruGs':∀(g:xO) {ds:M D}{vs:M V}{Y ahs:br}{U:L2.St}{fp:Nat->M Addr}{Q:L2.St->Hp->Prop},bH K F0 H0 Y U F H fp->aM K F ds vs->BE g (aA ds) Y=.ok ahs->(∀σ' fp',bH K F0 H0 ahs σ' F H fp'->Q σ' H)->N7 K O E g vs U H Q
|.nil,ds,vs,Y,ahs,U,fp,Q,I,r,e,h=>by
 cases ds with
 |nil=>cases r;cases e;exact h U fp I
 |cons d dr=>cases e
|.cons g gr,ds,vs,Y,ahs,U,fp,Q,I,r,e,h=>by
 cases ds with
 |nil=>cases e
 |cons d dr=>
  let#[v,vr,rfl,r1,r2]:=r;let#[σ2,e1,e2]:=cN (show((pG g (bq d) Y).bind fun σ'=>BE gr (aA dr) σ')=.ok ahs from e);exact ruG' g I r1 e1 fun σ' fp' I'=>ruGs' gr I' r2 e2 h
end
mutual
theorem ac4:∀(g:CG) {d:D}{v:V}{Y ahs:br}{U:L2.St}{fp:Nat->M Addr}{f:M Addr}{Q:L2.St->Hp->Prop},bH K F0 H0 Y U F H fp->kh K H0 F H fp d v f->pG g d Y=.ok ahs->
 (∀σ' fp',bH K F0 H0 ahs σ' F H fp'->(∀i a,a∈fp' i->a∈f\/a∈fp i)->Q σ' H)->wG K O E g v U H Q
|.name i,d,v,Y,ahs,U,fp,f,Q,I,V,e,h=>by
 cases e;refine h _ _ (I.set V i) λj a ha=>?_;by_cases c:j=i
 .rw[aF c]at ha;exact .inl ha
 .rw[aG c]at ha;exact .inr ha
|.tup gs,d,v,Y,ahs,U,fp,f,Q,I,V,e,h=>by
 cases d with
 |tup ds=>
  let#[b,vs,rfl,h2,h3,h4]:=V.r;let#[c,e]:=nQ e;exact#[W,vs,(tupS h2).same' I.g.s,rfl,by rw[h4.len];exact aE c,YA gs I h4 V.nd V.nf V.nh V.dis e h]
 |_=>cases e
|.sub _ _,d,v,Y,ahs,U,fp,f,Q,I,V,e,h=>by cases e
theorem YA:∀(g:xO) {ds:M D}{vs:M V}{Y ahs:br}{U:L2.St}{fp:Nat->M Addr}{f:M Addr}{Q:L2.St->Hp->Prop},bH K F0 H0 Y U F H fp->aN K H F ds vs f->f.Nodup->(∀a∈f,F a=S)->(∀a∈f,H0 a=S)->
 (∀i a,a∈f->a∉fp i)->BE g ds Y=.ok ahs->(∀σ' fp',bH K F0 H0 ahs σ' F H fp'->(∀i a,a∈fp' i->a∈f\/a∈fp i)->Q σ' H)->N7 K O E g vs U H Q
|.nil,ds,vs,Y,ahs,U,fp,f,Q,I,r,nd,nf,nh,dis,e,h=>by
 cases ds with
 |nil=>
  let#[rfl,_]:=r;cases e;exact h U fp I λ_ _ z=>.inr z
 |cons d dr=>cases e
|.cons g gr,ds,vs,Y,ahs,U,fp,f,Q,I,r,nd,nf,nh,dis,e,h=>by
 cases ds with
 |nil=>cases e
 |cons d dr=>
  let#[v,vr,f1,f2,rfl,rfl,r1,r2]:=r;let#[σ2,e1,e2]:=cN e;let#[n1,n2,n3]:=cT.mp nd;refine ac4 g I #[r1,n1,λa ha=>nf a (bC _ ha),λa ha=>nh a (bC _ ha),λi a ha=>dis i a (bC _ ha)] e1 fun σ' fp' I' sub=>?_;refine YA gr I' r2 n2 (λa ha=>nf a (aJ _ ha)) (λa ha=>nh a (aJ _ ha)) (λi a ha z=>?_) e2 fun σ3 fp3 I3 sub3=>h σ3 fp3 I3 λi a ha=>?_
  .rcases sub i a z with q|q
   .exact n3 a q a ha rfl
   .exact dis i a (aJ _ ha) q
  .rcases sub3 i a ha with q|q
   .exact .inl (aJ _ q)
   .rcases sub i a q with q|q
    .exact .inl (bC _ q)
    .exact .inr q
end
def z_[Ex](hΓ:eY K Γp O)(I:bH K F0 H0 Y U F H fp)(lt:dW e=W)(he:pE Γp e Y=.ok d)(h:∀v F1 H1 fp1 f,bH K F0 H0 (jZ (cK e) (aU d) Y) U F1 H1 fp1->kh K H0 F1 H1 fp1 d v f->Q v H1):wE K O Ex.E e U H Q:=by
 refine iJ hΓ e (I.env (cK e)) (iH I.g.s) lt ?_;rw[he];intro F' H' v f g fr r;let#[F1,fp1,I1,V1,_,_]:=I.told g fr r;exact h v F1 H' fp1 f I1 V1
def runD'[Ex](hΓ:eY K Γp O)(I:bH K F0 H0 Y U F H fp)(lt:dW e=W)(he:pE Γp e Y=.ok d)(h:∀v F1 H1,bH K F0 H0 Y U F1 H1 fp->bh H H1->(aU d=W->∃f,kh K H0 F1 H1 fp d v f)->Q v H1):wE K O Ex.E e U H Q:=by
 refine iJ hΓ e (I.env (cK e)) (iH I.g.s) lt ?_;rw[he];intro F' H' v f g fr r;refine h v _ H' (I.back g) g.h λho=>?_;refine#[f,bI.less (pQ g.s ((I.lists _).mono g.h)) d v f ho r,fr.nd,λa ha=>bh.none (m_ _ _) (fr.nf a ha),λa ha=>bh.none I.g.h (fr.nh a ha),λi a ha hb=>?_];let#[o,e,_]:=I.ex i a hb;rw[fr.nh a ha]at e;cases e
def kh.back(I:bH K F0 H0 Y U F H fp){v:V}(V:kh K H0 F H fp d v f)(g:cj (adopt F H (ownAt fp is)) H F' H'):kh K H0 (minus F' (ownAt fp is)) H' fp d v f:=by
 have hn:∀a∈f,a∉ownAt fp is:=λa ha z=>by
  let#[i,_,hb]:=iK.mp z;exact V.dis i a ha hb
 have hx:=bI.ex d v f V.r;refine#[bI.mono ?_ d v f (λa ha=>?_) V.r,V.nd,λa ha=>?_,V.nh,V.dis]
 .intro b o h;have hb:b∉ownAt fp is:=λz=>by
   let#[i,_,hb]:=iK.mp z;have:=I.nf i b hb;rw[h]at this;cases this
  rw[ji hb];exact g.f b o (fM I.g.s b o h)
 .obtain⟨o,e,_⟩:=hx a ha;rw[e,g.h a o e]
 .rw[ji (hn a ha)];let#[o,e,k]:=hx a ha;cases q:F' a with
  |none=>rfl
  |some u=>exact((g.n a u q (by rw[ku (hn a ha)];exact V.nf a ha)).own e k).elim
structure qZ (K:ak) (H0 F H:Hp) (fp:Nat->M Addr) (ds:M D) (vs:M V) (f:M Addr):Prop where
 r:aN K H F ds vs f
 nd:f.Nodup
 nf:∀a∈f,F a=S
 nh:∀a∈f,H0 a=S
 dis:∀i a,a∈f->a∉fp i
def qZ.back(I:bH K F0 H0 Y U F H fp){v:M V}(V:qZ K H0 F H fp d v f)(g:cj (adopt F H (ownAt fp is)) H F' H'):qZ K H0 (minus F' (ownAt fp is)) H' fp d v f:=by
 have hn:∀a∈f,a∉ownAt fp is:=λa ha z=>by
  let#[i,_,hb]:=iK.mp z;exact V.dis i a ha hb
 have hx:=aN.ex d v f V.r;refine#[aN.mono ?_ d v f (λa ha=>?_) V.r,V.nd,λa ha=>?_,V.nh,V.dis]
 .intro b o h;have hb:b∉ownAt fp is:=λz=>by
   let#[i,_,hb]:=iK.mp z;have:=I.nf i b hb;rw[h]at this;cases this
  rw[ji hb];exact g.f b o (fM I.g.s b o h)
 .obtain⟨o,e,_⟩:=hx a ha;rw[e,g.h a o e]
 .rw[ji (hn a ha)];let#[o,e,k]:=hx a ha;cases q:F' a with
  |none=>rfl
  |some u=>exact((g.n a u q (by rw[ku (hn a ha)];exact V.nf a ha)).own e k).elim
def qZ.snoc{vs:M V}{v:V}(V:qZ K H0 F H fp ds vs f)(abq:kh K H0 F H fp d v f')(hd:∀a∈f,a∉f'):qZ K H0 F H fp (ds++[d]) (vs++[v]) (f++f'):=by
 refine#[V.r.app #[v,[],f',[],rfl,by simp,abq.r,rfl,rfl],cT.mpr #[V.nd,abq.nd,λa ha b hb z=>hd a ha (by rw[z];exact hb)],λa ha=>?_,λa ha=>?_,λi a ha=>?_]
 .rcases bw.mp ha with q|q
  .exact V.nf a q
  .exact abq.nf a q
 .rcases bw.mp ha with q|q
  .exact V.nh a q
  .exact abq.nh a q
 .rcases bw.mp ha with q|q
  .exact V.dis i a q
  .exact abq.dis i a q
def runN[Ex](hΓ:eY K Γp O)(I:bH K F0 H0 Y U F H fp)(V0:qZ K H0 F H fp ds vs f0)(lt:dW e=W)(he:pE Γp e Y=.ok d)(ho:aU d=W)(h:∀v F1 H1 f,bH K F0 H0 Y U F1 H1 fp->qZ K H0 F1 H1 fp (ds++[d]) (vs++[v]) f->Q v H1):wE K O Ex.E e U H Q:=by
 refine iJ hΓ e (I.env (cK e)) (iH I.g.s) lt ?_;rw[he];intro F' H' v f g fr r;refine h v _ H' _ (I.back g) ((V0.back I g).snoc #[bI.less (pQ g.s ((I.lists _).mono g.h)) d v f ho r,fr.nd,λa ha=>bh.none (m_ _ _) (fr.nf a ha),λa ha=>bh.none I.g.h (fr.nh a ha),λi a ha hb=>?_] λa ha hb=>?_)
 .obtain⟨o,e,_⟩:=I.ex i a hb;rw[fr.nh a ha]at e;cases e
 .obtain⟨o,e,_⟩:=aN.ex ds vs f0 V0.r a ha;rw[fr.nh a hb]at e;cases e
def bH.Qa(I:bH K F0 H0 Y U F H fp)(k:Nat):bH K F0 H0 (Y.set k S) U F H (λi=>if i=k then[]else fp i):=by
 have sub:∀i a,a∈(if i=k then[]else fp i)->a∈fp i:=λi a ha=>by grind
 refine#[I.g,by simp[I.len],λi d e=>?_,λi a ha=>I.ex i a (sub i a ha),λi=>?_,λi a ha=>I.nf i a (sub i a ha),λi a ha=>I.nh i a (sub i a ha),λi j a ha hb=>I.dis i j a (sub i a ha) (sub j a hb)]
 .by_cases c:i=k
  .subst c;rw[j_]at e;by_cases hi:i<zl Y
   .simp[hi]at e
   .simp[hi]at e
  .rw[fQ (gf c)]at e;rw[aG c];exact I.rep i d e
 .by_cases c:i=k
  .rw[aF c];exact gA
  .rw[aG c];exact I.nd i
def VL[Ex](hΓ:eY K Γp O)(I:bH K F0 H0 Y U F H fp)(V0:kh K H0 F H fp d0 v0 f0)(lt:dW e=W)(he:pE Γp e Y=.ok d)(h:∀v F1 H1,bH K F0 H0 Y U F1 H1 fp->kh K H0 F1 H1 fp d0 v0 f0->(∀{x:D},d=x->aU x=W->bx K H1 x v)->Q v H1):wE K O Ex.E e U H Q:=by
 refine iJ hΓ e (I.env (cK e)) (iH I.g.s) lt ?_;rw[he];intro F' H' v f g fr r;refine h v _ H' (I.back g) (V0.back I g) λz ho=>?_;subst z;let#[F2,g2,s2,rf]:=PM g fr r;exact bx.mono g2.s d v rf
def VM[Ex](hΓ:eY K Γp O){Q:Bool->Hp->Prop}(I:bH K F0 H0 Y U F H fp)(lt:dW e=W)(he:pT Γp e Y=.ok b)(h:∀F1 H1,bH K F0 H0 Y U F1 H1 fp->Q b H1):wT K O Ex.E e U H Q:=by
 refine BL hΓ e (I.env (cK e)) (iH I.g.s) lt ?_;rw[he];exact λF' H' g=>h _ H' (I.back g)
def HS{o:Bool}{U:br}{k:Nat}(h:(o||!is.contains k)=W):(jZ is o U)[k]?=U[k]?:=by
 cases o with
 |true=>rfl
 |false=>
  have hk:k∉is:=by simpa using h
  show(kg is U)[k]?=_;clear h;induction is generalizing U with
  |nil=>rfl
  |cons i is ih=>
   rw[kg,ih (λz=>hk (ao _ z)),EM,aG (λz=>hk (by rw[z];exact aB))]
def bH.lst{k:Nat}{xs:M D}(I:bH K F0 H0 Y U F H fp)(e:Y[k]?=L (L (.lst W xs))):∃a vs fs,U[k]?=L (L (.ref a))/\H a=L (.lst vs)/\zl vs<=aj/\aN K H F xs vs fs/\fp k=a::fs:=by
 let#[v,h1,h2]:=I.rep k _ e;unfold bI at h2;rw[aF rfl]at h2;let#[a,vs,fs,rfl,q]:=h2;exact#[a,vs,fs,h1,q]
def bH.cW(I:bH K F0 H0 Y U F H fp)(e:Y[k]?=L (L (.cW W ks xs))):∃a kvs fs,U[k]?=L (L (.ref a))/\H a=L (.dK kvs)/\zl kvs<=aj/\(kvs.map (·.1)=ks/\keysOk ks=W)/\aN K H F xs (kvs.map (·.2)) fs/\fp k=a::fs:=by
 let#[v,h1,h2]:=I.rep k _ e;unfold bI at h2;rw[aF rfl]at h2;let#[a,vs,fs,rfl,q]:=h2;exact#[a,vs,fs,h1,q]
def bH.bS(I:bH K F0 H0 Y U F H fp)(e:Y[k]?=L (L (.bS W ks xs))):∃a kvs fs,U[k]?=L (L (.ref a))/\H a=L (.dT kvs)/\zl kvs<=aj/\(kvs.map (·.1)=ks/\fZ ks=W)/\aN K H F xs (kvs.map (·.2)) fs/\fp k=a::fs:=by
 let#[v,h1,h2]:=I.rep k _ e;unfold bI at h2;rw[aF rfl]at h2;let#[a,vs,fs,rfl,q]:=h2;exact#[a,vs,fs,h1,q]
def bH.obj(I:bH K F0 H0 Y U F H fp)(e:Y[k]?=L (L (.obj W C ks xs))):∃a dx vs fs,U[k]?=L (L (.ref a))/\(H a=L (.ins C dx vs)/\H dx=L (.own a))/\zl vs<=1000/\(vs.map (·.1)=ks/\ks.Nodup)/\aN K H F xs (vs.map (·.2)) fs/\fp k=a::dx::fs:=by
 let#[v,h1,h2]:=I.rep k _ e;unfold bI at h2;rw[aF rfl]at h2;let#[a,dx,vs,fs,rfl,q]:=h2;exact#[a,dx,vs,fs,h1,q]
theorem Mh:∀{vs:M (Str×V)},f∉vs.map (·.1)->kG f v vs=vs++[(f,v)]
|[],_=>rfl
|(g,x)::r,h=>by
 have h1:¬g=f:=λz=>h (by rw[z];exact aB);show(if g=f then(g,v)::r else(g,x)::kG f v r)=_;rw[aG h1,Mh λz=>h (ao _ z)];rfl
def bH.fld{vs:M (Str×V)}{v:V}(I:bH K F0 H0 Y U F H fp)(V:kh K H0 F H fp d v f)(hσ:U[k]?=L (L (.ref a)))(ho:H a=L (.ins C dx vs)/\H dx=L (.own a))(hl:zl vs<1000)(hks:vs.map (·.1)=ks/\ks.Nodup)(hr:aN K H F xs (vs.map (·.2)) fs)(hk:fp k=a::dx::fs)(hn:nm∉ks):∃fp',bH K F0 H0 (Y.set k (L (.obj W C (ks++[nm]) (xs++[d])))) U F (upd H a (.ins C dx (kG nm v vs))) fp':=by
 have hak:a∈fp k:=by rw[hk];exact aB
 have hn0:=I.nd k;rw[hk]at hn0;let#[na,hn1]:=bX.mp hn0;let#[nx,nfs]:=bX.mp hn1;have hin:∀b∈dx::fs,b∈fp k:=λb hb=>by rw[hk];exact ao _ hb
 have hda:dx≠a:=λz=>na (by rw[<-z];exact aB);have hfa:∀b∈fs,b≠a:=λb hb z=>na (by rw[<-z];exact ao _ hb);have haf:∀b∈f,b≠a:=λb hb z=>V.dis k b hb (by rw[z];exact hak);have hs:∀b∈a::dx::(fs++f),b∈fp k\/b∈f:=λb hb=>by grind
 rw[Mh (by rw[hks.1];exact hn)];refine#[_,I.put hak hσ (f:=a::dx::(fs++f)) ?_ ?_ ?_ ?_ ?_]
 .unfold bI;rw[aF rfl];refine#[a,dx,vs++[(nm,v)],fs++f,rfl,#[bQ,by rw[aY hda];exact ho.2],by rw[bf];exact hl,#[by rw[bE,hks.1];rfl,?_],?_,rfl]
  .exact cT.mpr #[hks.2,bX.mpr #[aD,gA],λx hx y hy z=>hn (by rw[aQ.mp hy]at z;rw[<-z];exact hx)]
  .rw[bE];exact aN.app (aN.mono (bh.refl _) _ _ _ (λb hb=>aY (hfa b hb)) hr) (aN.one (bI.mono (bh.refl _) _ _ _ (λb hb=>aY (haf b hb)) V.r))
 .refine bX.mpr #[λz=>?_,bX.mpr #[λz=>?_,cT.mpr #[nfs,V.nd,λx hx y hy z=>V.dis k y hy (by rw[<-z];exact hin x (ao _ hx))]]]
  .rcases be.mp z with z|z
   .exact hda z.symm
   .rcases bw.mp z with z|z
    .exact hfa a z rfl
    .exact haf a z rfl
  .rcases bw.mp z with z|z
   .exact nx z
   .exact V.dis k dx z (hin dx aB)
 .intro b hb;rcases hs b hb with z|z
  .exact I.nf k b z
  .exact V.nf b z
 .intro b hb;rcases hs b hb with z|z
  .exact I.nh k b z
  .exact V.nh b z
 .intro i hi b hb z;rcases hs b hb with y|y
  .exact hi (I.dis i k b z y)
  .exact V.dis i b y z
def slot_of{k:V->Prop}(h:U[i]?=L (L v))(q:k v):gU U i k:=by
 unfold gU;rw[h];exact q
theorem aN.set:∀{ds:M D}{vs:M V}{fs f:M Addr} (n:Nat) {d:D}{v:V},aN K H F ds vs fs->bI K H F d v f->(fs++f).Nodup->∃fs',aN K H F (ds.set n d) (vs.set n v) fs'/\fs'.Nodup/\∀b∈fs',b∈fs\/b∈f
|[],_,_,_,n,_,_,h,_,nd=>by
 let#[rfl,rfl]:=h;exact#[[],#[rfl,rfl],gA,λb hb=>aH hb aD]
|e::ds,_,_,f,0,d,v,h,hd,nd=>by
 let#[w,r,f1,f2,rfl,rfl,h3,h4]:=h;refine#[f++f2,#[v,r,f,f2,rfl,rfl,hd,h4],?_,?_]
 .grind
 .grind
|e::ds,_,_,f,n+1,d,v,h,hd,nd=>by
 let#[w,r,f1,f2,rfl,rfl,h3,h4]:=h;have nd':(f2++f).Nodup/\f1.Nodup/\∀a∈f1,∀b,(b∈f2\/b∈f)->a≠b:=by
  rw[dF]at nd;let#[n1,n2,n3]:=cT.mp nd;exact#[n2,n1,λa ha b hb=>n3 a ha b (bw.mpr hb)]
 let#[fs',q1,q2,q3]:=aN.set n h4 hd nd'.1;refine#[f1++fs',#[w,_,f1,fs',rfl,rfl,h3,q1],cT.mpr #[nd'.2.1,q2,λa ha b hb=>nd'.2.2 a ha b (q3 b hb)],?_];intro b hb;rcases bw.mp hb with hb|hb
 .exact .inl (bC _ hb)
 .grind
theorem aN.split:∀{ds:M D}{vs:M V}{fs:M Addr} (n:Nat),aN K H F ds vs fs->∃f1 f2,fs=f1++f2/\aN K H F (ds.take n) (vs.take n) f1/\aN K H F (ds.drop n) (vs.drop n) f2
|_,_,_,0,h=>#[[],_,rfl,#[rfl,rfl],h]
|[],_,_,n+1,h=>by
 let#[rfl,rfl]:=h;exact#[[],[],rfl,#[rfl,rfl],#[rfl,rfl]]
|d::ds,_,_,n+1,h=>by
 let#[w,r,f1,f2,rfl,rfl,h3,h4]:=h;let#[g1,g2,rfl,q1,q2]:=aN.split n h4;exact#[f1++g1,g2,by simp,#[w,_,f1,g1,rfl,rfl,h3,q1],q2]
def bH.Qc{k:Nat}{o:HO}{d':D}{a:Addr}{fs fs' f:M Addr}{d:D}{v:V}(I:bH K F0 H0 Y U F H fp)(V:kh K H0 F H fp d v f)(hσ:U[k]?=L (L (.ref a)))(hk:fp k=a::fs)(nd:fs'.Nodup)(sub:∀b∈fs',b∈fs\/b∈f)(hr:(∀b∈fs,upd H a o b=H b)->(∀b∈f,upd H a o b=H b)->bI K (upd H a o) F d' (.ref a) (a::fs')):∃fp',bH K F0 H0 (Y.set k (L d')) U F (upd H a o) fp':=by
 have hak:a∈fp k:=by rw[hk];exact aB
 have nda:a∉fs/\fs.Nodup:=by have:=I.nd k;rw[hk]at this;exact bX.mp this
 have haf:a∉f:=λz=>V.dis k a z hak;have hs:∀b∈fs',b∈fp k\/b∈f:=λb hb=>by
  rcases sub b hb with z|z
  .exact .inl (by rw[hk];exact ao _ z)
  .exact .inr z
 refine#[_,I.put hak hσ (d:=d') (f:=a::fs') (hr (λb hb=>aY (λz=>nda.1 (by rw[<-z];exact hb))) (λb hb=>aY (λz=>haf (by rw[<-z];exact hb)))) ?_ ?_ ?_ ?_]
 .refine bX.mpr #[λz=>?_,nd];rcases sub a z with z|z
  .exact nda.1 z
  .exact haf z
 .intro b hb;rcases be.mp hb with rfl|hb
  .exact I.nf k b hak
  .rcases hs b hb with z|z
   .exact I.nf k b z
   .exact V.nf b z
 .intro b hb;rcases be.mp hb with rfl|hb
  .exact I.nh k b hak
  .rcases hs b hb with z|z
   .exact I.nh k b z
   .exact V.nh b z
 .intro i hi b hb hc;rcases be.mp hb with rfl|hb
  .exact hi (I.dis i k b hc hak)
  .rcases hs b hb with z|z
   .exact hi (I.dis i k b hc z)
   .exact V.dis i b z hc
def bH.YB{kvs':M (Key×V)}{v:V}(I:bH K F0 H0 Y U F H fp)(V:kh K H0 F H fp d v f)(hσ:U[k]?=L (L (.ref a)))(hk:fp k=a::fs)(hl:zl kvs'<=aj)(hks:kvs'.map (·.1)=ks/\keysOk ks=W)(hr:∀{H':Hp},(∀b∈fs,H' b=H b)->(∀b∈f,H' b=H b)->aN K H' F xs' (kvs'.map (·.2)) fs')(nd:fs'.Nodup)(sub:∀b∈fs',b∈fs\/b∈f):∃fp',bH K F0 H0 (Y.set k (L (.cW W ks xs'))) U F (upd H a (.dK kvs')) fp':=I.Qc V hσ hk nd sub λh1 h2=>by unfold bI;rw[aF rfl];exact#[a,kvs',fs',rfl,bQ,hl,hks,hr h1 h2,rfl]
def bH.YC{kvs':M (M Key×V)}{v:V}(I:bH K F0 H0 Y U F H fp)(V:kh K H0 F H fp d v f)(hσ:U[k]?=L (L (.ref a)))(hk:fp k=a::fs)(hl:zl kvs'<=aj)(hks:kvs'.map (·.1)=ks/\fZ ks=W)(hr:∀{H':Hp},(∀b∈fs,H' b=H b)->(∀b∈f,H' b=H b)->aN K H' F xs' (kvs'.map (·.2)) fs')(nd:fs'.Nodup)(sub:∀b∈fs',b∈fs\/b∈f):∃fp',bH K F0 H0 (Y.set k (L (.bS W ks xs'))) U F (upd H a (.dT kvs')) fp':=I.Qc V hσ hk nd sub λh1 h2=>by unfold bI;rw[aF rfl];exact#[a,kvs',fs',rfl,bQ,hl,hks,hr h1 h2,rfl]
def bH.BQ{xs xs':M D}{vs vs':M V}{v:V}(I:bH K F0 H0 Y U F H fp)(V:kh K H0 F H fp d v f)(hσ:U[k]?=L (L (.ref a)))(hk:fp k=a::fs)(hl:zl vs'<=aj)(hr:∀{H':Hp},(∀b∈fs,H' b=H b)->(∀b∈f,H' b=H b)->aN K H' F xs' vs' fs')(nd:fs'.Nodup)(sub:∀b∈fs',b∈fs\/b∈f):∃fp',bH K F0 H0 (Y.set k (L (.lst W xs'))) U F (upd H a (.lst vs')) fp':=I.Qc V hσ hk nd sub λh1 h2=>by unfold bI;rw[aF rfl];exact#[a,vs',fs',rfl,bQ,hl,hr h1 h2,rfl]
end
section
variable{K:ak}{Γp:M PG}{O:M G}{F0 H0 F H:Hp}{Y:br}{U:L2.St}{fp:Nat->M Addr}{X:Ends}
theorem VN[Ex](hΓ:eY K Γp O):∀(as:iV) {ds acc:M D}{av:M V}{af:M Addr}{Y:br}{F H:Hp}{fp:Nat->M Addr}{Q:M V->Hp->Prop},bH K F0 H0 Y U F H fp->qZ K H0 F H fp acc av af->l6 as=W->mR Γp as Y=.ok ds->
 (∀vs F1 H1 σ1 fp1 f,bH K F0 H0 σ1 U F1 H1 fp1->qZ K H0 F1 H1 fp1 (acc++ds) (av++vs) f->Q vs H1)->wEs K O Ex.E as U H Q
|.nil,ds,acc,av,af,Y,F,H,fp,Q,I,V,lt,e,h=>by
 cases e;exact h [] F H Y fp af I (by rw[d_,d_];exact V)
|.cons a r,ds,acc,av,af,Y,F,H,fp,Q,I,V,lt,e,h=>by
 let#[l1,l2]:=band' lt;have e:(match P0 a with
  |some i=>match Y[i]? with
   |some (L d)=>(mR Γp r (Y.set i S)).bind λds=>.ok (d::ds)
   |_=>.bad
  |none=>(pE Γp a Y).bind λd=>.bV (aU d) ((mR Γp r Y).bind λds=>.ok (d::ds)))=R.ok ds:=e
 cases va:P0 a with
 |some i=>
  have ea:a=.var i:=by cases a<;>first|(cases va;rfl)|(cases va)
  subst ea;rw[va]at e;simp only at e;cases q:Y[i]? with
  |none=>rw[q]at e;cases e
  |some o=>
   cases o with
   |none=>rw[q]at e;cases e
   |some d=>
    rw[q]at e;let#[ds',e1,e2]:=cN e;cases e2;let#[v,h1,h2]:=I.rep i d q;have V1:qZ K H0 F H (λj=>if j=i then[]else fp j) (acc++[d]) (av++[v]) (af++fp i):=by
     refine qZ.snoc #[V.r,V.nd,V.nf,V.nh,λj a ha=>?_] #[h2,I.nd i,I.nf i,I.nh i,λj a ha=>?_] λa ha hb=>V.dis i a ha hb
     .by_cases c:j=i
      .rw[aF c];exact aD
      .rw[aG c];exact V.dis j a ha
     .by_cases c:j=i
      .rw[aF c];exact aD
      .rw[aG c];exact λz=>c (I.dis j i a z ha)
    refine slot_of h1 (VN hΓ r (I.Qa i) V1 l2 e1 λvs F1 H1 σ1 fp1 f I1 abq=>h (v::vs) F1 H1 σ1 fp1 f I1 ?_);rw[dF,dF]at abq;exact abq
 |none=>
  rw[va]at e;simp only at e;let#[d,e1,e2]:=cN e;let#[ho,e2]:=nQ e2;let#[ds',e3,e4]:=cN e2;cases e4;refine runN hΓ I V l1 e1 ho λv F1 H1 f I1 V1=>?_;refine VN hΓ r I1 V1 l2 e3 λvs F2 H2 σ2 fp2 f2 I2 abq=>h (v::vs) F2 H2 σ2 fp2 f2 I2 ?_;rw[dF,dF]at abq;exact abq
def Qd[Ex](hΓ:eY K Γp O)(I:bH K F0 H0 Y U F H fp)(lt:dW e=W)(h:cY K F0 H0 ((pM Γp e Y).bA .rt) X):wE K O Ex.E e U H X.rt:=by
 let#[d,e1,h']:=nS h;clear h;have gen:=λhe=>z_ hΓ I lt he λv F1 H1 fp1 f I1 V1=>h' v F1 H1 f I1.g #[V1.nd,V1.nh,V1.nf] V1.r;cases e with
 |var i=>
  have e1:(match Y[i]? with|some (L d)=>R.ok d|_=>.bad)=.ok d:=e1;cases q:Y[i]? with
  |none=>rw[q]at e1;cases e1
  |some o=>
   cases o with
   |none=>rw[q]at e1;cases e1
   |some d'=>
    rw[q]at e1;cases e1;let#[v,h1,h2]:=I.rep i d q;exact slot_of h1 (h' v F H (fp i) I.g #[I.nd i,I.nh i,I.nf i] h2)
 |tup as=>
  have e1:(mR Γp as Y).alt (λds=>.bV (decide (zl ds<=aj)) (.ok (.tup ds))) (pE Γp (.tup as) Y)=.ok d:=e1;cases e2:mR Γp as Y with
  |ok ds=>
   rw[e2]at e1;let#[c3,e4]:=nQ e1;cases e4;refine VN hΓ as I (acc:=[]) #[#[rfl,rfl],gA,λ_ z=>aH z aD,λ_ z=>aH z aD,λ_ _ z=>aH z aD] lt e2 λvs F1 H1 σ1 fp1 f I1 V=>?_;have hr:aN K H1 F1 ds vs f:=V.r;have hl:zl vs<=aj:=by rw[hr.len];exact aE c3
   refine#[hl,λp hp=>?_];have g2:=FW (o:=.tup vs) I1.g.s hp;have I2:=I1.grow g2;have np:∀a∈f,a≠p:=λa ha z=>by
    let#[o,e,_]:=aN.ex ds vs f hr a ha;rw[z,hp]at e;cases e
   exact h' (.ref p) _ _ f I2.g #[V.nd,V.nh,λa ha=>by rw[aY (np a ha)];exact V.nf a ha] #[p,vs,rfl,bQ,hl,aN.mono g2.f ds vs f (λa ha=>aY (np a ha)) hr]
  |_=>
   rw[e2]at e1;exact gen e1
 |_=>exact gen e1
def Qe{f1 f2 f3 g f:M Addr}(nd:(f1++(f2++f3)).Nodup)(g3:∀b∈g,b∈f2\/b∈f)(g2:g.Nodup)(df:∀a∈f,a∉f1++(f2++f3)):(f1++(g++f3)).Nodup:=by grind
def VO{f1 f2 f3 g f:M Addr}(g3:∀b∈g,b∈f2\/b∈f):∀b∈f1++(g++f3),b∈f1++(f2++f3)\/b∈f:=λb hb=>by grind
def Reach(K:ak)(H:Hp):V->M J->V->Prop
|v,[],w=>v=w
|v,i::r,w=>∃a t xs u,v=.ref a/\Ep H a=L (t,xs)/\dj xs i=L u/\Reach K H u r w
theorem Reach.snoc:∀{is:M J}{v w:V}{n:J},Reach K H v (is++[n]) w->∃x,Reach K H v is x/\Reach K H x [n] w
|[],v,w,n,h=>#[v,rfl,h]
|i::r,v,w,n,h=>by
 let#[a,t,xs,u,e1,e2,e3,h]:=h;let#[x,q1,q2]:=Reach.snoc h;exact#[x,#[a,t,xs,u,e1,e2,e3,q1],q2]
set_option tactic.hygienic true in
def ac5[Ex]{i:CE}{n:J}{Q:VK}(e:P_ Y i=L n)(q:Q (.int n) H):wE K O Ex.E i U H Q:=by
 cases i<;>first|cases e;done|skip
 rename_i c;cases c<;>first|cases e;done|skip
 cases e;exact q
theorem ac6[Ex](I:bH K F0 H0 Y U F H fp):∀(o:CE) {k:Nat}{is:M J}{v w:V}{Q:VK},Ma Y o=L (k,is)->U[k]?=L (L v)->Reach K H v is w->Q w H->wE K O Ex.E o U H Q
|.var j,k,is,v,w,Q,e,hv,hr,q=>by
 cases e;cases hr;exact slot_of hv q
|.ix o i,k,is,v,w,Q,e,hv,hr,q=>by
 have e:((Ma Y o).bind λp=>(P_ Y i).map λn=>(p.1,p.2++[n]))=L (k,is):=e;cases e1:Ma Y o with
 |none=>rw[e1]at e;cases e
 |some p=>
  rw[e1]at e;cases e2:P_ Y i with
  |none=>
   rw[e2]at e;cases e
  |some n=>
   rw[e2]at e;cases e;let#[x,q1,a,t,xs,u,rfl,q2,q3,q4]:=Reach.snoc hr;cases q4;refine ac6 I o e1 hv q1 (show wE K O Ex.E i U H λy H2=>LC K (.ref a) y H2 Q from ?_);have fin:LC K (.ref a) (.int n) H Q:=.inl #[t,xs,n,_,rfl,.inl q2,q3,q];exact ac5 e2 fin
|.con _,k,is,v,w,Q,e,hv,hr,q=>by cases e
|.bin _ _ _,k,is,v,w,Q,e,hv,hr,q=>by cases e
|.neg _,k,is,v,w,Q,e,hv,hr,q=>by cases e
|.not _,k,is,v,w,Q,e,hv,hr,q=>by cases e
|.and _ _,k,is,v,w,Q,e,hv,hr,q=>by cases e
|.or _ _,k,is,v,w,Q,e,hv,hr,q=>by cases e
|.ite _ _ _,k,is,v,w,Q,e,hv,hr,q=>by cases e
|.cmp _ _ _,k,is,v,w,Q,e,hv,hr,q=>by cases e
|.call _ _,k,is,v,w,Q,e,hv,hr,q=>by cases e
|.blt _ _,k,is,v,w,Q,e,hv,hr,q=>by cases e
|.isi _ _,k,is,v,w,Q,e,hv,hr,q=>by cases e
|.mth _ _ _,k,is,v,w,Q,e,hv,hr,q=>by cases e
|.sl _ _ _,k,is,v,w,Q,e,hv,hr,q=>by cases e
|.lst _,k,is,v,w,Q,e,hv,hr,q=>by cases e
|.tup _,k,is,v,w,Q,e,hv,hr,q=>by cases e
|.dct,k,is,v,w,Q,e,hv,hr,q=>by cases e
|.comp _ _ _ _ _ _,k,is,v,w,Q,e,hv,hr,q=>by cases e
|.att _ _ _,k,is,v,w,Q,e,hv,hr,q=>by cases e
|.dcT,k,is,v,w,Q,e,hv,hr,q=>by cases e
|.trg _,k,is,v,w,Q,e,hv,hr,q=>by cases e
|.sit _,k,is,v,w,Q,e,hv,hr,q=>by cases e
|.lrv _,k,is,v,w,Q,e,hv,hr,q=>by cases e
|.skl _ _ _ _,k,is,v,w,Q,e,hv,hr,q=>by cases e
theorem aN.at:∀{ds:M D}{vs:M V}{fs:M Addr} (n:Nat) {y:D},aN K H F ds vs fs->ds[n]?=L y->
 ∃w f1 f2 f3,vs[n]?=L w/\fs=f1++(f2++f3)/\bI K H F y w f2/\∀{F1 H':Hp}{y':D}{g:M Addr},bh F F1->(∀b∈f1,H' b=H b)->(∀b∈f3,H' b=H b)->bI K H' F1 y' w g->aN K H' F1 (ds.set n y') vs (f1++(g++f3))
|[],_,_,n,y,h,e=>by simp at e
|d::ds,_,_,0,y,h,e=>by
 let#[v,r,g1,g2,rfl,rfl,h1,h2]:=h;simp at e;subst e;exact#[v,[],g1,g2,rfl,rfl,h1,λs1 _ h3 hr=>#[v,r,_,g2,rfl,rfl,hr,aN.mono s1 _ _ _ h3 h2]]
|d::ds,_,_,n+1,y,h,e=>by
 let#[v,r,g1,g2,rfl,rfl,h1,h2]:=h;let#[w,f1,f2,f3,e1,rfl,q1,q2]:=aN.at n h2 (by simpa using e);refine#[w,g1++f1,f2,f3,by simpa using e1,by simp,q1,λs1 h3 h4 hr=>#[v,r,g1,_,rfl,by simp,bI.mono s1 _ _ _ (λb hb=>h3 b (bC _ hb)) h1,q2 s1 (λb hb=>h3 b (aJ _ hb)) h4 hr]]
theorem Oo:∀(is:M J) {x x' d:D},mG is x d=L x'->∃ys,xS is x=L (.lst W ys)
|[],x,x',d,e=>by
 unfold mG at e;split at e
 .exact#[_,rfl]
 .cases e
|i::r,x,x',d,e=>by
 unfold mG at e;have key:∀(xs:M D) (f:D->D),(((iU (zl xs) i).bind λn=>(xs[n]?).bind λy=>(mG r y d).map λy'=>f (.lst W (xs.set n y')))=L x'\/((iU (zl xs) i).bind λn=>(xs[n]?).bind λy=>(mG r y d).map λy'=>f (.tup (xs.set n y')))=L x')->∃ys,((iU (zl xs) i).bind λn=>(xs[n]?).bind λy=>xS r y)=L (.lst W ys):=by
  intro xs f e;cases e1:iU (zl xs) i with
  |none=>rw[e1]at e;rcases e with e|e<;>cases e
  |some n=>
   rw[e1]at e;show ∃ys,((xs[n]?).bind λy=>xS r y)=L (.lst W ys);cases e2:xs[n]? with
   |none=>simp[e2]at e
   |some y=>
    cases e3:mG r y d with
    |none=>simp[e2,e3]at e
    |some y'=>exact Oo r e3
 split at e
 .exact key _ id (.inr e)
 .cases e
set_option tactic.hygienic true in
theorem Mi:∀(is:M J) {x:D}{ys:M D}{v:V}{fs:M Addr},bh F H->bI K H F x v fs->xS is x=L (.lst W ys)->fs.Nodup->
 ∃c ws f2,c∈fs/\H c=L (.lst ws)/\Reach K H v is (.ref c)/\bI K H F (.lst W ys) (.ref c) f2/\(∀b∈f2,b∈fs)/\∀{d x':D},mG is x d=L x'->zl ws<aj /\
  ∀{F1 H':Hp}{u:V}{f:M Addr},bh F F1->bI K H' F1 d u f->f.Nodup->(∀a∈f,a∉fs)->(∀b∈fs,b≠c->H' b=H b)->H' c=L (.lst (ws++[u]))->∃fs',bI K H' F1 x' v fs'/\fs'.Nodup/\∀b∈fs',b∈fs\/b∈f
|[],x,ys,v,fs,s,r,e,nd=>by
 cases e;have r0:=r;unfold bI at r;rw[aF rfl]at r;let#[a,vs,f1,rfl,r2,r3,r4,rfl]:=r;have nd':=bX.mp nd;refine#[a,vs,a::f1,aB,r2,rfl,r0,λb hb=>hb,λ{d x'} e=>?_];have e:(if zl ys<aj then L (D.lst W (ys++[d]))else S)=L x':=e;split at e
 .rename_i hl;cases e;refine#[by rw[r4.len];exact hl,λ{F1 H' u f} s1 rd nf df h1 h2=>#[a::(f1++f),?_,?_,?_]]
  .unfold bI;rw[aF rfl];exact#[a,vs++[u],f1++f,rfl,h2,by rw[bf,r4.len];exact hl,aN.app (aN.mono s1 _ _ _ (λb hb=>h1 b (ao _ hb) λz=>nd'.1 (by rw[<-z];exact hb)) r4) (aN.one rd),rfl]
  .grind
  .grind
 .cases e
|i::r,x,ys,v,fs,s,rx,e,nd=>by
 unfold xS at e;split at e
 .rename_i xs;cases e1:iU (zl xs) i with
  |none=>rw[e1]at e;cases e
  |some n=>
   rw[e1]at e;have e:((xs[n]?).bind λy=>xS r y)=L (.lst W ys):=e;cases e2:xs[n]? with
   |none=>rw[e2]at e;cases e
   |some y=>
    rw[e2]at e;have e:xS r y=L (.lst W ys):=e;let#[a,vs,rfl,r2,r3,r4]:=rx;let#[w,f1,f2,f3,w1,rfl,w2,w3]:=aN.at n r4 e2;let#[n1,n23,n4]:=cT.mp nd;let#[n2,n3,n5]:=cT.mp n23;let#[c,ws,f4,c1,c2,c4,c6,c7,c5]:=Mi r s w2 e n2;refine#[c,ws,f4,aJ _ (bC _ c1),c2,#[a,W,vs,w,rfl,by unfold Ep;rw[s _ _ r2],y9 (by rw[r4.len];exact e1) w1,c4],c6,λb hb=>aJ _ (bC _ (c7 b hb)),λ{d x'} e3=>?_];have e3:((iU (zl xs) i).bind λn=>(xs[n]?).bind λy=>(mG r y d).map λy'=>D.tup (xs.set n y'))=L x':=e3;rw[e1]at e3;have e3:((xs[n]?).bind λy=>(mG r y d).map λy'=>D.tup (xs.set n y'))=L x':=e3;rw[e2]at e3;have e3:((mG r y d).map λy'=>D.tup (xs.set n y'))=L x':=e3;cases e4:mG r y d with
    |none=>rw[e4]at e3;cases e3
    |some y'=>
     rw[e4]at e3;cases e3;let#[c3,c5]:=c5 e4;refine#[c3,λ{F1 H' u f} s1 rd nf df h1 h2=>?_];let#[g,g1,g2,g3]:=c5 s1 rd nf (λb hb z=>df b hb (aJ _ (bC _ z))) (λb hb hc=>h1 b (aJ _ (bC _ hb)) hc) h2;refine#[f1++(g++f3),#[a,vs,rfl,s1 _ _ r2,r3,w3 s1 (λb hb=>h1 b (bC _ hb) λz=>n4 b hb c (bC _ c1) z) (λb hb=>h1 b (aJ _ (aJ _ hb)) λz=>n5 c c1 b hb z.symm) g1],?_,?_]
     .exact Qe nd (λb hb=>g3 b hb) g2 df
     .exact VO g3
 .cases e
def runS[Ex](hΓ:eY K Γp O)(I:bH K F0 H0 Y U F H fp)(lt:dW e=W)(he:pE Γp e Y=.ok d)(h:∀v F1 H1,bH K F0 H0 Y U F1 H1 fp->bh F F1->bh H H1->(aU d=W->∃f,kh K H0 F1 H1 fp d v f)->Q v H1):wE K O Ex.E e U H Q:=by
 refine iJ hΓ e (I.env (cK e)) (iH I.g.s) lt ?_;rw[he];intro F' H' v f g fr r;refine h v _ H' (I.back g) (λb o q=>?_) g.h λho=>?_
 .have hb:b∉ownAt fp (cK e):=λz=>by
   let#[i,_,hb]:=iK.mp z;rw[I.nf i b hb]at q;cases q
  rw[ji hb];exact g.f b o (fM I.g.s b o q)
 refine#[f,bI.less (pQ g.s ((I.lists _).mono g.h)) d v f ho r,fr.nd,λa ha=>bh.none (m_ _ _) (fr.nf a ha),λa ha=>bh.none I.g.h (fr.nh a ha),λi a ha hb=>?_];let#[o,e,_]:=I.ex i a hb;rw[fr.nh a ha]at e;cases e
set_option tactic.hygienic true in
def aeY[Ex](hΓ:eY K Γp O)(I:bH K F0 H0 Y U F H fp)(la:dW a=W)(h:cY K F0 H0 (Mb Γp o a Y) X):wE K O Ex.E (.mth .append o (.cons a .nil)) U H λ_ H1=>X.nx U H1:=by
 unfold Mb at h;split at h
 .rename_i p ep;let#[d,e1,h]:=v7 h;split at h
  .rename_i x ex;split at h
   .rename_i ho;cases e3:mG p.2 x d with
    |none=>rw[e3]at h;exact h.elim
    |some x'=>
     rw[e3]at h;let#[v,hv,rx]:=I.rep _ _ ex;let#[ys,eg]:=Oo p.2 e3;let#[c,ws,f2,c1,c2,c4,_,_,c5]:=Mi p.2 I.g.s rx eg (I.nd _);let#[c3,c5]:=c5 e3;refine ac6 I o ep hv c4 #[?_,?_]
     .show pN H c;unfold pN;rw[c2];trivial
     .simp only[wEs];refine runS hΓ I la e1 λu F1 H1 I1 sF sH V1=>?_;let#[f,V1]:=V1 ho;show(match H1 c with|some (.lst xs)=>zl xs<aj/\X.nx U (upd H1 c (.lst (xs++[u])))|_=>bu);rw[sH _ _ c2];refine#[c3,?_];have hcf:c∉f:=λz=>V1.dis p.1 c z c1;let#[fs',g1,g2,g3]:=c5 sF (bI.mono (bh.refl _) _ _ _ (λb hb=>aY λz=>hcf (by rw[<-z];exact hb)) V1.r) V1.nd (λb hb=>V1.dis p.1 b hb) (λb hb hc=>by
       rw[aY hc];let#[o,eo,_]:=I.ex p.1 b hb;rw[eo,sH b o eo]) bQ
      refine h U F1 _ _ (I1.put c1 hv g1 g2 (λb hb=>?_) (λb hb=>?_) λi hi b hb z=>?_)
      .rcases g3 b hb with q|q
       .exact I1.nf p.1 b q
       .exact V1.nf b q
      .rcases g3 b hb with q|q
       .exact I1.nh p.1 b q
       .exact V1.nh b q
      .rcases g3 b hb with q|q
       .exact hi (I1.dis i p.1 b z q)
       .exact V1.dis i b q z
   .exact h.elim
  .exact h.elim
 .exact h.elim
set_option tactic.hygienic true in
def okX[Ex](hΓ:eY K Γp O)(I:bH K F0 H0 Y U F H fp)(lt:dW e=W)(h:cY K F0 H0 (pX Γp e Y) X):wE K O Ex.E e U H λ_ H1=>X.nx U H1:=by
 have gen:cY K F0 H0 ((pE Γp e Y).bA λ_=>.nx Y) X->wE K O Ex.E e U H λ_ H1=>X.nx U H1:=λh=>by
  let#[d,e1,h]:=nS h;exact runD' hΓ I lt e1 λv F1 H1 I1 _ _=>h U F1 H1 fp I1
 cases e with
 |mth m o as=>
  cases o with
  |var k=>
   let#[_,lt2]:=band' lt;cases m with
   |append=>
    cases as with
    |nil=>exact h.elim
    |cons a r=>
     cases r with
     |cons _ _=>exact h.elim
     |nil=>
      let#[la,_]:=band' lt2;let#[d,e1,h]:=v7 (show cY K F0 H0 ((pE Γp a Y).kc (wK Y[k]?) λd=>match Y[k]? with|some (L (.lst W xs))=>if(decide (zl xs<aj)&&(aU d||!(cK a).contains k))=W then .nx ((jZ (cK a) (aU d) Y).set k (L (.lst W (xs++[d]))))else .bad|_=>.bad) X from h);split at h
      .rename_i xs q;split at h
       .rename_i c;let#[c1,c2]:=band' c;have c1:=aE c1;let#[a0,us,fs,s1,s2,s3,s4,s5]:=I.lst q;refine slot_of s1 #[?_,?_]
        .show pN H a0;unfold pN;rw[s2];trivial
        .simp only[wEs];refine z_ hΓ I la e1 λv F1 H1 fp1 f I1 V1=>?_;let#[a1,us1,fs1,t1,t2,t3,t4,t5]:=I1.lst (xs:=xs) (by rw[HS c2];exact q);rw[s1]at t1;cases t1;show(match H1 a0 with|some (.lst xs)=>zl xs<aj/\X.nx U (upd H1 a0 (.lst (xs++[v])))|_=>bu);rw[t2];refine#[by rw[t4.len];exact c1,?_];have nd1:(fs1++f).Nodup:=by
          have n:=I1.nd k;rw[t5]at n;refine cT.mpr #[(bX.mp n).2,V1.nd,λa ha b hb z=>?_];subst z;exact V1.dis k a hb (by rw[t5];exact ao _ ha)
         let#[fp',I']:=I1.BQ (xs:=xs) (xs':=xs++[d]) (vs:=us1) (vs':=us1++[v]) (fs:=fs1) (fs':=fs1++f) V1 s1 t5 (by rw[bf,t4.len];simp;omega)
          (λh1 h2=>aN.app (aN.mono (bh.refl _) _ _ _ h1 t4) (aN.one (bI.mono (bh.refl _) _ _ _ h2 V1.r))) nd1 (λb hb=>bw.mp hb)
         exact h U F1 _ fp' I'
       .exact h.elim
      .exact h.elim
   |extend=>
    cases as with
    |nil=>exact h.elim
    |cons a r=>
     cases r with
     |cons _ _=>exact h.elim
     |nil=>
      let#[la,_]:=band' (show(dW a&&l6 .nil)=W from lt2);let#[d,e1,h]:=v7 (show cY K F0 H0 ((pE Γp a Y).kc (wK Y[k]?) λd=>HP k (cK a) d Y) X from h);unfold HP at h;split at h
      .rename_i ys;split at h
       .rename_i xs q;split at h
        .rename_i c;let#[c1,c2]:=band' c;have c1:=aE c1;let#[a0,us,fs,s1,s2,s3,s4,s5]:=I.lst q;refine slot_of s1 #[?_,?_]
         .show pN H a0;unfold pN;rw[s2];trivial
         .simp only[wEs];refine z_ hΓ I la e1 λv F1 H1 fp1 f I1 V1=>?_;let#[a1,us1,fs1,t1,t2,t3,t4,t5]:=I1.lst (k:=k) (xs:=xs) (by rw[HS c2];exact q);rw[s1]at t1;cases t1;have rv:=V1.r;unfold bI at rv;rw[aF rfl]at rv;let#[b,ws,f2,rfl,k2,k3,k4,rfl]:=rv;show(match H1 a0 with|some (.lst xs)=>∃zs,H1 b=L (.lst zs)/\zl xs+zl zs<=aj/\X.nx U (upd H1 a0 (.lst (xs++zs)))|_=>bu);rw[t2];refine#[ws,k2,by rw[t4.len,k4.len];exact c1,?_];have nd2:=bX.mp V1.nd;have nd1:(fs1++f2).Nodup:=by
           have n:=I1.nd k;rw[t5]at n;refine cT.mpr #[(bX.mp n).2,nd2.2,λa ha b hb z=>?_];subst z;exact V1.dis k a (ao _ hb) (by rw[t5];exact ao _ ha)
          let#[fp',I']:=I1.BQ (xs:=xs) (xs':=xs++ys) (vs:=us1) (vs':=us1++ws) (fs:=fs1) (fs':=fs1++f2) V1 s1 t5 (by rw[bf,t4.len,k4.len];exact c1)
           (λh1 h2=>aN.app (aN.mono (bh.refl _) _ _ _ h1 t4) (aN.mono (bh.refl _) _ _ _ (λb hb=>h2 b (ao _ hb)) k4)) nd1 (λb hb=>by
            rcases bw.mp hb with z|z
            .exact .inl z
            .exact .inr (ao _ z))
          exact h U F1 _ fp' I'
        .exact h.elim
       .exact h.elim
      .exact h.elim
   |insert=>
    match as,h,lt2 with
    |.nil,h,_=>exact h.elim
    |.cons _ .nil,h,_=>exact h.elim
    |.cons _ (.cons _ (.cons _ _)),h,_=>exact h.elim
    |.cons i (.cons a .nil),h,lt2=>
     let#[li,l2]:=band' (show(dW i&&l6 (.cons a .nil))=W from lt2);let#[la,_]:=band' (show(dW a&&l6 .nil)=W from l2);let#[j,e1,h]:=v7 (b:=B) h;let#[d,e2,h]:=v7 (b:=B) h;cases j with
     |int j=>
      have h:cY K F0 H0 (match Y[k]? with|some (L (.lst W xs))=>if(decide (0<=j/\j<2 ^ 40/\zl xs<aj)&&aU d)=W then .nx (Y.set k (L (.lst W (xs.take j.toNat++d::xs.drop j.toNat))))else .bad|_=>.bad) X:=h;split at h
      .rename_i xs q;split at h
       .rename_i c;let#[c1,c2]:=band' c;have c1:=aE c1;let#[a0,us,fs,s1,s2,s3,s4,s5]:=I.lst q;refine slot_of s1 #[?_,?_]
        .show pN H a0;unfold pN;rw[s2];trivial
        .simp only[wEs];refine runD' hΓ I li e1 λv F1 H1 I1 _ V1=>?_;let#[f0,V1]:=V1 rfl;let#[rfl,_]:=V1.r;refine runD' hΓ I1 la e2 λv F2 H2 I2 _ V2=>?_;let#[f,V2]:=V2 c2;let#[a1,us1,fs1,t1,t2,t3,t4,t5]:=I2.lst q;rw[s1]at t1;cases t1;show(match H2 a0 with|some (.lst xs)=>(0<=j/\j<2 ^ 40/\zl xs<aj)/\X.nx U (upd H2 a0 (.lst (xs.take j.toNat++v::xs.drop j.toNat)))|_=>bu);rw[t2];refine#[by rw[t4.len];exact c1,?_];let#[g1,g2,eg,w1,w2]:=aN.split j.toNat t4;subst eg;have nd1:(g1++(f++g2)).Nodup:=by
          have n:=I2.nd k;rw[t5]at n;have n:=(bX.mp n).2;let#[n1,n2,n3]:=cT.mp n;have nf:∀b∈f,b∉g1/\b∉g2:=λb hb=>#[λz=>V2.dis k b hb (by rw[t5];exact ao _ (bC _ z)),λz=>V2.dis k b hb (by rw[t5];exact ao _ (aJ _ z))];refine cT.mpr #[n1,cT.mpr #[V2.nd,n2,λa ha b hb z=>(nf a ha).2 (by rw[z];exact hb)],λa ha b hb z=>?_];rcases bw.mp hb with hb|hb
          .exact(nf b hb).1 (by rw[<-z];exact ha)
          .exact n3 a ha b hb z
         let#[fp',I']:=I2.BQ (xs:=xs) (xs':=xs.take j.toNat++d::xs.drop j.toNat) (vs:=us1) (vs':=us1.take j.toNat++v::us1.drop j.toNat) (fs:=g1++g2) (fs':=g1++(f++g2)) V2 s1 t5 (by
           rw[bf,cR,cL,dz,t4.len];omega)
          (λh1 h2=>aN.app (aN.mono (bh.refl _) _ _ _ (λb hb=>h1 b (bC _ hb)) w1) #[v,_,f,g2,rfl,rfl,bI.mono (bh.refl _) _ _ _ h2 V2.r,aN.mono (bh.refl _) _ _ _ (λb hb=>h1 b (aJ _ hb)) w2]) nd1 (λb hb=>by
           rcases bw.mp hb with hb|hb
           .exact .inl (bC _ hb)
           .rcases bw.mp hb with hb|hb
            .exact .inr hb
            .exact .inl (aJ _ hb))
         exact h U F2 _ fp' I'
       .exact h.elim
      .exact h.elim
     |_=>exact h.elim
   |_=>exact gen h
  |ix o i=>
   let#[_,lt2]:=band' (show(dW (.ix o i)&&l6 as)=W from lt);cases m with
   |append=>
    cases as with
    |nil=>exact h.elim
    |cons a r=>
     cases r with
     |cons _ _=>exact h.elim
     |nil=>
      let#[la,_]:=band' (show(dW a&&l6 .nil)=W from lt2);exact aeY hΓ I la h
   |_=>exact gen h
  |_=>exact gen h
 |_=>exact gen h
mutual
theorem bI.flat:∀(d:D) (v:V) (f:M Addr),nC d=W->bI K H F d v f->f=[]/\bI K H' F d v []
|.non,v,f,_,h=>#[h.2,h.1,rfl]
|.bl b,v,f,_,h=>#[h.2,h.1,rfl]
|.int i,v,f,_,h=>#[h.2,h.1,rfl]
|.str x,v,f,_,h=>#[h.2,h.1,rfl]
|.lst _ _,v,f,e,h=>by cases e
|.cW _ _ _,v,f,e,h=>by cases e
|.tup ds,v,f,e,h=>by
 let#[a,vs,h1,h2,h3,h4]:=h;let#[e1,e2]:=aN.flat ds vs f e h4;exact#[e1,a,vs,h1,h2,h3,e2]
theorem aN.flat:∀(ds:M D) (vs:M V) (f:M Addr),jF ds=W->aN K H F ds vs f->f=[]/\aN K H' F ds vs []
|[],vs,f,_,h=>#[h.2,h.1,rfl]
|d::ds,vs,f,e,h=>by
 let#[e1,e2]:=band' (show(nC d&&jF ds)=W from e);let#[v,r,f1,f2,h1,rfl,h3,h4]:=h;let#[rfl,q1]:=bI.flat d v f1 e1 h3;let#[rfl,q2]:=aN.flat ds r f2 e2 h4;exact#[rfl,v,r,[],[],h1,rfl,q1,q2]
end
theorem aN.jy{κ:Type}[eT κ]{kk:κ}(hd:bI K H F d v []):∀{ds:M D}{kvs:M (κ×V)}{fs:M Addr},aN K H F ds (kvs.map (·.2)) fs->∃fs',aN K H F (L3.jy (kvs.map (·.1)) ds kk d) ((kvs.map λkv=>if kv.1=kk then(kv.1,v)else kv).map (·.2)) fs'/\fs'.Sublist fs
|[],[],_,h=>#[[],#[rfl,rfl],by rw[h.2];exact Dw _]
|[],_::_,_,h=>by cases h.1
|_::_,[],_,h=>by
 let#[_,_,_,_,z,_]:=h;cases z
|e::ds,(k,w)::kvs,_,h=>by
 let#[u,r,f1,f2,z,rfl,h3,h4]:=h;simp only[bJ]at z;injection z with z1 z2;subst z1 z2;let#[fs',q1,q2]:=aN.jy hd h4;simp only[bJ,L3.jy];by_cases hk:k=kk
 .rw[aF hk,aF hk];exact#[fs',#[v,_,[],fs',rfl,rfl,hd,q1],q2.trans (List.sublist_append_right f1 f2)]
 .rw[aG hk,aG hk];exact#[f1++fs',#[w,_,f1,fs',rfl,rfl,h3,q1],Ra (Dw _) q2]
theorem Jx:∀{ds:M D}{k:M Key},qW ds=L k->aX ds=W
|[],_,_=>rfl
|d::ds,k,h=>by
 unfold qW at h;cases hd:mQ d with
 |none=>rw[hd]at h;cases h
 |some q=>
  rw[hd]at h;cases hr:qW ds with
  |none=>rw[hr]at h;cases h
  |some r=>
   show(aU d&&aX ds)=W;rw[Jx hr,nY];cases d<;>first|rfl|(cases hd)
def VP(h:iP j=L k):aU j=W:=by
 cases j<;>first|(cases h)|exact Jx h
def ac7[Ex](hΓ:eY K Γp O){g:CG}{e:CE}(I:bH K F0 H0 Y U F H fp)(lg:ltG g=W)(lt:dW e=W)(h:cY K F0 H0 (pA Γp g e Y) X):wE K O Ex.E e U H λx H1=>wG K O Ex.E g x U H1 X.nx:=by
 cases g with
 |name i=>
  let#[d,e1,h]:=nS h;exact z_ hΓ I lt e1 λv F1 H1 fp1 f I1 V1=>h _ F1 H1 _ (I1.set V1 i)
 |tup gs=>
  let#[d,e1,h]:=nS h;let#[σ2,e2,h]:=BP h;refine z_ hΓ I lt e1 λv F1 H1 fp1 f I1 V1=>?_;exact ac4 (.tup gs) I1 V1 e2 fun σ' fp' I' _=>h σ' _ H1 fp' I'
 |sub o i=>
  let#[_,li]:=band' lg;cases o with
  |var k=>
   let#[d,e1,h]:=nS h;let#[j,e2,h]:=v7 h;cases q:Y[k]? with
   |none=>simp only[q]at h;exact h.elim
   |some o=>
    cases o with
    |none=>simp only[q]at h;exact h.elim
    |some x=>
     simp only[q]at h;by_cases c:(aU d||!(cK e).contains k)=W
     .rw[aF c]at h;let#[x',e3,h]:=BP h;have e3:=wH e3;refine z_ hΓ I lt e1 λv F1 H1 fp1 f I1 V1=>?_;have nd1:∀{F2 H2:Hp}{a0:Addr}{fs1:M Addr},bH K F0 H0 (jZ (cK e) (aU d) Y) U F2 H2 fp1->kh K H0 F2 H2 fp1 d v f->fp1 k=a0::fs1->(fs1++f).Nodup:=λI2 V2 t5=>by
       have n:=I2.nd k;rw[t5]at n;refine cT.mpr #[(bX.mp n).2,V2.nd,λa ha b hb z=>?_];subst z;exact V2.dis k a hb (by rw[t5];exact ao _ ha)
      have q1:(jZ (cK e) (aU d) Y)[k]?=L (L x):=by rw[HS c];exact q
      cases x with
      |lst o xs=>
       cases o with
       |false=>cases e3
       |true=>
        cases j with
        |int j=>
         have e3:(iU (zl xs) j).map (λn=>D.lst W (xs.set n d))=L x':=e3;cases en:iU (zl xs) j with
         |none=>rw[en]at e3;cases e3
         |some n=>
          rw[en]at e3;cases e3;let#[a0,us,fs,s1,s2,s3,s4,s5]:=I1.lst q1;refine slot_of s1 (VL hΓ I1 V1 li e2 λw F2 H2 I2 V2 rj=>?_);have rj:=rj rfl rfl;subst rj;let#[a1,us1,fs1,t1,t2,t3,t4,t5]:=I2.lst q1;rw[s1]at t1;cases t1;simp only[t2];refine#[j,n,rfl,by rw[t4.len];exact en,?_];let#[fs',q1,q2,q3]:=aN.set n t4 V2.r (nd1 I2 V2 t5);let#[fp',I']:=I2.BQ (xs:=xs) (xs':=xs.set n d) (vs:=us1) (vs':=us1.set n v) (fs:=fs1) (fs':=fs') V2 s1 t5 (by rw[jS];exact t3)
           (λh1 h2=>aN.mono (bh.refl _) _ _ _ (λb hb=>by
            rcases q3 b hb with z|z
            .exact h1 b z
            .exact h2 b z) q1) q2 q3
          exact h U F2 _ fp' I'
        |_=>cases e3
      |cW o ks xs=>
       cases o with
       |false=>cases e3
       |true=>
        have e3:VI ks xs d j=L x':=e3;unfold VI at e3;cases ek:mQ j with
        |none=>simp only[ek]at e3;cases e3
        |some kk=>
         simp only[ek]at e3;by_cases c0:zl ks<aj
         .rw[aF c0]at e3;let#[a0,us,fs,s1,s2,s3,s4,s5,s6]:=I1.cW q1;refine slot_of s1 (VL hΓ I1 V1 li e2 λw F2 H2 I2 V2 rj=>?_);have hj:aU j=W:=by cases j<;>first|rfl|(cases ek)
          have rj:=rj rfl hj;have rk:=uu rj ek;have rl:keyOk kk=W:=by
           cases j<;>first|(cases ek;exact a_ rj.2)|(cases ek;rfl)|(cases ek)
          subst rk;let#[a1,us1,fs1,t1,t2,t3,t4,t5,t6]:=I2.cW q1;rw[s1]at t1;cases t1;simp only[t2];have hlen:zl us1<aj:=by
           have z:zl us1=zl ks:=by rw[<-t4.1,aa]
           lia
          refine#[kk,rfl,hlen,?_];have hany:(us1.any λkv=>decide (kv.1=kk))=jE ks kk:=by
           rw[<-t4.1];unfold jE;rw[tU];rfl
          by_cases hh:jE ks kk=W
          .rw[aF hh]at e3;by_cases hf:nC d=W
           case neg=>rw[aG hf]at e3;cases e3
           rw[aF hf]at e3;cases e3;have e5:putK us1 kk v=us1.map (λkv=>if kv.1=kk then(kv.1,v)else kv):=by
            unfold putK;rw[hany,aF hh]
           rw[e5];let#[ef,hd]:=bI.flat (H':=H2) d v f hf V2.r;subst ef;let#[fs',w1,w2]:=aN.jy (kk:=kk) hd t5;rw[t4.1]at w1;have hm:(us1.map λkv=>if kv.1=kk then(kv.1,v)else kv).map (·.1)=ks:=by
            rw[bK,<-t4.1];apply gJ;intro kv _;show(if kv.1=kk then(kv.1,v)else kv).1=kv.1;split<;>rfl
           have n:=I2.nd k;rw[t6]at n;have n:=(bX.mp n).2;let#[fp',I']:=I2.YB (ks:=ks) (xs':=jy ks xs kk d) (kvs':=us1.map λkv=>if kv.1=kk then(kv.1,v)else kv) (fs:=fs1) (fs':=fs') V2 s1 t6 (by rw[aa];exact t3)
            #[hm,t4.2] (λh1 _=>aN.mono (bh.refl _) _ _ _ (λb hb=>h1 b (w2.subset hb)) w1) (w2.nodup n) (λb hb=>.inl (w2.subset hb))
           exact h U F2 _ fp' I'
          .rw[aG hh]at e3;cases e3;have e5:putK us1 kk v=us1++[(kk,v)]:=by
            unfold putK;rw[hany,aG hh]
           rw[e5];let#[fp',I']:=I2.YB (ks:=ks++[kk]) (xs':=xs++[d]) (kvs':=us1++[(kk,v)]) (fs:=fs1) (fs':=fs1++f) V2 s1 t6 (by simp;lia)
            #[by rw[bE,t4.1];rfl,by
             have z:=t4.2;unfold keysOk at z ⊢;rw[ym,z];simp[rl]]
            (λh1 h2=>by
             rw[bE];exact aN.app (aN.mono (bh.refl _) _ _ _ h1 t5) (aN.one (bI.mono (bh.refl _) _ _ _ h2 V2.r))) (nd1 I2 V2 t6) (λb hb=>bw.mp hb)
           exact h U F2 _ fp' I'
         .rw[aG c0]at e3;cases e3
      |bS o ks xs=>
       cases o with
       |false=>cases e3
       |true=>
        have e3:Mc ks xs d j=L x':=e3;unfold Mc at e3;cases ek:iP j with
        |none=>simp only[ek]at e3;cases e3
        |some kk=>
         simp only[ek]at e3;by_cases c0:zl ks<aj
         .rw[aF c0]at e3;let#[a0,us,fs,s1,s2,s3,s4,s5,s6]:=I1.bS q1;refine slot_of s1 (VL hΓ I1 V1 li e2 λw F2 H2 I2 V2 rj=>?_);have hj:aU j=W:=VP ek;have rj:=rj rfl hj;let#[b0,rfl,hb0,rl]:=z7 rj ek;let#[a1,us1,fs1,t1,t2,t3,t4,t5,t6]:=I2.bS q1;rw[s1]at t1;cases t1;simp only[t2];have hlen:zl us1<aj:=by
           have z:zl us1=zl ks:=by rw[<-t4.1,aa]
           lia
          refine#[kk,b0,rfl,hb0,hlen,?_];have hany:(us1.any λkv=>decide (kv.1=kk))=jE ks kk:=by
           rw[<-t4.1];unfold jE;rw[tU];rfl
          by_cases hh:jE ks kk=W
          .rw[aF hh]at e3;by_cases hf:nC d=W
           case neg=>rw[aG hf]at e3;cases e3
           rw[aF hf]at e3;cases e3;have e5:putK us1 kk v=us1.map (λ(kv:M Key×V)=>if kv.1=kk then(kv.1,v)else kv):=by
            unfold putK;rw[hany,aF hh]
           rw[e5];let#[ef,hd]:=bI.flat (H':=H2) d v f hf V2.r;subst ef;let#[fs',w1,w2]:=aN.jy (kk:=kk) hd t5;rw[t4.1]at w1;have hm:(us1.map λ(kv:M Key×V)=>if kv.1=kk then(kv.1,v)else kv).map (·.1)=ks:=by
            rw[bK,<-t4.1];apply gJ;intro kv _;show(if kv.1=kk then(kv.1,v)else kv).1=kv.1;split<;>rfl
           have n:=I2.nd k;rw[t6]at n;have n:=(bX.mp n).2;let#[fp',I']:=I2.YC (ks:=ks) (xs':=jy ks xs kk d) (kvs':=us1.map λ(kv:M Key×V)=>if kv.1=kk then(kv.1,v)else kv) (fs:=fs1) (fs':=fs') V2 s1 t6 (by rw[aa];exact t3)
            #[hm,t4.2] (λh1 _=>aN.mono (bh.refl _) _ _ _ (λb hb=>h1 b (w2.subset hb)) w1) (w2.nodup n) (λb hb=>.inl (w2.subset hb))
           exact h U F2 _ fp' I'
          .rw[aG hh]at e3;cases e3;have e5:putK us1 kk v=us1++[(kk,v)]:=by
            unfold putK;rw[hany,aG hh]
           rw[e5];let#[fp',I']:=I2.YC (ks:=ks++[kk]) (xs':=xs++[d]) (kvs':=us1++[(kk,v)]) (fs:=fs1) (fs':=fs1++f) V2 s1 t6 (by simp;lia)
            #[by rw[bE,t4.1];rfl,by
             have z:=t4.2;unfold fZ at z ⊢;rw[ym,z];simp[rl]]
            (λh1 h2=>by
             rw[bE];exact aN.app (aN.mono (bh.refl _) _ _ _ h1 t5) (aN.one (bI.mono (bh.refl _) _ _ _ h2 V2.r))) (nd1 I2 V2 t6) (λb hb=>bw.mp hb)
           exact h U F2 _ fp' I'
         .rw[aG c0]at e3;cases e3
      |_=>cases e3
     .rw[aG c]at h;exact h.elim
  |_=>exact h.elim
theorem Jy:∀(ds:M D) (n:Nat),aA ds=ds->aA (ir n ds)=ir n ds
|[],_,_=>rfl
|d::r,n,h=>by
 have h':=h;injection h' with h1 h2;show D.tup [.int (n:J),bq d]::aA (ir (n+1) r)=_;rw[h1,Jy r (n+1) h2];rfl
def VQ(ds:M D):aA ds.reverse=(aA ds).reverse:=by
 induction ds with
 |nil=>rfl
 |cons d r ih=>rw[ic,rH,ih];show _=(bq d::aA r).reverse;rw[ic];rfl
def ac8(h:pI Γp src Y=.ok items):aA items.2=items.2:=by
 cases src with
 |seq a=>
  let#[x,e1,e2]:=cN h;let#[ds,e3,e4]:=cN e2;cases e4;cases x with
  |str z=>cases e3;exact dR _ (λ_=>rfl) _
  |lst o xs=>cases e3;exact iI xs
  |tup xs=>cases e3;exact iI xs
  |_=>cases e3
 |range as=>
  let#[x,e1,e2]:=cN h;let#[ds,e3,e4]:=cN e2;cases e4;rcases x with _|⟨v,_|⟨v2,r⟩⟩
  .cases e3
  .cases v<;>first|cases e3;done|skip
   let#[_,e5]:=nQ e3;cases e5;exact dR _ (λ_=>rfl) _
  .cases v<;>cases e3
 |enum a=>
  let#[x,e1,e2]:=cN h;cases x with
  |lst o xs=>cases e2;exact Jy _ 0 (iI xs)
  |_=>cases e2
 |rev a=>
  let#[x,e1,e2]:=cN h;cases x with
  |lst o xs=>cases e2;rw[VQ,iI]
  |_=>cases e2
 |rrg a=>
  let#[x,e1,e2]:=cN h;unfold L0 at e2;split at e2
  .obtain⟨_,e5⟩:=nQ e2;cases e5;exact dR _ (λ_=>rfl) _
  .cases e2
 |kys a=>cases h
theorem Qf[Ex]{ok:Hp->Prop}(hok:∀H'',bh abm H''->ok H'')(hb:∀{Y:br}{U:L2.St}{F H:Hp}{fp:Nat->M Addr}{X:Ends},bH K abm H0 Y U F H fp->cY K abm H0 (b9 Γp n b Y) X->wSs K O Ex.E b X U H):∀(ds:M D) (its:M Item) {Y:br}{U:L2.St}{F H:Hp}{fp:Nat->M Addr},bH K abm H0 Y U F H fp->kJ K abm ds its->cY K abm H0 (forR (pG g) (b9 Γp n b) (aA ds) Y) X->forL ok (wG K O Ex.E g) (wSs K O Ex.E b) X its U H
|[],its,Y,U,F,H,fp,I,hi,h=>by
 cases hi;exact#[hok H (I.g.f.trans I.g.s),h U F H fp I]
|d::ds,its,Y,U,F,H,fp,I,hi,h=>by
 let#[it,r,rfl,i1,i2]:=hi;have hit:ItF K F d it:=by
  cases it with
  |v x=>exact bx.mono I.g.f d x i1
  |tup xs=>let#[es,q1,q2,q3]:=i1;exact#[es,q1,aM.mono I.g.f es xs q2,q3]
 refine#[hok H (I.g.f.trans I.g.s),Jo I.g.s hit λF1 H1 v g1 r1=>?_];let#[σ2,e1,h]:=BP h;refine ruG' g (I.grow g1) r1 e1 fun σ' fp' I'=>?_;refine hb I' ?_;cases q:b9 Γp n b σ2 with
 |nx σ3=>simp only[q]at h;exact λU F H fp I3=>Qf hok hb ds r I3 i2 h
 |ct σ3=>simp only[q]at h;exact λU F H fp I3=>Qf hok hb ds r I3 i2 h
 |bk σ3=>simp only[q]at h;exact h
 |rt d=>simp only[q]at h;exact h
 |bad=>simp only[q]at h;exact h.elim
end
set_option tactic.hygienic true in
def aeZ[Ex](hΓ:eY K Γp O){fp:Nat->M Addr}(I:bH K F0 H0 Y U F H fp)(lt:dW e=W)(h:cY K F0 H0 (pS Γp n (.aug i e) Y) X):wS K O Ex.E (.aug i e) X U H:=by
 have h:cY K F0 H0 (match Y[i]? with
  |some (L (.int a))=>(pE Γp e Y).bA λd=>Lf i a Y d
  |_=>.bad) X:=h
 split at h
 .rename_i a q;let#[v,h1,h2]:=(I.env [i]).e i (aQ.mpr rfl) (.int a) q;obtain rfl:v=.int a:=h2;refine#[.int a,h1,?_];let#[d,e1,h]:=nS h;unfold Lf at h;split at h
  .rename_i b;refine runD' hΓ I lt e1 λw F1 H1 I1 _ V1=>?_;let#[f0,V1]:=V1 rfl;let#[rfl,_]:=V1.r;exact#[a,b,rfl,rfl,h _ F1 H1 _ (I1.set (kh.VJ (show bx K F1 (.int (a+b)) (.int (a+b))from rfl)) i)]
  .exact h.elim
 .exact h.elim
set_option tactic.hygienic true in
def ae0[Ex]{fp:Nat->M Addr}(I:bH K F0 H0 Y U F H fp)(h:cY K F0 H0 (pS Γp n' (.agi k j n) Y) X):wS K O Ex.E (.agi k j n) X U H:=by
 have h:cY K F0 H0 (HQ k n Y Y[k]? Y[j]?) X:=h;generalize e1:Y[k]?=x,e2:Y[j]?=y at h;rcases x with _|_|x<;>first|exact aC h|skip
 cases x<;>first|exact aC h|skip
 rename_i o xs;cases o<;>first|exact aC h|skip
 rcases y with _|_|y<;>first|exact aC h|skip
 cases y<;>first|exact aC h|skip
 rename_i i;unfold HQ at h;dsimp only at h;cases e3:iU (zl xs) i with
 |none=>rw[e3]at h;exact aC h
 |some p=>
 rw[e3]at h;dsimp only at h;cases e4:xs[p]? with
 |none=>rw[e4]at h;exact aC h
 |some z=>
 rw[e4]at h;cases z<;>first|exact aC h|skip
 rename_i m;let#[a,vs,fs,s1,s2,s3,s4,s5]:=I.lst e1;let#[v,h1,h2]:=(I.env [j]).e j (aQ.mpr rfl) (.int i) e2;obtain rfl:v=.int i:=h2;let#[w,f1,f2,f3,t1,t2,t3,_]:=aN.at p s4 e4;let#[rfl,_]:=t3;have n0:=I.nd k;rw[s5]at n0;have n0:=(bX.mp n0).2;let#[fs',w1,w2,w3]:=aN.set p s4 (show bI K H F (.int (m+n)) (.int (m+n)) []from#[rfl,rfl]) (by rw[d_];exact n0);have w3:∀b∈fs',b∈fs:=λb hb=>(w3 b hb).elim id λz=>aH z aD;let#[fp',I']:=I.BQ (xs:=xs) (xs':=xs.set p (.int (m+n))) (vs:=vs) (vs':=vs.set p (.int (m+n))) (fs:=fs) (fs':=fs') (kh.VJ (d:=.int (m+n)) (show bx K F (.int (m+n)) (.int (m+n))from rfl)) s1 s5 (by rw[jS];exact s3)
  (λh1 _=>aN.mono (bh.refl _) _ _ _ (λb hb=>h1 b (w3 b hb)) w1) w2 (λb hb=>.inl (w3 b hb))
 exact slot_of s1 (slot_of h1 #[a,vs,i,p,m,rfl,s2,rfl,by rw[s4.len];exact e3,t1,h U F _ fp' I'])
def ae1[Ex]{fp:Nat->M Addr}(I:bH K F0 H0 Y U F H fp)(h:cY K F0 H0 (pS Γp n' (.mov i j) Y) X):wS K O Ex.E (.mov i j) X U H:=by
 have h:cY K F0 H0 (Mf i j Y Y[j]?) X:=h;unfold Mf at h;split at h
 .rename_i d e1;let#[v,h1,h2]:=I.rep j d e1;refine slot_of h1 (h _ F H _ ((I.Qa j).set #[h2,I.nd j,I.nf j,I.nh j,λl a ha z=>?_] i));by_cases c:l=j
  .rw[aF c]at z;exact aH z aD
  .rw[aG c]at z;exact c (I.dis l j a z ha)
 .exact h.elim
set_option tactic.hygienic true in
def ae2[Ex]{fp:Nat->M Addr}(I:bH K F0 H0 Y U F H fp)(h:cY K F0 H0 (pS Γp n' (.dfs i nl j k) Y) X):wS K O Ex.E (.dfs i nl j k) X U H:=by
 have h:cY K F0 H0 (HR i nl Y Y[j]? Y[k]?) X:=h;generalize e1:Y[j]?=x,e2:Y[k]?=y at h;rcases x with _|_|x<;>first|exact aC h|skip
 cases x<;>first|exact aC h|skip
 rename_i n;rcases y with _|_|y<;>first|exact aC h|skip
 cases y<;>first|exact aC h|skip
 rename_i o ks xs;unfold HR at h;dsimp only at h;split at h
 .rename_i hc;let#[c1,c2]:=band' hc;let#[v,h1,h2]:=(I.env [j]).e j (aQ.mpr rfl) (.int n) e1;obtain rfl:v=.int n:=h2;let#[w,h3,h4]:=(I.env [k]).e k (aQ.mpr rfl) _ e2;refine#[aE c1,slot_of h1 (slot_of h3 #[n,rfl,aeW (iH I.g.s) h4 c2 ?_])];intro F' H' v f g fr r;have ho:aU (.lst W (HH n ks))=W:=PZ;refine h _ _ _ _ ((I.back g).set (kh.mk (bI.less (pQ g.s ((I.lists _).mono g.h)) _ v f ho r) fr.nd (λa ha=>bh.none (m_ _ _) (fr.nf a ha)) (λa ha=>bh.none I.g.h (fr.nh a ha)) λi a ha hb=>?_) i);let#[o,e,_]:=I.ex i a hb;rw[fr.nh a ha]at e;cases e
 .exact h.elim
set_option tactic.hygienic true in
def Si[Ex](hΓ:eY K Γp O){fp:Nat->M Addr}(hX:∀H',X.nx U H'->ahj.nx U H')(I:bH K F0 H0 Y U F H fp)(lt:dW e=W)(h:cY K F0 H0 (pS Γp n (.sfld g k f e) Y) X):wS K O Ex.E (.sfld g k f e) ahj U H:=by
 let#[d,e1,h]:=nS (show cY K F0 H0 ((pE Γp e Y).bA λd=>C5 Γp[g]? k f (jZ (cK e) (aU d) Y) d) X from h);refine z_ hΓ I lt e1 λv F1 H1 fp1 fv I1 V1=>?_;unfold C5 at h;generalize eg:Γp[g]?=x,ek:(jZ (cK e) (aU d) Y)[k]?=y at h;rcases x with _|x<;>first|exact aC h|skip
 cases x<;>first|exact aC h|skip
 rename_i C as;rcases y with _|_|y<;>first|exact aC h|skip
 cases y<;>first|exact aC h|skip
 rename_i o C' ks xs;cases o<;>first|exact aC h|skip
 dsimp only at h;split at h
 .rename_i hc;let#[c1,c2,c3,c4]:=hc;subst c2;let#[g',e2,e3]:=hΓ.get g eg;cases g'<;>first|exact e3.elim|skip
  let#[rfl,rfl]:=e3;rw[e2];let#[a,dx,vs,fs,s1,s2,s3,s4,s5,s6]:=I1.obj ek;have hl:zl vs<1000:=by rw[<-s4.1,aa]at c4;exact c4
  let#[fp',I']:=I1.fld V1 s1 s2 hl s4 s5 s6 c3;exact#[c1,slot_of s1 #[a,dx,vs,rfl,s2.1,hl,hX _ (h U F1 _ fp' I')]]
 .exact h.elim
mutual
theorem Z3:∀(d:D) {v:V}{f:M Addr},nC d=W->bI K H F d v f->f=[]
|.non,_,_,_,r=>r.2
|.bl _,_,_,_,r=>r.2
|.int _,_,_,_,r=>r.2
|.str _,_,_,_,r=>r.2
|.tup xs,_,_,h,r=>by
 let#[a,vs,_,_,_,r]:=r;exact Aa xs h r
|.lst _ _,_,_,h,_=>nomatch h
|.cW _ _ _,_,_,h,_=>nomatch h
|.bS _ _ _,_,_,h,_=>nomatch h
|.obj _ _ _ _,_,_,h,_=>nomatch h
theorem Aa:∀(ds:M D) {vs:M V}{f:M Addr},jF ds=W->aN K H F ds vs f->f=[]
|[],_,_,_,r=>r.2
|d::ds,_,_,h,r=>by
 let#[v,vr,f1,f2,_,rfl,r1,r2]:=r;have h:(nC d&&jF ds)=W:=h;let#[h1,h2]:=band' h;rw[Z3 d h1 r1,Aa ds h2 r2];rfl
end
theorem VR[Ex](hΓ:eY K Γp O):∀(as:iV) {bs:iV}{e:CE}{Y:br}{U:L2.St}{F H:Hp}{Q:M V->Hp->Prop},nR as=L (bs,e)->kK K F H (gX bs) Y U->bh F H->l6 as=W->(∃ds,gv Γp bs Y=.ok ds)->
 (∀ds F1 H1 vs,gv Γp bs Y=.ok ds->cj F H F1 H1->aM K F1 ds vs->dW e=W->wE K O Ex.E e U H1 λv H2=>Q (vs++[v]) H2)->wEs K O Ex.E as U H Q
|.nil,_,_,_,_,_,_,_,h,_,_,_,_,_=>nomatch h
|.cons a r,bs,e,Y,U,F,H,Q,h,env,s,lt,hd,k=>by
 let#[l1,l2]:=band' lt;have h:(match nR r with
  |some p=>L (iV.cons a p.1,p.2)
  |none=>L (.nil,a))=L (bs,e):=h
 cases er:nR r with
 |none=>
  rw[er]at h;cases h;cases r with
  |nil=>exact k [] F H [] rfl (cj.refl s) rfl l1
  |cons b r=>
   exfalso;have er:(match nR r with
    |some p=>L (iV.cons b p.1,p.2)
    |none=>L (.nil,b))=S:=er
   cases e2:nR r<;>rw[e2]at er<;>cases er
 |some p=>
  rw[er]at h;cases h;let#[ds,hd]:=hd;let#[x,e1,hd]:=cN hd;let#[xs,e2,hd]:=cN hd;refine iJ hΓ a env.l s l1 ?_;rw[e1];intro F1 H1 v f1 g1 fr1 r1;let#[F2,g2,_,rf]:=PM g1 fr1 r1;refine VR hΓ r er (env.r.mono g2) g2.s l2 #[xs,e2] λds' F3 H3 vs e3 g3 rf3 le=>?_;exact k (x::ds') F3 H3 (v::vs) (show((pE Γp a Y).bind λx=>(gv Γp p.1 Y).bind λxs=>.ok (x::xs))=.ok (x::ds')by rw[e1];simp only[R.bind,e3]) (g2.trans g3) #[v,vs,rfl,bx.mono g3.f x v rf,rf3] le
def cj.off(g:cj F0 H0 F H)(hF:F a=S)(h0:H0 a=S):cj F0 H0 F (Bl H a):=
 #[λb o q=>by rw[off_ne λz=>by rw[z,h0]at q;cases q];exact g.h b o q,g.f,λb o q=>by rw[off_ne λz=>by rw[z,hF]at q;cases q];exact g.s b o q,g.n]
def bH.off{fp:Nat->M Addr}(I:bH K F0 H0 Y U F H fp)(ha:∀i,a∉fp i)(hF:F a=S)(h0:H0 a=S):bH K F0 H0 Y U F (Bl H a) fp:=
 #[I.g.off hF h0,I.len,λi d e=>by
  let#[v,e1,r]:=I.rep i d e;exact#[v,e1,bI.mono (bh.refl _) d v _ (λb hb=>off_ne λz=>ha i (z▸hb)) r],λi b hb=>by
  let#[o,e,k]:=I.ex i b hb;have nb:b≠a:=λz=>ha i (z▸hb);exact#[o,by rw[off_ne nb];exact e,k],I.nd,I.nf,I.nh,I.dis]
def Oq(h:H a=L o):H=upd (Bl H a) a o:=by
 funext b;by_cases z:b=a
 .rw[z,bQ];exact h
 .rw[aY z,off_ne z]
set_option tactic.hygienic true in
def ac9[Ex]{Γp:M PG}{O:M G}(hΓ:eY K Γp O){i:Nat}{m:M D->R D}{sp:Sp}{as:iV}{F0 H0 F H:Hp}{Y:br}{U:L2.St}{fp:Nat->M Addr}{X:Ends}(hs:∀vs H Q E,Jd K m vs H Q E->sp vs H Q E)(I:bH K F0 H0 Y U F H fp)(lt:l6 as=W)(h:cY K F0 H0 (EK Γp m i as Y) X):wEs K O Ex.E as U H λvs H1=>sp (vs++[]) H1 (λx H1=>X.nx (U.set i (L x)) H1) Ex.E:=by
 unfold EK at h;cases eu:nR as with
 |none=>rw[eu]at h;exact h.elim
 |some p=>
 let#[bs,e]:=p;rw[eu]at h;cases e<;>first|exact h.elim|skip
 rename_i k;have h:cY K F0 H0 (match Y[k]? with
  |some (L (.lst W es))=>match jF es with
   |true=>(gv Γp bs (Y.set k S)).n_.bA λds=>(m (aA ds++[.lst W es])).kc B λd=>.nx ((kg (gX bs) (Y.set k S)).set i (L d))
   |false=>.bad
  |_=>.bad) X:=h
 split at h
 .rename_i es q;cases ef:jF es with
  |false=>rw[ef]at h;exact h.elim
  |true=>
  rw[ef]at h;let#[ds,e3,h]:=BP h;replace e3:=v5 e3;let#[a,us,fs,s1,s2,s3,s4,s5]:=I.lst q;have hfs:=Aa es ef s4;subst hfs;have hk:a∈fp k:=by rw[s5];exact aB
  have nk:∀j,a∉(if j=k then[]else fp j):=λj z=>by
   by_cases c:j=k
   .rw[aF c]at z;exact aH z aD
   .rw[aG c]at z;exact c (I.dis j k a z hk)
  have Il:=I.Qa k;refine VR hΓ as eu (Il.env (gX bs)) (iH Il.g.s) lt #[ds,e3] λds' F1 H1 vs e3' g1 rf _=>?_;rw[e3]at e3';cases e3';have I2:=Il.iR g1;have hF1:F1 a=S:=by
   let#[o,e,ko]:=I.ex k a hk;cases q:F1 a with
   |none=>rfl
   |some u=>
    refine((g1.n a u q ?_).own e ko).elim;rw[ku λz=>?_]
    .exact I.nf k a hk
    .obtain⟨j,_,hj⟩:=iK.mp z;exact nk j hj
  have hH1:=g1.h a _ s2;have nk2:∀j,a∉(if j∈gX bs then[]else(if j=k then[]else fp j)):=λj z=>by
   by_cases c:j∈gX bs
   .rw[aF c]at z;exact aH z aD
   .rw[aG c]at z;exact nk j z
  have abt:=I2.off nk2 hF1 (I.nh k a hk);show gU U k λv=>sp ((vs++[v])++[]) H1 (λx H1=>X.nx (U.set i (L x)) H1) Ex.E;unfold gU;rw[s1];show sp ((vs++[.ref a])++[]) H1 (λx H1=>X.nx (U.set i (L x)) H1) Ex.E;rw[d_];refine hs _ _ _ _ #[F1,aA ds,vs,Bl H1 a,a,us,es,rfl,Oq hH1,LL,s3,abt.g.s,iI ds,(aM.aA ds vs).mpr rf,aN.mono ((fM I.g.s).trans g1.f) es us [] (λ_ z=>aH z aD) s4,?_];cases em:m (aA ds++[.lst W es])with
  |bad=>rw[em]at h;exact h.elim
  |ok d=>
   rw[em]at h;have h:∀U F H fp,bH K F0 H0 ((kg (gX bs) (Y.set k S)).set i (L d)) U F H fp->X.nx U H:=h;intro F' H' v f' g' fr' r';have J2:=abt.grow g';refine h _ F' H' _ (J2.set #[r',fr'.nd,fr'.nf,λb hb=>bh.none abt.g.h (fr'.nh b hb),λj b hb hc=>?_] i);let#[o,e,_]:=abt.ex j b hc;rw[fr'.nh b hb]at e;cases e
 .exact h.elim
def Z5[Ex]{m:M D->R D}:∀(l:D),cY K F0 H0 (Me m ds l) X->∃es,l=.lst W es/\jF es=W/\cY K F0 H0 ((m (aA ds++[.lst W es])).kc B .rt) X
|.lst W es,h=>by
 have h:cY K F0 H0 (match jF es with
  |true=>(m (aA ds++[.lst W es])).kc B .rt
  |false=>.bad) X:=h
 cases ef:jF es with
 |false=>rw[ef]at h;exact h.elim
 |true=>rw[ef]at h;exact#[es,rfl,ef,h]
|.lst B _,h=>h.elim
|.non,h=>h.elim
|.bl _,h=>h.elim
|.int _,h=>h.elim
|.str _,h=>h.elim
|.tup _,h=>h.elim
|.cW _ _ _,h=>h.elim
|.bS _ _ _,h=>h.elim
|.obj _ _ _ _,h=>h.elim
def ac_[Ex]{Γp:M PG}{O:M G}(hΓ:eY K Γp O){m:M D->R D}{sp:Sp}{as:iV}{F0 H0 F H:Hp}{Y:br}{U:L2.St}{fp:Nat->M Addr}{X:Ends}(hs:∀vs H Q E,Jd K m vs H Q E->sp vs H Q E)(I:bH K F0 H0 Y U F H fp)(lt:l6 as=W)(h:cY K F0 H0 (EL Γp m as Y) X):wEs K O Ex.E as U H λvs H1=>sp (vs++[]) H1 X.rt Ex.E:=by
 unfold EL at h;cases eu:nR as with
 |none=>rw[eu]at h;exact h.elim
 |some p=>
 let#[bs,e]:=p;rw[eu]at h;let#[ds,e3,h]:=BP h;replace e3:=v5 e3;cases e4:pE Γp e (kg (gX bs) Y)with
 |bad=>rw[e4]at h;exact h.elim
 |ok l=>
 rw[e4]at h;refine VR hΓ as eu (I.env (gX bs)) (iH I.g.s) lt #[ds,e3] λds' F1 H1 vs e3' g1 rf le=>?_;rw[e3]at e3';cases e3';have I2:=I.iR g1;refine z_ hΓ I2.rebase le e4 λv F2 H2 fp2 f I3 V=>?_;rw[d_];let#[es,rfl,ef,h]:=Z5 l h
 .have r:=V.r;unfold bI at r;rw[aF rfl]at r;let#[a,us,fs,rfl,s2,s3,s4,rfl]:=r;have hfs:=Aa es ef s4;subst hfs;have hF2:=V.nf a aB;have gg:=((I3.F6 I2.g).g).off hF2 (V.nh a aB);refine hs _ _ _ _ #[F2,aA ds,vs,Bl H2 a,a,us,es,rfl,Oq s2,LL,s3,gg.s,iI ds,(aM.aA ds vs).mpr (aM.mono I3.g.f ds vs rf),s4,?_];cases em:m (aA ds++[.lst W es])with
  |bad=>rw[em]at h;exact h.elim
  |ok d=>
   rw[em]at h;intro F' H' v f' g' fr' r';exact h v F' H' f' (gg.trans g') #[fr'.nd,λb hb=>bh.none gg.h (fr'.nh b hb),fr'.nf] r'
def ae3[Ex](hΓ:eY K Γp O){fp:Nat->M Addr}(hx0:HL K Γp O H0)(I:bH K F0 H0 Y U F H fp)(lt:l6 as=W)(h:cY K F0 H0 (pS Γp n (.acl i g as) Y) X):wS K O Ex.E (.acl i g as) X U H:=by
 have h:cY K F0 H0 (match Γp[g]? with
  |some (.fm m)=>EK Γp m i as Y
  |_=>.bad) X:=h
 cases q:Γp[g]? with
 |none=>rw[q]at h;exact h.elim
 |some p=>
  rw[q]at h;cases p<;>first|exact h.elim|skip
  .rename_i m;let#[g',e1,e2]:=hΓ.get g q;cases g'<;>first|exact e2.elim|skip
   let#[rfl,hs]:=e2;show(match O[g]? with
    |some (.fn sp dvs)=>wEs K O Ex.E as U H λvs H1=>sp (vs++dvs) H1 (λx H1=>wG K O Ex.E (.name i) x U H1 X.nx) Ex.E
    |_=>bu)
   rw[e1];exact ac9 hΓ hs I lt h
mutual
theorem ruS(hΓ:eY K Γp O)[Ex]:∀(c:CS) {F0 H0 F H:Hp}{Y:br}{U:L2.St}{fp:Nat->M Addr}{X:Ends},HL K Γp O H0->bH K F0 H0 Y U F H fp->ltS c=W->cY K F0 H0 (pS Γp n c Y) X->wS K O Ex.E c X U H
|.expr e,F0,H0,F,H,Y,U,fp,X,hx0,I,lt,h=>okX hΓ I lt h
|.asg g e,F0,H0,F,H,Y,U,fp,X,hx0,I,lt,h=>ac7 hΓ I (band' lt).1 (band' lt).2 h
|.aug i e,F0,H0,F,H,Y,U,fp,X,hx0,I,lt,h=>aeZ hΓ I lt h
|.agi k j n,F0,H0,F,H,Y,U,fp,X,hx0,I,lt,h=>ae0 I h
|.dfs i nl j k,F0,H0,F,H,Y,U,fp,X,hx0,I,lt,h=>ae2 I h
|.mov i j,F0,H0,F,H,Y,U,fp,X,hx0,I,lt,h=>ae1 I h
|.rite c a b,F0,H0,F,H,Y,U,fp,X,hx0,I,lt,h=>by
 let#[l1,l2]:=band' (show(dW c&&(dW a&&dW b))=W from lt);let#[l2,l3]:=band' l2;let#[k,e1,h]:=nS (show cY K F0 H0 ((pT Γp c Y).bA λk=>if k=W then(pM Γp a Y).bA .rt else(pM Γp b Y).bA .rt) X from h);refine VM hΓ I l1 e1 λF1 H1 I1=>?_;cases k with
 |true=>exact Qd hΓ I1 l2 h
 |false=>exact Qd hΓ I1 l3 h
|.acl i g as,F0,H0,F,H,Y,U,fp,X,hx0,I,lt,h=>ae3 (n:=n) hΓ hx0 I lt h
|.sfld g k f e,F0,H0,F,H,Y,U,fp,X,hx0,I,lt,h=>Si (X:=X) hΓ (λ_ q=>q) I lt h
|.casg i e,F0,H0,F,H,Y,U,fp,X,hx0,I,lt,h=>by
 let#[d,e1,h]:=nS (show cY K F0 H0 ((pE Γp e Y).bA λd=>.nx ((jZ (cK e) (aU d) Y).set i (L d))) X from h);exact z_ hΓ I lt e1 λv F1 H1 fp1 f I1 V1=>h _ F1 H1 _ (I1.set V1 i)
|.tasg g e,F0,H0,F,H,Y,U,fp,X,hx0,I,lt,h=>ac7 hΓ I (band' lt).1 (band' lt).2 h
|.ret e,F0,H0,F,H,Y,U,fp,X,hx0,I,lt,h=>Qd hΓ I lt h
|.rcl g as,F0,H0,F,H,Y,U,fp,X,hx0,I,lt,h=>by
 have h:cY K F0 H0 (match Γp[g]? with
  |some (.fm m)=>EL Γp m as Y
  |_=>.bad) X:=h
 cases q:Γp[g]? with
 |none=>rw[q]at h;exact h.elim
 |some p=>
  rw[q]at h;cases p<;>first|exact h.elim|skip
  rename_i m;let#[g',e1,e2]:=hΓ.get g q;cases g'<;>first|exact e2.elim|skip
  let#[rfl,hs]:=e2;show(match O[g]? with
   |some (.fn sp dvs)=>wEs K O Ex.E as U H λvs H1=>sp (vs++dvs) H1 X.rt Ex.E
   |_=>bu)
  rw[e1];exact ac_ hΓ hs I lt h
|.ifs c a b,F0,H0,F,H,Y,U,fp,X,hx0,I,lt,h=>by
 let#[l1,l2]:=band' (show(dW c&&(oh a&&oh b))=W from lt);let#[l2,l3]:=band' l2;let#[k,e1,h]:=nS (show cY K F0 H0 ((pT Γp c Y).bA λk=>if k=W then b9 Γp n a Y else b9 Γp n b Y) X from h);refine VM hΓ I l1 e1 λF1 H1 I1=>?_;cases k with
 |true=>exact EN hΓ a hx0 I1 l2 h
 |false=>exact EN hΓ b hx0 I1 l3 h
|.whil c b,F0,H0,F,H,Y,U,fp,X,hx0,I,lt,h=>by
 let#[l1,l2]:=band' (show(dW c&&oh b)=W from lt);refine#[λm U H=>∃Y F fp,bH K F0 H0 Y U F H fp/\cY K F0 H0 (vn (pT Γp c) (b9 Γp n b) m Y) X,#[n,Y,F,fp,I,h],?_];rintro m U H ⟨Y,F,fp,I,h⟩;cases m with
 |zero=>exact h.elim
 |succ m=>
  let#[k,e1,h]:=nS (show cY K F0 H0 ((pT Γp c Y).bA λk=>if k=W then match b9 Γp n b Y with
   |.nx σ3=>vn (pT Γp c) (b9 Γp n b) m σ3
   |.ct σ3=>vn (pT Γp c) (b9 Γp n b) m σ3
   |.bk σ3=>.nx σ3
   |.rt d=>.rt d
   |.bad=>.bad
   else .nx Y) X from h)
  refine VM hΓ I l1 e1 λF1 H1 I1=>?_;cases k with
  |false=>
   rw[aG bU]at h;rw[aG bU];exact h U F1 H1 fp I1
  |true=>
   rw[aF rfl]at h;rw[aF rfl];refine#[λU H=>∃Y F fp,bH K F0 H0 Y U F H fp/\cY K F0 H0 (vn (pT Γp c) (b9 Γp n b) m Y) X,fun σ' H' z=>#[m,iE m,z],?_];refine EN (n:=n) hΓ b hx0 I1 l2 ?_;cases q:b9 Γp n b Y with
   |nx σ3=>simp only[q]at h;exact λU F H fp I3=>#[σ3,F,fp,I3,h]
   |ct σ3=>simp only[q]at h;exact λU F H fp I3=>#[σ3,F,fp,I3,h]
   |bk σ3=>simp only[q]at h;exact h
   |rt d=>simp only[q]at h;exact h
   |bad=>simp only[q]at h;exact h.elim
|.forr g src b,F0,H0,F,H,Y,U,fp,X,hx0,I,lt,h=>by
 let#[l1,l2]:=band' (show(ltI src&&oh b)=W from lt);let#[items,e1,h]:=nS (show cY K F0 H0 ((pI Γp src Y).bA λitems=>forR (pG g) (b9 Γp n b) items.2 (jZ (wB src) items.1 Y)) X from h);refine ruI hΓ src (ownAt fp (wB src)) (I.env (wB src)) (iH I.g.s) (I.lists _) l1 ?_;rw[e1];intro F' H' ok its g1 hok hi hl;obtain⟨fp',I'⟩:∃fp',bH K F0 H0 (jZ (wB src) items.1 Y) U (vQ items.1 F' (ownAt fp (wB src))) H' fp':=by
  cases items.1 with
  |true=>exact#[fp,I.back g1]
  |false=>exact#[_,I.iR g1]
 have hf:aA items.2=items.2:=ac8 e1;have h:=cY.rebase I'.g h;rw[<-hf]at h;exact Qf hok (λI3 h3=>EN hΓ b hx0 I3 l2 h3) items.2 its I'.rebase hi h
|.brk,F0,H0,F,H,Y,U,fp,X,hx0,I,lt,h=>h U F H fp I
|.cont,F0,H0,F,H,Y,U,fp,X,hx0,I,lt,h=>h U F H fp I
|.never,F0,H0,F,H,Y,U,fp,X,hx0,I,lt,h=>h.elim
theorem EN(hΓ:eY K Γp O)[Ex]:∀(c:cF) {F0 H0 F H:Hp}{Y:br}{U:L2.St}{fp:Nat->M Addr}{X:Ends},HL K Γp O H0->bH K F0 H0 Y U F H fp->oh c=W->cY K F0 H0 (b9 Γp n c Y) X->wSs K O Ex.E c X U H
|.nil,F0,H0,F,H,Y,U,fp,X,hx0,I,lt,h=>h U F H fp I
|.cons s r,F0,H0,F,H,Y,U,fp,X,hx0,I,lt,h=>by
 let#[l1,l2]:=band' (show(ltS s&&oh r)=W from lt);have h:cY K F0 H0 (match pS Γp n s Y with|.nx σ'=>b9 Γp n r σ'|x=>x) X:=h;refine ruS (n:=n) hΓ s hx0 I l1 ?_;cases q:pS Γp n s Y with
 |nx σ'=>simp only[q]at h;exact λU F H fp I'=>EN hΓ r hx0 I' l2 h
 |bk σ'=>simp only[q]at h;exact h
 |ct σ'=>simp only[q]at h;exact h
 |rt d=>simp only[q]at h;exact h
 |bad=>simp only[q]at h;exact h.elim
end
def Z6[Ex]{K:ak}{Γp:M PG}{O:M G}(hΓ:eY K Γp O)(hx0:∀H0,HL K Γp O H0){n:Nat}{N:M Str}{c:cF}(lt:oh c=W){m:M D->R D}{vs:M V}{H:Hp}{Q:VK}(hm:∀ds,m ds≠.bad->zl ds<=zl N/\BO Γp n N c ds=m ds)(h:∃F ds,bh F H/\aA ds=ds/\aM K F ds vs/\PV K F H (m ds) Q):wSs K O Ex.E c { nx:=λ_ H'=>Q .non H',rt:=Q } (vs.map L++aR (zl N-zl vs) S) H:=by
 let#[F,ds,s,hz,r,h]:=h;have hb:m ds≠.bad:=λz=>by rw[z]at h;exact h
 let#[hl,hr]:=hm ds hb;rw[<-hr]at h;have I:bH K F H (jG N ds) (vs.map L++aR (zl N-zl vs) S) F H (λ_=>[]):=by
  refine#[cj.refl s,?_,λi d' q=>?_,λ_ _ ha=>aH ha aD,λ_=>gA,λ_ _ ha=>aH ha aD,λ_ _ ha=>aH ha aD,λ_ _ _ ha=>aH ha aD]
  .unfold jG;simp[r.len]
  .unfold jG at q;by_cases hi:i<zl ds
   .rw[cI (by simpa using hi),bg]at q;cases z:ds[i]? with
    |none=>rw[z]at q;cases q
    |some d2=>
     rw[z]at q;cases q;let#[v,e1,e2]:=r.get i z;have hf:bq d'=d':=by
      have:∀(l:M D) (i:Nat) (x:D),aA l=l->l[i]?=L x->bq x=x:=by
       intro l;induction l with
       |nil=>intro i x _ h;simp at h
       |cons y l ih=>
        intro i x h1 h2;injection h1 with h3 h4;cases i with
        |zero=>simp at h2;subst h2;exact h3
        |succ i=>exact ih i x h4 (by simpa using h2)
      exact this ds i d' hz z
     refine#[v,?_,?_]
     .rw[cI (by simp[r.len,hi]),bg,e1];rfl
     .have:=bx.wA (H:=H) d' v e2;rw[hf]at this;exact this
   .rw[dJ (by simpa using hi)]at q;rw[lA]at q;split at q<;>cases q
 refine EN (n:=n) hΓ c (hx0 _) I lt ?_;unfold BO at h;cases q:b9 Γp n c (jG N ds)with
 |nx U=>rw[q]at h;exact λU F' H' fp I'=>h F' H' .non [] I'.g .nil #[rfl,rfl]
 |rt d'=>rw[q]at h;exact λv F' H' f g fr rx=>h F' H' v f g fr rx
 |bk U=>rw[q]at h;exact h.elim
 |ct U=>rw[q]at h;exact h.elim
 |bad=>rw[q]at h;exact h.elim
def Sj{abk:M D}{i:Nat}{d:D}(q:(jG N abk)[i]?=L (L d)):abk[i]?=L d:=by
 unfold jG at q;by_cases hi:i<zl abk
 .rw[cI (by simpa using hi),bg]at q;cases z:abk[i]? with
  |none=>rw[z]at q;cases q
  |some d2=>rw[z]at q;cases q;rfl
 .rw[dJ (by simpa using hi),lA]at q;split at q<;>cases q
def F7{vs:M V}{k i:Nat}{v:V}(h:vs[i]?=L v):(vs.map L++aR k S)[i]?=L (L v):=by
 have hi:=(bN.mp h).1;rw[cI (by simp_all),bg,h];rfl
theorem Ot:∀(l:M D) (i:Nat) (x:D),aA l=l->l[i]?=L x->bq x=x
|[],i,x,_,h=>by simp at h
|y::l,i,x,h1,h2=>by
 injection h1 with h3 h4;cases i with
 |zero=>simp at h2;subst h2;exact h3
 |succ i=>exact Ot l i x h4 (by simpa using h2)
def Z7[Ex]{K:ak}{Γp:M PG}{O:M G}(hΓ:eY K Γp O)(hx0:∀H0,HL K Γp O H0){n:Nat}{N:M Str}{c:cF}(lt:oh c=W){m:M D->R D}{vs:M V}{H:Hp}{Q:VK}(hm:∀ds,m ds≠.bad->zl ds<=zl N/\BO Γp n N c ds=m ds)(h:Jd K m vs H Q Ex.E):wSs K O Ex.E c { nx:=λ_ H'=>Q .non H',rt:=Q } (vs.map L++aR (zl N-zl vs) S) H:=by
 let#[F,ds,vr,H0,a,us,es,rfl,rfl,h0,hu,s,hz,r,rx,h]:=h;have hb:m (ds++[.lst W es])≠.bad:=λz=>by rw[z]at h;exact h
 let#[hl,hr]:=hm _ hb;rw[<-hr]at h;have hF:=bh.none s h0;have hfp:∀i b,b∈(if i=zl ds then[a]else[])->i=zl ds/\b=a:=λi b hb=>by grind
 have sH:bh H0 (upd H0 a (.lst us)):=λb u q=>by rw[aY (bZ q h0)];exact q
 have I:bH K F H0 (jG N (ds++[.lst W es])) ((vr++[V.ref a]).map L++aR (zl N-zl (vr++[V.ref a])) S) F (upd H0 a (.lst us)) (λi=>if i=zl ds then[a]else[]):=by
  refine#[#[sH,bh.refl _,λb u q=>sH b u (s b u q),λb o h h'=>by rw[h]at h';cases h'],?_,λi d' q=>?_,λi b hb=>?_,λi=>?_,λi b hb=>?_,λi b hb=>?_,λi j b hb hc=>?_]
  .unfold jG;simp[r.len]
  .have q:=Sj q;by_cases hi:i<zl ds
   .rw[cI hi]at q;let#[v,e1,e2]:=r.get i q;refine#[v,F7 (by rw[cI (by rw[r.len];exact hi)];exact e1),?_];rw[aG (bG hi)];have:=bx.wA (H:=upd H0 a (.lst us)) d' v e2;rw[Ot ds i d' hz q]at this;exact this
   .rw[dJ (Q3.mp hi)]at q;have hi2:i=zl ds:=by
     by_cases z:i-zl ds=0
     .lia
     .rw[List.getElem?_singleton,aG z]at q;cases q
    subst hi2;rw[pH]at q;cases q;refine#[.ref a,F7 (by rw[dJ (by rw[r.len];exact aK _),r.len,pH];rfl),?_];rw[aF rfl];unfold bI;rw[aF rfl];exact#[a,us,[],rfl,bQ,hu,rx,rfl]
  .obtain⟨_,rfl⟩:=hfp i b hb;exact#[_,bQ,trivial]
  .by_cases z:i=zl ds
   .rw[aF z];simp
   .rw[aG z];exact gA
  .obtain⟨_,rfl⟩:=hfp i b hb;exact hF
  .obtain⟨_,rfl⟩:=hfp i b hb;exact h0
  .rw[(hfp i b hb).1,(hfp j b hc).1]
 refine EN (n:=n) hΓ c (hx0 _) I lt ?_;unfold BO at h;cases q:b9 Γp n c (jG N (ds++[.lst W es]))with
 |nx U=>rw[q]at h;exact λU F' H' fp I'=>h F' H' .non [] I'.g .nil #[rfl,rfl]
 |rt d'=>rw[q]at h;exact λv F' H' f g fr rx=>h F' H' v f g fr rx
 |bk U=>rw[q]at h;exact h.elim
 |ct U=>rw[q]at h;exact h.elim
 |bad=>rw[q]at h;exact h.elim
def C6(K:ak)(mg:Str->abM Z)(x:Str)(st:Stmt)(ps:M Str):Prop:=
 ∃(f:Addr) (fd:fc),vF K x x st f fd/\mg x=L (.ref f)/\Binds K fd ps []
def C6.has{mg:Str->abM Z}(D:C6 K mg x st ps)(hok:∀f fd,vF K x x st f fd->g_ P w K mg base (mw P w) k f fd ps sp):EH P w K mg base k x (.fn sp []):=by
 let#[f,fd,F,hm,hb]:=D;exact .inl #[f,fd,ps,[],hok f fd F,hm,F.kp,hb,.nil]
def eW(Γp:M PG)(n:Nat)(N:M Str)(k:Nat)(c:cF)(ds:M D):R D:=if zl ds=k then BO Γp n N c ds else .bad
def Mj(Γp:M PG):Prop:=∀m,PG.fe m∉Γp
def Mj.hd(h:Mj Γp)(H0:Hp):HL K Γp O H0:=λ_ m z=>aH (fT z) (h m)
def VS(O:M G):Prop:=∀Pa,G.lam Pa∉O
def VS.hl{mg:Str->abM Z}(h:VS O)(i:Nat)(Pa:Addr)(e:O[i]?=L (.lam Pa)):HE K mg fd Pa:=aH (fT e) (h Pa)
section
variable{P:bO}{w:bL}{K:ak}{mg:Str->abM Z}{base:Heap}
def YD(c:cF)(F:vF K x qual st f fd)(abr:rT N ps (dh st))(hc:sV #[N,dh st,gl,bn,(λ_=>W),W,B] c (iG st)=W)(hg:z0 P w K mg base k gl O)(hΓ:eY K Γp O)(nf:Mj Γp)(hl:∀(i:Nat) Pa,O[i]?=L (.lam Pa)->HE K mg fd Pa)(lt:oh c=W)(hb:∀x∈bn,mg x=S)(hN:zl ps<=zl N):g_ P w K mg base (mw P w) (k+1) f fd ps (yZ K (eW Γp n N (zl ps) c)):=by
 have hm:∀ds,eW Γp n N (zl ps) c ds≠.bad->zl ds=zl ps/\BO Γp n N c ds=eW Γp n N (zl ps) c ds:=by
  intro ds h;unfold eW at h ⊢;by_cases e:zl ds=zl ps
  .rw[aF e];exact#[e,rfl]
  .rw[aG e]at h;exact aH rfl h
 refine LV c F abr hc hg hl hb ?_ ?_
 .rintro vs H Q E ⟨Fh,ds,s,hz,r,h⟩;rw[r.len];exact(hm ds λz=>by rw[z]at h;exact h).1
 .intro vs H Q E h;exact@Z6 ⟨E⟩ K Γp O hΓ nf.hd n N c lt _ vs H Q (λds e=>#[by rw[(hm ds e).1];exact hN,(hm ds e).2]) h
def ae4(c:cF)(F:vF K x qual st f fd)(abr:rT N ps (dh st))(hc:sV #[N,dh st,gl,bn,(λ_=>W),W,B] c (iG st)=W)(hg:z0 P w K mg base k gl O)(hΓ:eY K Γp O)(nf:Mj Γp)(hl:∀(i:Nat) Pa,O[i]?=L (.lam Pa)->HE K mg fd Pa)(lt:oh c=W)(hb:∀x∈bn,mg x=S)(hN:zl ps<=zl N):g_ P w K mg base (mw P w) (k+1) f fd ps (Jd K (eW Γp n N (zl ps) c)):=by
 have hm:∀ds,eW Γp n N (zl ps) c ds≠.bad->zl ds=zl ps/\BO Γp n N c ds=eW Γp n N (zl ps) c ds:=by
  intro ds h;unfold eW at h ⊢;by_cases e:zl ds=zl ps
  .rw[aF e];exact#[e,rfl]
  .rw[aG e]at h;exact aH rfl h
 refine LV c F abr hc hg hl hb ?_ ?_
 .rintro vs H Q E ⟨Fh,ds,vr,H0,a,us,es,rfl,-,-,-,s,hz,r,rx,h⟩;rw[bf,r.len,<-(hm _ λz=>by rw[z]at h;exact h).1,bf];rfl
 .intro vs H Q E h;exact@Z7 ⟨E⟩ K Γp O hΓ nf.hd n N c lt _ vs H Q (λds e=>#[by rw[(hm ds e).1];exact hN,(hm ds e).2]) h
end
noncomputable def KH:cF->Bool
|.nil=>W
|.cons (.sfld _ _ _ _) r=>KH r
|_=>B
noncomputable def ada(o:abM (abM D)):R D:=match o with
|some (L (.obj W C ks xs))=>.ok (.obj W C ks xs)
|_=>.bad
def Qg(fl:Fl):R D:=match fl with
|.nx U=>ada U[0]?
|_=>.bad
def EO(Γp:M PG)(n:Nat)(N:M Str)(k:Nat)(C:Addr)(c:cF)(ds:M D):R D:=if zl ds+1=k then Qg (b9 Γp n c (jG N (.obj W C [] []::ds)))else .bad
def spO(K:ak)(C:Addr)(m:M D->R D):Sp:=λvs H Q E=>∃x dx vr H0 Q0,vs=.ref x::vr/\H=upd (upd H0 dx (.own x)) x (.ins C dx [])/\H0 x=S/\H0 dx=S/\dx≠x/\yZ K m vr H0 Q0 E/\∀H2,Q0 (.ref x) H2->Q .non H2
def ade{m:M D->R D}:Vp C (spO K C m) (yZ K m):=λvs H Q _ h x dx h1 h2 h3=>#[x,dx,vs,H,Q,rfl,rfl,h1,h2,h3,h,λ_ q=>#[rfl,q]]
set_option tactic.hygienic true in
theorem YE[Ex](hΓ:eY K Γp O):∀(c:cF) {F H:Hp}{Y:br}{fp:Nat->M Addr},KH c=W->bH K F0 H0 Y U F H fp->oh c=W->cY K F0 H0 (b9 Γp n c Y) { X with nx:=fun σ' H'=>σ'=U->X.nx σ' H' }->wSs K O Ex.E c X U H
|.nil,F,H,Y,fp,_,I,_,h=>h U F H fp I rfl
|.cons s r,F,H,Y,fp,o,I,lt,h=>by
 cases s<;>first|cases o|skip
 rename_i g k f e;let#[l1,l2]:=nL.mp lt;have h:cY K F0 H0 (match pS Γp n (.sfld g k f e) Y with|.nx σ'=>b9 Γp n r σ'|x=>x) { X with nx:=fun σ' H'=>σ'=U->X.nx σ' H' }:=h;refine Si (n:=n) (X:={ X with nx:=fun σ' H'=>σ'=U->wSs K O Ex.E r X σ' H' }) hΓ (λ_ q=>q rfl) I l1 ?_;cases q:pS Γp n (.sfld g k f e) Y with
 |nx σ'=>rw[q]at h;exact fun σ1 F1 H1 fp1 I1 e1=>by subst e1;exact YE hΓ r o I1 l2 h
 |ct σ'=>rw[q]at h;exact h
 |bk σ'=>rw[q]at h;exact h
 |rt d=>rw[q]at h;exact h
 |bad=>rw[q]at h;exact h.elim
theorem Ml:∀(l:M D) (i:Nat) (x:D),aA l=l->l[i]?=L x->bq x=x
|[],i,x,_,h=>by simp at h
|y::l,i,x,h1,h2=>by
 injection h1 with h3 h4;cases i with
 |zero=>simp at h2;subst h2;exact h3
 |succ i=>exact Ml l i x h4 (by simpa using h2)
section
variable{P:bO}{w:bL}{K:ak}{mg:Str->abM Z}{base:Heap}
set_option tactic.hygienic true in
def VT(c:cF)(F:vF K x qual st f fd)(abr:rT N ps (dh st))(hc:sV #[N,dh st,gl,bn,(λ_=>W),W,B] c (iG st)=W)(hg:z0 P w K mg base k gl O)(hΓ:eY K Γp O)(hl:∀(i:Nat) Pa,O[i]?=L (.lam Pa)->HE K mg fd Pa)(lt:oh c=W)(ho:KH c=W)(hb:∀x∈bn,mg x=S)(hN:zl ps<=zl N):g_ P w K mg base (mw P w) (k+1) f fd ps (spO K C (EO Γp n N (zl ps) C c)):=by
 have hm:∀ds,EO Γp n N (zl ps) C c ds≠.bad->zl ds+1=zl ps/\Qg (b9 Γp n c (jG N (.obj W C [] []::ds)))=EO Γp n N (zl ps) C c ds:=by
  intro ds h;unfold EO at h ⊢;by_cases e:zl ds+1=zl ps
  .rw[aF e];exact#[e,rfl]
  .rw[aG e]at h;exact aH rfl h
 refine LV c F abr hc hg hl hb ?_ ?_
 .rintro vs H Q E ⟨y,dy,vr,H0,Q0,rfl,-,-,-,-,⟨Fh,ds,s,hz,r,h⟩,-⟩;rw[cL,r.len];exact(hm ds λz=>by rw[z]at h;exact h).1
 .rintro vs H Q E ⟨y,dy,vr,H0,Q0,rfl,rfl,n1,n2,n3,⟨Fh,ds,s,hz,r,h⟩,hq⟩;have hbd:EO Γp n N (zl ps) C c ds≠.bad:=λz=>by rw[z]at h;exact h
  let#[hl,hr]:=hm ds hbd;rw[<-hr]at h;have f1:=bh.none s n1;have f2:=bh.none s n2;have sH:bh H0 (upd (upd H0 dy (.own y)) y (.ins C dy [])):=λb u q=>by rw[aY (bZ q n1),aY (bZ q n2)];exact q
  have hy:upd (upd H0 dy (.own y)) y (.ins C dy []) y=L (.ins C dy []):=bQ;have hdy:upd (upd H0 dy (.own y)) y (.ins C dy []) dy=L (.own y):=by rw[aY n3];exact bQ
  have hfp:∀i a,a∈(if i=0 then[y,dy]else[])->i=0/\(a=y\/a=dy):=λi a ha=>by grind
  have I:bH K Fh H0 (jG N (.obj W C [] []::ds)) (start N (.ref y::vr)) Fh (upd (upd H0 dy (.own y)) y (.ins C dy [])) (λi=>if i=0 then[y,dy]else[]):=by
   refine#[#[sH,bh.refl _,λb u q=>sH b u (s b u q),λb o h h'=>by rw[h]at h';cases h'],?_,λi d' q=>?_,λi a ha=>?_,λi=>?_,λi a ha=>?_,λi a ha=>?_,λi j a ha hb=>?_]
   .unfold jG L2.start;simp[r.len]
   .cases i with
    |zero=>
     obtain rfl:D.obj W C [] []=d':=by
      have q:L (L (D.obj W C [] []))=L (L d'):=q;injection q with q;injection q
     refine#[.ref y,rfl,?_];unfold bI;rw[aF rfl];exact#[y,dy,[],[],rfl,#[hy,hdy],by simp,#[rfl,gA],#[rfl,rfl],rfl]
    |succ i=>
     unfold jG at q;by_cases hi:i<zl ds
     .have q:(ds.map L++aR (zl N-(zl ds+1)) S)[i]?=L (L d'):=q;rw[cI (by simpa using hi),bg]at q;cases z:ds[i]? with
      |none=>rw[z]at q;cases q
      |some d2=>
       rw[z]at q;cases q;let#[v,e1,e2]:=r.get i z;refine#[v,?_,?_]
       .show(vr.map L++aR (zl N-(zl vr+1)) S)[i]?=L (L v);rw[cI (by simp[r.len,hi]),bg,e1];rfl
       .have:=bx.wA (H:=upd (upd H0 dy (.own y)) y (.ins C dy [])) d' v e2;rw[Ml ds i d' hz z]at this;exact this
     .have q:(ds.map L++aR (zl N-(zl ds+1)) S)[i]?=L (L d'):=q;rw[dJ (by simpa using hi),lA]at q;split at q<;>cases q
   .obtain⟨-,rfl|rfl⟩:=hfp i a ha
    .exact#[_,hy,trivial]
    .exact#[_,hdy,trivial]
   .grind
   .obtain⟨-,rfl|rfl⟩:=hfp i a ha
    .exact f1
    .exact f2
   .obtain⟨-,rfl|rfl⟩:=hfp i a ha
    .exact n1
    .exact n2
   .rw[(hfp i a ha).1,(hfp j a hb).1]
  letI:Ex:=⟨E⟩
  refine YE (n:=n) hΓ c ho I lt ?_;unfold Qg at h;cases q:b9 Γp n c (jG N (.obj W C [] []::ds))with
  |nx σ'=>
   rw[q]at h;intro U F' H' fp I' e;subst e;have h:PV K Fh H0 (ada σ'[0]?) Q0:=h;cases e2:σ'[0]? with
   |none=>rw[e2]at h;exact h.elim
   |some o=>
    cases o with
    |none=>rw[e2]at h;exact h.elim
    |some d'=>
     rw[e2]at h;cases d'<;>first|exact h.elim|skip
     rename_i o C' ks xs;cases o with
     |false=>exact h.elim
     |true=>
      let#[v,e3,e4]:=I'.rep 0 _ e2;obtain rfl:V.ref y=v:=by
       have e3:L (L (V.ref y))=L (L v):=e3;injection e3 with e3;injection e3
      exact hq H' (h F' H' (.ref y) (fp 0) I'.g #[I'.nd 0,I'.nh 0,I'.nf 0] e4)
  |rt d'=>rw[q]at h;exact h.elim
  |bk U=>rw[q]at h;exact h.elim
  |ct U=>rw[q]at h;exact h.elim
  |bad=>rw[q]at h;exact h.elim
def Z8{m:M D->R D}(hm:mg x=L (.ref C))(abl:Mk K C f)(hb:Binds K fd ps [])(h:g_ P w K mg base (mw P w) k f fd ps (spO K C m)):EH P w K mg base (k+1) x (.fn (yZ K m) []):=
 .inr #[rfl,C,k,f,fd,ps,_,aK _,h,hm,abl,hb,ade]
end
noncomputable def VU:Z->Bool
|.type n=>n=="list"
|_=>B
def ae5(nk:(K.all λp=>!VU p.2.cls)=W)(h:jh K H a xs):Rd H a (.lst xs):=by
 rcases h with h|⟨o,its,n,hk,hc,_⟩
 .exact h
 .exfalso;have hm:∀(K:ak),K.lookup a=L o->(a,o)∈K:=by
   intro K;induction K with
   |nil=>intro z;cases z
   |cons p r ih=>
    intro z;let#[b,u]:=p;rw[dB]at z;split at z
    .rename_i e;have e:=eq_of_beq e;cases z;subst e;exact aB
    .exact ao _ (ih z)
  have q:=bz.mp nk _ (hm K hk);rw[hc]at q;exact aH q (by decide)
noncomputable def bB(ns:M J):D:=.lst B (ns.map D.int)
theorem Jz:∀ns:M J,aM K H (ns.map D.int) (ns.map V.int)
|[]=>rfl
|n::r=>#[_,_,rfl,rfl,Jz r]
theorem JA:∀ns:M J,aA (ns.map D.int)=ns.map D.int
|[]=>rfl
|n::r=>by show D.int n::aA (r.map D.int)=_;rw[JA r];rfl
def adf{mg:Str->abM Z}{m:M D->R D}(F:g_ P w K mg base (mw P w) k f fd ps (yZ K m))(h:∀ns:M J,zl ns<=63->m [bB ns]=.ok (.bl W)):g_ P w K mg base RD k f fd ps (λvs H Q E=>∃(a:Addr) (ns:M J),vs=[.ref a]/\Rd H a (.lst (ns.map V.int))/\zl ns<=63/\∀H',Q (.bl W) H'):=by
 refine(L3.g_.calm F).imp ?_;rintro vs H Q E ⟨a,ns,rfl,hS,hl,q⟩;have hs:=szl;refine#[H,[bB ns],bh.refl H,?_,#[_,_,rfl,#[a,ns.map V.int,rfl,hS,by rw[aa];lia,Jz ns],rfl],?_]
 .show[D.lst B (aA (ns.map D.int))]=_;rw[JA];rfl
 .rw[h ns hl];intro F' H' v fp g fr r;let#[rfl,_]:=r;exact q H'
theorem o8{α β:Type}{a:α}{f:α->R β}:(R.ok a).bind f=f a:=rfl
theorem pq_thn_ok'{α:Type}{a:α}{f:α->Fl}:(R.ok a).bA f=f a:=rfl
theorem pq_thnL_ok'{α:Type}{b:Bool}{a:α}{f:α->Fl}:(R.ok a).kc b f=f a:=rfl
theorem JB{α:Type}{a:α}:(R.ok a).n_=R.ok a:=rfl
theorem Z9:wK (L (L (.lst W xs)))=W:=rfl
theorem yz{α:Type}{a:α}:R.opt (L a)=R.ok a:=rfl
theorem VV{α:Type}{r:R α}:R.bV W r=r:=rfl
def Sk{α:Type}{r:R α}(h:n<=aj):R.bV (decide (n<=aj)) r=r:=by
 rw[a_ h];rfl
theorem VW:nA .Add (.int i) (.int j)=.ok (.int (i+j)):=rfl
theorem VX:nA .Sub (.int i) (.int j)=.ok (.int (i-j)):=rfl
def VY(h:rC i j):nA .Mult (.int i) (.int j)=.ok (.int (i*j)):=by
 show R.bV (decide (rC i j)) _=_;rw[a_ h];rfl
def VZ(h:vf i j):nA .FloorDiv (.int i) (.int j)=.ok (.int (i / j)):=by
 show R.bV (decide (vf i j)) _=_;rw[a_ h];rfl
def V3(h:0<j):nA .Mod (.int i) (.int j)=.ok (.int (i%j)):=by
 show R.bV (decide (0<j)) _=_;rw[a_ h];rfl
def V4(h:wg i j):nA .Pow (.int i) (.int j)=.ok (.int (i ^ j.toNat)):=by
 show R.bV (decide (wg i j)) _=_;rw[a_ h];rfl
def V5(h:x.length+y.length<=aj):nA .Add (.str x) (.str y)=.ok (.str (x++y)):=by
 show R.bV (decide (x.length+y.length<=aj)) _=_;rw[a_ h];rfl
def V6(h:0<=j/\j<2 ^ 40/\x.length*j.toNat<=aj):nA .Mult (.str x) (.int j)=.ok (.str (yY x j.toNat)):=by
 show R.bV (decide (0<=j/\j<2 ^ 40/\x.length*j.toNat<=aj)) _=_;rw[a_ h];rfl
def uX(h:zl xs+zl ys<=aj):nA .Add (.lst o xs) (.lst o' ys)=.ok (.lst W (aA xs++aA ys)):=by
 show R.bV (decide (zl xs+zl ys<=aj)) _=_;rw[a_ h];rfl
theorem Z_:gE .Lt (.int i) (.int j)=.ok (.bl (decide (i<j))):=rfl
theorem aaa:gE .Gt (.int i) (.int j)=.ok (.bl (decide (j<i))):=rfl
theorem Sl:gE .Eq (.int i) (.int j)=.ok (.bl (i==j)):=rfl
theorem Sm:gE .NotEq (.int i) (.int j)=.ok (.bl (!(i==j))):=rfl
theorem Sn:gE .Eq (.str x) (.str y)=.ok (.bl (x==y)):=rfl
theorem So:gE .NotEq (.str x) (.str y)=.ok (.bl (!(x==y))):=rfl
theorem aab:gE .Is x .non=.ok (.bl (dm x)):=rfl
theorem Qh:gE .IsNot x .non=.ok (.bl (!dm x)):=rfl
def y_(h:dP x=W)(h':dP y=W):gE .Eq x y=.ok (.bl (gT x y)):=by
 show R.bV (dP x&&dP y) _=_;rw[h,h'];rfl
def HU(h:dP x=W)(h':dP y=W):gE .NotEq x y=.ok (.bl (!gT x y)):=by
 show R.bV (dP x&&dP y) _=_;rw[h,h'];rfl
def ER(h:dP x=W)(h':jw ys=W):gE .In x (.lst o ys)=.ok (.bl (memD x ys)):=by
 show R.bind (R.bV (dP x&&jw ys) _) _=_;rw[h,h'];rfl
def qE(h:dP x=W)(h':jw ys=W):gE .NotIn x (.lst o ys)=.ok (.bl (!memD x ys)):=by
 show R.bind (R.bV (dP x&&jw ys) _) _=_;rw[h,h'];rfl
def Mm(h:dP x=W)(h':jw ys=W):gE .In x (.tup ys)=.ok (.bl (memD x ys)):=by
 show R.bind (R.bV (dP x&&jw ys) _) _=_;rw[h,h'];rfl
def DM(h:dP x=W)(h':jw ys=W):gE .NotIn x (.tup ys)=.ok (.bl (!memD x ys)):=by
 show R.bind (R.bV (dP x&&jw ys) _) _=_;rw[h,h'];rfl
theorem aac:kI (.bl b)=.ok b:=rfl
theorem V7:iY (.str z) (.int i)=(R.opt (dj z.cps.toList i)).bind λc=>.ok (.str ⟨#[c]⟩):=rfl
theorem V8:iY (.lst o xs) (.int i)=(R.opt (dj xs i)).bind λd=>.ok (bq d):=rfl
theorem V9:iY (.tup xs) (.int i)=(R.opt (dj xs i)).bind λd=>.ok (bq d):=rfl
theorem V_:Jb (.str z) lo hi=.ok (.str ⟨(cut z.cps.toList lo hi).toArray⟩):=rfl
theorem Wa:Jb (.lst o xs) lo hi=.ok (.lst W (aA (cut xs lo hi))):=rfl
theorem Sq:h_ .len [.str z]=.ok (.int z.length):=rfl
theorem Ss:h_ .len [.lst o xs]=.ok (.int (zl xs)):=rfl
theorem Su:h_ .len [.tup xs]=.ok (.int (zl xs)):=rfl
theorem Wb:h_ .all [.lst o xs]=R.bV (xs.all lK) (.ok (.bl (xs.all qX))):=rfl
theorem Wc:h_ .any [.lst o xs]=R.bV (xs.all lK) (.ok (.bl (xs.any qX))):=rfl
theorem Sv:h_ .int [.bl b]=.ok (.int (if b then 1 else 0)):=rfl
theorem Sw:h_ .list [.lst o xs]=.ok (.lst W (aA xs)):=rfl
theorem Qi:h_ .tuple [.lst o xs]=.ok (.tup (aA xs)):=rfl
theorem Wd:vj (.lst o xs)=.ok (aA xs):=rfl
theorem We:vj (.tup xs)=.ok (aA xs):=rfl
def adg(h:-(2 ^ 62)<=j/\j.toNat<=aj):EI [.int j]=.ok (gx 0 j.toNat):=by
 show R.bV (decide (-(2 ^ 62)<=j/\j.toNat<=aj)) _=_;rw[a_ h];rfl
theorem Wf:BD .non=.ok .non:=rfl
theorem aad:BD (.bl b)=.ok (.bl b):=rfl
theorem Wg:BD (.int i)=.ok (.int i):=rfl
theorem Wh:BD (.str x)=.ok (.str x):=rfl
theorem Wi:bq .non=.non:=rfl
theorem aae:bq (.bl b)=.bl b:=rfl
theorem Wj:bq (.int i)=.int i:=rfl
theorem Wk:bq (.str x)=.str x:=rfl
theorem Wl:bq (.lst o xs)=.lst B (aA xs):=rfl
theorem Wm:bq (.tup xs)=.tup (aA xs):=rfl
theorem Sx:aA []=[]:=rfl
theorem Qj:aA (d::r)=bq d::aA r:=rfl
theorem Wn:aU .non=W:=rfl
theorem aaf:aU (.bl b)=W:=rfl
theorem Wo:aU (.int i)=W:=rfl
theorem Wp:aU (.str x)=W:=rfl
theorem Wq:aU (.lst o xs)=(o&&aX xs):=rfl
theorem Wr:aU (.tup xs)=aX xs:=rfl
theorem Sy:aX []=W:=rfl
theorem Qk:aX (d::r)=(aU d&&aX r):=rfl
theorem adh:jZ is W U=U:=rfl
theorem adi:jZ is B U=kg is U:=rfl
theorem SA:kg [] U=U:=rfl
theorem Ql:kg (i::is) U=kg is (rJ i U):=rfl
theorem aag:rJ 0 (o::r)=o.map bq::r:=rfl
theorem aah:rJ (n+1) (o::r)=o::rJ n r:=rfl
theorem aai:yy (.rt d)=.ok d:=rfl
theorem SD:yx t (.int i)=decide (t=.int):=rfl
def KI(U:br)(i:Nat):R D:=match U[i]? with
|some (L d)=>.ok (bq d)
|_=>.bad
def KJ(U:br)(i:Nat):R Bool:=match U[i]? with
|some (L d)=>kI d
|_=>.bad
noncomputable def C7(U:br)(i:Nat):R D:=match U[i]? with
|some (L d)=>.ok d
|_=>.bad
noncomputable def HV(x:Fl)(f:br->Fl):Fl:=match x with
|.nx U=>f U
|x=>x
def HW(O:M PG)(g:Nat)(r:R (M D)):R D:=match O[g]? with
|some (.fn m dds)=>r.bind λds=>m (aA ds++dds)
|_=>.bad
noncomputable def Qm{α:Type}(c:R Bool)(a b:R α):R α:=c.bind λk=>if k=W then a else b
noncomputable def ifF(c:R Bool)(a b:Fl):Fl:=c.bA λk=>if k=W then a else b
noncomputable def adj(x:D)(b:R D):R D:=match x with
|.bl c=>if c=W then b else .ok (.bl B)
|_=>.bad
noncomputable def adk:D->R D
|.int i=>.ok (.int (-i))
|_=>.bad
noncomputable def adl:D->R (abM J)
|.int i=>.ok (L i)
|_=>.bad
noncomputable def cC(z:D)(r:R D):R D:=match z with
|.bl k=>if k=W then r else .ok (.bl B)
|_=>.bad
noncomputable def blD:D->R Bool
|.bl k=>.ok k
|_=>.bad
def enD:D->R (Bool×M D)
|.lst o xs=>.ok (aU (.lst o xs),ir 0 (aA xs))
|_=>.bad
def reD:D->R (Bool×M D)
|.lst o xs=>.ok (aU (.lst o xs),(aA xs).reverse)
|_=>.bad
def Ws(k:Nat)(vs:M Nat)(U:br)(d:D):Fl:=match U[k]? with
|some (L (.lst W xs))=>if(decide (zl xs<aj)&&(aU d||!vs.contains k))=W then .nx ((jZ vs (aU d) U).set k (L (.lst W (xs++[d]))))else .bad
|_=>.bad
def Wt(k:Nat)(U:br)(j d:D):Fl:=match j with
|.int j=>match U[k]? with
 |some (L (.lst W xs))=>if(decide (0<=j/\j<2 ^ 40/\zl xs<aj)&&aU d)=W then .nx (U.set k (L (.lst W (xs.take j.toNat++d::xs.drop j.toNat))))else .bad
 |_=>.bad
|_=>.bad
def kG(k:Nat)(vs:M Nat)(U:br)(d j:D):Fl:=match U[k]? with
|some (L x)=>if(aU d||!vs.contains k)=W then(R.opt (putIn x d j)).bA λx'=>.nx ((jZ vs (aU d) U).set k (L x'))else .bad
|_=>.bad
noncomputable def Qn(O:M PG)(i g:Nat)(U:br)(r:R (M D))(k:(M D->R D)->Fl):Fl:=match O[g]? with
|some (.fm m)=>k m
|_=>.bad
noncomputable def Qo(O:M PG)(g:Nat)(k:(M D->R D)->Fl):Fl:=match O[g]? with
|some (.fm m)=>k m
|_=>.bad
theorem Wu:KI (L d::r) 0=.ok (bq d):=rfl
theorem Wv:KI (o::r) (n+1)=KI r n:=rfl
theorem SE:KJ (L d::r) 0=kI d:=rfl
theorem SG:KJ (o::r) (n+1)=KJ r n:=rfl
theorem SH:C7 (L d::r) 0=.ok d:=rfl
theorem SI:C7 (o::r) (n+1)=C7 r n:=rfl
theorem SJ{f:br->Fl}:HV (.nx U) f=f U:=rfl
theorem SK{f:br->Fl}:HV (.rt d) f=.rt d:=rfl
theorem SM{f:br->Fl}:HV (.bk U) f=.bk U:=rfl
theorem SN{f:br->Fl}:HV (.ct U) f=.ct U:=rfl
theorem aaj{m:M D->R D}:HW (.fn m dds::r) 0 x=x.bind λds=>m (aA ds++dds):=rfl
theorem aak:HW (o::r) (n+1) x=HW r n x:=rfl
theorem SO{α:Type}{a b:R α}:Qm (.ok k) a b=if k=W then a else b:=rfl
theorem Ww:ifF (.ok k) a b=if k=W then a else b:=rfl
theorem SQ:adj (.bl c) b=if c=W then b else .ok (.bl B):=rfl
theorem Wx:adk (.int i)=.ok (.int (-i)):=rfl
theorem Wy:adl (.int i)=.ok (L i):=rfl
theorem Wz:blD (.bl k)=.ok k:=rfl
theorem aal:enD (.lst o xs)=.ok (aU (.lst o xs),ir 0 (aA xs)):=rfl
theorem aam:reD (.lst o xs)=.ok (aU (.lst o xs),(aA xs).reverse):=rfl
theorem WA:pE O (.var i) U=KI U i:=rfl
theorem WB:pE O (.con v) U=BD v:=rfl
theorem WC:pE O (.bin op a b) U=(pE O a U).bind λx=>(pE O b U).bind λy=>nA op x y:=rfl
theorem WD:pE O (.neg a) U=(pE O a U).bind adk:=by rfl
theorem WE:pE O (.not a) U=(pE O a U).bind λx=>(kI x).bind λb=>.ok (.bl (!b)):=rfl
theorem WG:pE O (.and a b) U=(pE O a U).bind λx=>adj x (pE O b U):=rfl
theorem WH:pE O (.ite c a b) U=Qm (pT O c U) (pE O a U) (pE O b U):=rfl
theorem WI:pE O (.cmp op a b) U=(pE O a U).bind λx=>(pE O b U).bind λy=>gE op x y:=rfl
theorem SR:pE O (.call g as) U=HW O g (gv O as U):=rfl
theorem WJ:pE O (.blt f as) U=(gv O as U).bind (h_ f):=rfl
theorem WK:pE O (.isi a t) U=(pE O a U).bind λx=>R.bV (sX x) (.ok (.bl (yx t x))):=rfl
theorem WL:pE O (.mth m o as) U=(pE O o U).bind λx=>(gv O as U).n_.bind λds=>uq m x ds:=rfl
theorem aan:pE O (.ix a b) U=(pE O a U).bind λx=>(pE O b U).bind λy=>iY x y:=rfl
theorem aao:pE O (.sl a lo hi) U=(pE O a U).bind λx=>(pO O lo U).bind λl=>(pO O hi U).bind λh=>Jb x l h:=rfl
theorem WM:pE O (.lst as) U=(gv O as U).bind λds=>R.bV (decide (zl ds<=aj)) (.ok (.lst W ds)):=by
 rfl
theorem WO:pE O (.tup as) U=(gv O as U).bind λds=>R.bV (decide (zl ds<=aj)) (.ok (.tup ds)):=by
 rfl
theorem WQ:pE O .dct U=.ok (.cW W [] []):=rfl
theorem SS{cond:CO}:pE O (.comp nl fr elt tg src cond) U=(pI O src U).bind λitems=>(dS (pG tg) (pC O cond) (pE O elt) items.2 (nl.map (λ_=>S)++fr.map (λi=>U.getD i S))).n_.bind λds=>.ok (.lst W ds):=rfl
theorem WR:pT O (.not a) U=(pT O a U).bind λb=>.ok (!b):=rfl
theorem WS:pT O (.and a b) U=Qm (pT O a U) (pT O b U) (.ok B):=rfl
theorem aap:pT O (.or a b) U=Qm (pT O a U) (.ok W) (pT O b U):=rfl
theorem WT:pT O (.cmp op a b) U=(pE O a U).bind λx=>(pE O b U).bind λy=>(gE op x y).bind blD:=rfl
theorem WU:pT O (.var i) U=KJ U i:=rfl
def SV:pT O (.call g as) U=(HW O g (gv O as U)).bind kI:=by
 show(match O[g]? with|some (.fn m dds)=>((gv O as U).bind λds=>m (aA ds++dds)).bind kI|_=>.bad)=_;unfold HW;cases O[g]? with
 |none=>rfl
 |some p=>cases p<;>rfl
theorem WV:pT O (.blt f as) U=((gv O as U).bind (h_ f)).bind kI:=rfl
theorem WW:pT O (.isi a t) U=(pE O a U).bind λx=>R.bV (sX x) (.ok (yx t x)):=rfl
theorem SW:gv O .nil U=.ok []:=rfl
theorem Qp:gv O (.cons a r) U=(pE O a U).bind λx=>(gv O r U).bind λxs=>.ok (x::xs):=rfl
theorem SX:pO O .none U=.ok S:=rfl
theorem SY:pO O (.some a) U=(pE O a U).bind adl:=rfl
theorem S0:pC O .none=λ_=>.ok W:=rfl
theorem S3:pC O (.some a)=pT O a:=rfl
theorem S5:pG (.name i) d U=.ok (U.set i (L d)):=rfl
theorem WX:pG (.tup gs) (.tup ds) U=R.bV (decide (zl ds=gs.len)) (BE gs ds U):=rfl
theorem S6:BE .nil [] U=.ok U:=rfl
theorem Qq:BE (.cons g r) (d::dr) U=(pG g d U).bind fun σ'=>BE r dr σ':=rfl
theorem WY:pI O (.seq a) U=(pE O a U).bind λx=>(vj x).bind λds=>.ok (aU x,ds):=rfl
theorem Qs:pI O (.range as) U=(gv O as U).bind λxs=>(EI xs).bind λds=>.ok (W,ds):=rfl
def S7:pI O (.enum a) U=(pE O a U).bind enD:=by
 show(pE O a U).bind _=_;congr 1;funext x;cases x<;>rfl
def WZ:pI O (.rev a) U=(pE O a U).bind reD:=by
 show(pE O a U).bind _=_;congr 1;funext x;cases x<;>rfl
theorem S8:b9 O n .nil U=.nx U:=rfl
theorem dY:b9 O n (.cons s r) U=HV (pS O n s U) (b9 O n r):=by rfl
theorem W0:pS O n (.expr (.mth .append (.var k) (.cons a .nil))) U=(pE O a U).kc (wK U[k]?) (Ws k (cK a) U):=rfl
theorem W1:pS O n (.expr (.mth .insert (.var k) (.cons i (.cons a .nil)))) U=(pE O i U).kc B λj=>(pE O a U).kc B λd=>Wt k U j d:=rfl
theorem Mn:pS O n (.asg (.name i) e) U=(pE O e U).bA λd=>.nx ((jZ (cK e) (aU d) U).set i (L d)):=rfl
theorem W2:pS O n (.asg (.sub (.var k) i) e) U=(pE O e U).bA λd=>(pE O i (jZ (cK e) (aU d) U)).kc B λj=>kG k (cK e) U d j:=rfl
theorem W3:pS O n (.aug i e) U=(match U[i]? with|some (L (.int a))=>(pE O e U).bA λd=>Lf i a U d|_=>.bad):=rfl
theorem Ab:pS O n (.agi k j i) U=HQ k i U U[k]? U[j]?:=rfl
theorem S9:pS O n (.sfld g k f e) U=(pE O e U).bA λd=>C5 O[g]? k f (jZ (cK e) (aU d) U) d:=rfl
theorem S_:pS O n (.casg i e) U=(pE O e U).bA λd=>.nx ((jZ (cK e) (aU d) U).set i (L d)):=rfl
theorem W4:pS O n (.acl i g as) U=Qn O i g U (gv O as U) λm=>EK O m i as U:=rfl
theorem aaq{m:M D->R D}{k:(M D->R D)->Fl}:Qn (.fm m::r) i 0 U x k=k m:=rfl
theorem aar{k:(M D->R D)->Fl}:Qn (o::r) i (n+1) U x k=Qn r i n U x k:=rfl
theorem W5:pS O n (.rcl g as) U=Qo O g λm=>EL O m as U:=rfl
theorem aas{m:M D->R D}{k:(M D->R D)->Fl}:Qo (.fm m::r) 0 k=k m:=rfl
theorem aat{k:(M D->R D)->Fl}:Qo (o::r) (n+1) k=Qo r n k:=rfl
def Ac{m:M D->R D}(h:nR as=L (bs,.var k))(h1:U[k]?=L (L (.lst W es)))(h2:jF es=W):EK O m i as U=(gv O bs (U.set k S)).n_.bA λds=>(m (aA ds++[.lst W es])).kc B λd=>.nx ((kg (gX bs) (U.set k S)).set i (L d)):=by
 unfold EK;simp only[h,h1,h2]
def Ad{m:M D->R D}(h:nR as=L (bs,e)):EL O m as U=(gv O bs U).n_.bA λds=>(pE O e (kg (gX bs) U)).kc B (Me m ds):=by
 unfold EL;simp only[h]
def Ae{m:M D->R D}(h:jF es=W):Me m ds (.lst W es)=(m (aA ds++[.lst W es])).kc B .rt:=by
 unfold Me;simp only[h]
theorem Tc:pS O n (.tasg (.tup gs) e) U=(pE O e U).bA λd=>(pG (.tup gs) d (jZ (cK e) (aU d) U)).bA .nx:=rfl
theorem W6:pS O n (.ret e) U=(pM O e U).bA .rt:=rfl
theorem W7:pS O n (.ifs c a b) U=ifF (pT O c U) (b9 O n a U) (b9 O n b U):=rfl
theorem Td:pS O n (.whil c b) U=vn (pT O c) (b9 O n b) n U:=rfl
theorem Te:pS O n (.forr g src b) U=(pI O src U).bA λitems=>forR (pG g) (b9 O n b) items.2 (jZ (wB src) items.1 U):=rfl
theorem W8:aU (.cW o ks xs)=(o&&aX xs):=rfl
theorem W9:bq (.cW o ks xs)=.cW B ks (aA xs):=rfl
def Mp:iY (.cW o ks xs) (iB k)=(R.opt (iQ ks xs k)).bind λd=>.ok (bq d):=by cases k<;>rfl
theorem W_:pE O (.att g a f) U=(pE O a U).bind λx=>rG O g f x:=rfl
theorem Tf:sX (.int i)=W:=rfl
theorem Xa:pS O n .brk U=.bk U:=rfl
theorem Tg:pS O n .cont U=.ct U:=rfl
theorem Xb:pM O (.var i) U=C7 U i:=rfl
theorem Xc:pM O (.con v) U=pE O (.con v) U:=rfl
theorem Xd:pM O (.bin op a b) U=pE O (.bin op a b) U:=rfl
theorem Xe:pM O (.and a b) U=pE O (.and a b) U:=rfl
theorem Xf:pM O (.ite c a b) U=pE O (.ite c a b) U:=rfl
theorem Xg:pM O (.cmp op a b) U=pE O (.cmp op a b) U:=rfl
theorem Ti:pM O (.call g as) U=pE O (.call g as) U:=rfl
theorem Xh:pM O (.blt f as) U=pE O (.blt f as) U:=rfl
theorem aau:pM O (.ix a b) U=pE O (.ix a b) U:=rfl
theorem Tj{cond:CO}:pM O (.comp nl fr elt tg src cond) U=pE O (.comp nl fr elt tg src cond) U:=rfl
theorem Xi:pM O (.tup as) U=(mR O as U).alt (λds=>R.bV (decide (zl ds<=aj)) (.ok (.tup ds))) (pE O (.tup as) U):=by
 rfl
theorem Tn:mR O .nil U=.ok []:=rfl
def To:mR O (.cons (.var i) r) U=(C7 U i).bind λd=>(mR O r (U.set i S)).bind λds=>.ok (d::ds):=by
 show(match U[i]? with|some (L d)=>(mR O r (U.set i S)).bind λds=>.ok (d::ds)|_=>.bad)=_;unfold C7;cases U[i]? with
 |none=>rfl
 |some o=>cases o<;>rfl
theorem Tp{α β:Type}{a:α}{f:α->R β}{y:R β}:(R.ok a:R α).alt f y=f a:=rfl
theorem Qt{α β:Type}{f:α->R β}{y:R β}:(R.bad:R α).alt f y=y:=rfl
theorem Xj:pE O .dcT U=.ok (.bS W [] []):=rfl
theorem Xk:pE O (.skl g fr n body) U=HJ O g (pE O n U) (pE O body) (fr.map λi=>U.getD i S):=rfl
theorem Xl:pE O (.sit a) U=(pE O a U).bind λx=>LY x:=rfl
theorem Xm:pE O (.lrv a) U=(pE O a U).bind λx=>LZ x:=rfl
def Mq(h:qY xs=L ns)(h2:k∈ns):uq .index (.lst o xs) [.int k]=.ok (.int (ns.idxOf k)):=by
 show(R.opt (qY xs)).bind _=_;rw[h];show R.bV (decide (k∈ns)) _=_;rw[a_ h2];rfl
theorem Xn:pI O (.rrg a) U=(pE O a U).bind λx=>L0 x:=rfl
theorem adn:LZ (.lst o xs)=.ok (.lst W (aA xs.reverse)):=rfl
def ado(h:z5 ks xs=L ps)(h2:zl ps<64):LY (.cW o ks xs)=.ok (.lst W (pL (mO ps))):=by
 show(R.opt (z5 ks xs)).bind _=_;rw[h];show R.bV (decide (zl ps<64)) _=_;rw[a_ h2];rfl
theorem Xo:pS O n (.mov i j) U=Mf i j U U[j]?:=rfl
theorem adp:Mf i j U (L (L d))=.nx ((U.set j S).set i (L d)):=rfl
theorem Tq:pS O n (.rite c a b) U=(pT O c U).bA λk=>if k=W then(pM O a U).bA .rt else(pM O b U).bA .rt:=rfl
theorem Mr:pS O n (.dfs i nl j k) U=HR i nl U U[j]? U[k]?:=rfl
theorem Xp:pE O (.trg as) U=(gv O as U).bind λds=>HF ds:=rfl
def adq(h:-(2 ^ 62)<=i/\i<2 ^ 62/\-(2 ^ 62)<=j/\j<2 ^ 62/\(j-i).toNat<=2 ^ 24):HF [.int i,.int j]=.ok (.tup (gx i (j-i).toNat)):=by
 show R.bV (decide (-(2 ^ 62)<=i/\i<2 ^ 62/\-(2 ^ 62)<=j/\j<2 ^ 62/\(j-i).toNat<=2 ^ 24)) _=_;rw[a_ h];rfl
def DN(h:qD xs=L ps):h_ .dictT [.lst o xs]=.ok (.bS W (gk [] [] ps).1 (aA (gk [] [] ps).2)):=by
 show(R.opt (qD xs)).bind _=_;rw[h];rfl
def Ms(h:sortable ks=W):h_ .sorted [.bS o ks xs]=.ok (.lst W (pL ks)):=by
 show R.bV (sortable ks) _=_;rw[h];rfl
def Mu(h:iP y=L k)(h2:iQ ks xs k=L d):iY (.bS o ks xs) y=.ok (bq d):=by
 show(match iP y with|some k=>(R.opt (iQ ks xs k)).bind λd=>.ok (bq d)|none=>R.bad)=_;rw[h];show(R.opt (iQ ks xs k)).bind _=_;rw[h2];rfl
theorem Xq:bq (.bS o ks xs)=.bS B ks (aA xs):=rfl
theorem Xr:aU (.bS o ks xs)=(o&&aX xs):=rfl
def Tt(h:1<=n/\n<=xs.length):Jb (.tup xs) (L n) S=.ok (.tup (aA (xs.drop n.toNat))):=by
 show R.bV (decide (1<=n/\n<=xs.length)) _=_;rw[a_ h];rfl
theorem Xs:pS O n (.expr (.mth .extend (.var k) (.cons a .nil))) U=(pE O a U).kc (wK U[k]?) λd=>HP k (cK a) d U:=rfl
theorem Xu:pS O n (.expr (.mth .append (.ix o i) (.cons a .nil))) U=Mb O (.ix o i) a U:=rfl
def xT(h:U[k]?=L (L (.lst W xs)))(h1:zl xs+zl ys<=aj)(h2:(aU (.lst W ys)||!vs.contains k)=W):HP k vs (.lst W ys) U=.nx ((jZ vs (aU (.lst W ys)) U).set k (L (.lst W (xs++ys)))):=by
 unfold HP;simp only[h];rw[a_ h1,h2];rfl
theorem Qu:mR O (.cons (.call g as) r) U=(pE O (.call g as) U).bind λd=>R.bV (aU d) ((mR O r U).bind λds=>.ok (d::ds)):=rfl
theorem Xv:mR O (.cons (.ix a b) r) U=(pE O (.ix a b) U).bind λd=>R.bV (aU d) ((mR O r U).bind λds=>.ok (d::ds)):=rfl
theorem Tu:mR O (.cons (.blt f as) r) U=(pE O (.blt f as) U).bind λd=>R.bV (aU d) ((mR O r U).bind λds=>.ok (d::ds)):=rfl
theorem Qv{U:br}{nl:M Str}{fr:M Nat}{elt:CE}{tg:CG}{src:CI}{cond:CO}{r:iV}:mR O (.cons (.comp nl fr elt tg src cond) r) U=(pE O (.comp nl fr elt tg src cond) U).bind λd=>R.bV (aU d) ((mR O r U).bind λds=>.ok (d::ds)):=rfl
theorem Tv:mR O (.cons (.bin op a b) r) U=(pE O (.bin op a b) U).bind λd=>R.bV (aU d) ((mR O r U).bind λds=>.ok (d::ds)):=rfl
theorem Xw:h_ .max [.int i,.int j]=.ok (.int (if j>i then j else i)):=rfl
theorem Xx:h_ .min [.int i,.int j]=.ok (.int (if j<i then j else i)):=rfl
def Xy(h:(-(2 ^ 63)<=k/\k<2 ^ 63)/\zl xs*k.toNat<=aj):nA .Mult (.lst o xs) (.int k)=.ok (.lst W (aR k.toNat (aA xs)).flatten):=by
 show R.bV (decide ((-(2 ^ 63)<=k/\k<2 ^ 63)/\zl xs*k.toNat<=aj)) _=_;rw[a_ h];rfl
def JC(h:(!xs.isEmpty&&!ys.isEmpty&&decide (zl xs+zl ys<=aj))=W):nA .Add (.tup xs) (.tup ys)=.ok (.tup (aA xs++aA ys)):=by
 show R.bV (!xs.isEmpty&&!ys.isEmpty&&decide (zl xs+zl ys<=aj)) _=_;rw[h];rfl
def jH(h:U[k]?=L (L (.lst W xs)))(h1:zl xs<aj)(h2:(aU d||!vs.contains k)=W):Ws k vs U d=.nx ((jZ vs (aU d) U).set k (L (.lst W (xs++[d])))):=by
 unfold Ws;simp only[h];rw[a_ h1,h2];rfl
def BR(h:U[k]?=L (L (.lst W xs)))(h1:0<=j/\j<2 ^ 40/\zl xs<aj)(h2:aU d=W):Wt k U (.int j) d=.nx (U.set k (L (.lst W (xs.take j.toNat++d::xs.drop j.toNat)))):=by
 unfold Wt;simp only[h];rw[a_ h1,h2];rfl
def iu(h:U[k]?=L (L x))(h1:(aU d||!vs.contains k)=W)(h2:putIn x d j=L x'):kG k vs U d j=.nx ((jZ vs (aU d) U).set k (L x')):=by
 unfold kG;simp only[h];rw[h1,h2];rfl
theorem kB{β:Type}{g:D->br->R br}{e:br->R D}(enc:β->D)(I:br->Prop)(f:β->D):∀(xs:M β) (U:br),I U->(∀x∈xs,∀U,I U->∃σ2,g (enc x) U=.ok σ2/\I σ2/\e σ2=.ok (f x))->dS g (λ_=>.ok W) e (xs.map enc) U=.ok (xs.map f)
|[],U,_,_=>rfl
|x::r,U,hi,h=>by
 let#[σ2,h1,h2,h3]:=h x aB U hi;have ih:=kB enc I f r σ2 h2 λy hy=>h y (ao _ hy);show(g (enc x) U).bind _=_;rw[h1];simp only[R.bind,jT,h3,ih];rfl
theorem sY{β:Type}{g:D->br->R br}{c:br->R Bool}{e:br->R D}(enc:β->D)(I:br->Prop)(p:β->Bool)(f:β->D):∀(xs:M β) (U:br),I U->(∀x∈xs,∀U,I U->∃σ2,g (enc x) U=.ok σ2/\I σ2/\c σ2=.ok (p x)/\e σ2=.ok (f x))->dS g c e (xs.map enc) U=.ok ((xs.filter p).map f)
|[],U,_,_=>rfl
|x::r,U,hi,h=>by
 let#[σ2,h1,h2,h3,h4]:=h x aB U hi;have ih:=sY enc I p f r σ2 h2 λy hy=>h y (ao _ hy);show(g (enc x) U).bind _=_;rw[h1];simp only[R.bind,h3];cases q:p x with
 |true=>rw[aF rfl,List.filter_cons_of_pos q,h4];simp only[R.bind,ih];rfl
 |false=>rw[aG (by decide),List.filter_cons_of_neg (by simp[q])];exact ih
theorem ads:cK (.var i)=[i]:=rfl
theorem adt:cK (.con x1)=[]:=rfl
theorem adu:cK (.bin x1 a b)=cK a++cK b:=rfl
theorem adv:cK (.neg a)=cK a:=rfl
theorem aav:cK (.call x1 as)=gX as:=rfl
theorem aaw:cK (.blt f as)=if yq f as=W then[]else gX as:=rfl
theorem aax:cK (.ix a b)=cK a++cK b:=rfl
theorem aay:cK (.sl a lo hi)=cK a++(Jc lo++Jc hi):=rfl
theorem aaz:cK (.lst as)=gX as:=rfl
theorem aaA:cK (.tup as)=gX as:=rfl
theorem aaB:cK (.dct)=[]:=rfl
theorem aaC:cK (.comp x1 fr x2 x3 src x4)=wB src++fr:=rfl
theorem aaD:cK (.att x1 a x2)=cK a:=rfl
theorem aaE:cK (.dcT)=[]:=rfl
theorem aaF:cK (.trg as)=gX as:=rfl
theorem aaG:cK (.skl x1 fr n x2)=cK n++fr:=rfl
theorem aaH:gX (.nil)=[]:=rfl
theorem aaI:gX (.cons a r)=cK a++gX r:=rfl
theorem aaJ:Jc (.none)=[]:=rfl
theorem aaK:Jc (.some a)=cK a:=rfl
theorem aaL:wB (.seq a)=cK a:=rfl
theorem aaM:wB (.range as)=gX as:=rfl
theorem aaN:wB (.enum a)=cK a:=rfl
theorem aaO:wB (.rev a)=cK a:=rfl
theorem aaP:wB (.rrg a)=cK a:=rfl
end L3
end
local macro_rules | `(tactic| simp_arith $c:optConfig [$ls,*]) => do let q <- ("o8 pq_thn_ok' pq_thnL_ok' JB Z9 yz VV Sk VW VX VY VZ V3 V4 V5 V6 uX Z_ aaa Sl Sm Sn So aab Qh y_ HU ER qE Mm DM aac V7 V8 V9 V_ Wa Sq Ss Su Wb Wc Sv Sw Qi Wd We adg Wf aad Wg Wh Wi aae Wj Wk Wl Wm Sx Qj Wn aaf Wo Wp Wq Wr Sy Qk adh adi SA Ql aag aah aai SD Wu Wv SE SG SH SI SJ SK SM SN aaj aak SO Ww SQ Wx Wy Wz aal aam WA WB WC WD WE WG WH WI SR WJ WK WL aan aao WM WO WQ SS WR WS aap WT WU SV WV WW SW Qp SX SY S0 S3 S5 WX S6 Qq WY Qs S7 WZ S8 dY W0 W1 Mn W2 W3 Ab S9 S_ W4 aaq aar W5 aas aat Ac Ad Ae Tc W6 W7 Td Te W8 W9 Mp W_ Tf Xa Tg Xb Xc Xd Xe Xf Xg Ti Xh aau Tj Xi Tn To Tp Qt Xj Xk Xl Xm Mq Xn adn ado Xo adp Tq Mr Xp adq DN Ms Mu Xq Xr Tt Xs Xu xT Qu Xv Tu Qv Tv Xw Xx Xy JC jH BR iu ads adt adu adv aav aaw aax aay aaz aaA aaB aaC aaD aaE aaF aaG aaH aaI aaJ aaK aaL aaM aaN aaO aaP eW BO yq jG xO.len bJ gi cL jU aa bf List.cons_append oW d_ eB List.replicate_zero List.getElem?_cons_zero xG List.set_cons_zero List.set_cons_succ List.getD_cons_zero List.getD_cons_succ Nat.reduceAdd Nat.reduceSub xq pH or_false or_true and_true true_and and_false false_and NS pJ e_ eX Bool.or_true AS nY vE p8 uF jT iF gq reduceCtorEq Hf beq_self_eq_true ne_eq Int.cast_ofNat_Int Int.reduceMod Int.reduceSub Int.reduceAdd".splitOn " ").toArray.mapM λx => `(Lean.Parser.Tactic.simpLemma| $(Lean.mkIdent x.toName):ident); `(tactic| simp $c:optConfig (disch := first | assumption | (with_reducible rfl) | (show L3.dP _ = W; rfl) | omega | (unfold L2.rC; omega) | (unfold L2.vf; omega) | (simp only [cL, jU, aa, bf]; omega)) only [$q,*, $ls,*])
local macro_rules|`(tactic|erw[$l,*])=>do let q<-l.getElems.mapM λr=>`(Lean.Parser.Tactic.simpLemma|$(⟨r.raw[1]⟩):term);`(tactic|simp_arith [$q,*])
section
namespace L3
open PySem L2
structure FD where
 n:Str
 s:Stmt
 N:M Str
 k:Nat
 gl:M Str
def FD.ps(d:FD):M Str:=d.N.take d.k
noncomputable def scB(N P:M Str)(sc:fH):Bool:=(match sc.kind with|.function=>W|_=>B)&&(!sc.isCoroutine&&(!sc.isGenerator&&(decide N.Nodup&&(decide (N.take (zl P)=P)&&(decide (∀x∈P,sc.names.lookup x=L .local\/sc.names.lookup x=L .cell)&&decide (∀y∈sc.names,y.2≠.free))))))
def zZ(h:scB N P sc=W):rT N P sc:=by
 unfold scB at h;simp only[cu,eF,vL]at h;let#[h1,h2,h3,h4,h5,h6,h7]:=h;refine#[?_,h2,h3,h4,h5,h6,h7];revert h1;cases sc.kind<;>intro h1<;>first|rfl|cases h1
def FD.iL(bn:M Str)(d:FD)(c:cF):Bool:=sV #[d.N,dh d.s,d.gl,bn,(λ_=>W),W,B] c (iG d.s)&&(scB d.N d.ps (dh d.s)&&(oh c&&(zl d.ps==d.k)))
def DI(K:ak)(mg:Str->abM Z)(d:FD):Prop:=C6 K mg d.n d.s d.ps
section
variable{P:bO}{w:bL}{K:ak}{mg:Str->abM Z}{base:Heap}
abbrev jP(P:bO)(w:bL)(K:ak)(mg:Str->abM Z)(base:Heap)(k:Nat)(x:Str)(m:M D->R D):Prop:=EH P w K mg base k x (.fn (yZ K m) [])
def GR(P:bO)(w:bL)(K:ak)(mg:Str->abM Z)(base:Heap)(k:Nat)(gl:M Str)(Γp:M PG):Prop:=∃O,z0 P w K mg base k gl O/\eY K Γp O/\Mj Γp/\VS O
def gN:GR P w K mg base k [] []:=#[[],trivial,trivial,λ_=>aD,λ_=>aD]
section
variable{k:Nat}{x:Str}{gl:M Str}{Γp:M PG}
def gG(g:G)(h:EH P w K mg base k x g)(e:VE K p g)(r:GR P w K mg base k gl Γp)(np:∀m,p≠.fe m:=by intro _ z;cases z)(ng:∀Pa,g≠.lam Pa:=by intro _ z;cases z):GR P w K mg base k (x::gl) (p::Γp):=by
 let#[O,a,b,nf,nl]:=r;exact#[g::O,#[h,a],#[_,_,rfl,e,b],λm z=>by
  rcases be.mp z with z|z
  .exact np m z.symm
  .exact nf m z,λm z=>by
  rcases be.mp z with z|z
  .exact ng m z.symm
  .exact nl m z]
def gF{m:M D->R D}(h:jP P w K mg base j x m)(r:GR P w K mg base k gl Γp)(l:j<=k:=by decide):GR P w K mg base k (x::gl) (.fn m []::Γp):=by
 rcases h with⟨f,fd,ps,ds,F,q⟩|⟨e,C,i,f,fd,ps,sI,hi,q⟩
 .exact gG (.fn (yZ K m) []) (.inl #[f,fd,ps,ds,F.mono l,q]) #[λ_ _ _ _ h=>h,rfl,rfl] r
 .exact gG (.fn (yZ K m) []) (.inr #[e,C,i,f,fd,ps,sI,cH hi l,q]) #[λ_ _ _ _ h=>h,rfl,rfl] r
def gO(h:AB K C/\∀f∈as,nN K C f)(r:GR P w K mg base k gl Γp):GR P w K mg base k (x::gl) (.jO C as::Γp):=gG (.jO C as) h #[rfl,rfl] r
def gV(h:∃u,mg x=L u/\RelV v u)(e:bx K (λ_=>S) d v)(r:GR P w K mg base k gl Γp):GR P w K mg base k (x::gl) (.val d::Γp):=gG (.val v) h e r
end
def fF{d:FD}{f:Addr}{fd:fc}{k n:Nat}{Γp:M PG}(F:vF K d.n d.n d.s f fd){c:cF}(h:d.iL bn c=W)(hb:∀x∈bn,mg x=S)(r:GR P w K mg base k d.gl Γp):g_ P w K mg base (mw P w) (k+1) f fd d.ps (yZ K (eW Γp n d.N d.k c)):=by
 let#[O,a,b,nf,nl]:=r;unfold FD.iL at h;simp only[cu,lV]at h;let#[h1,h2,h3,h4]:=h;rw[<-h4];refine YD c F (zZ h2) h1 a b nf nl.hl h3 hb ?_;unfold FD.ps;rw[cR]
 lia
def fD(D:DI K mg d){c:cF}(h:d.iL bn c=W)(hb:∀x∈bn,mg x=S)(r:GR P w K mg base k d.gl Γp):jP P w K mg base (k+1) d.n (eW Γp n d.N d.k c):=
 C6.has D λ_ _ F=>fF F h hb r
abbrev Tw(P:bO)(w:bL)(K:ak)(mg:Str->abM Z)(base:Heap)(k:Nat)(x:Str)(m:M D->R D):Prop:=EH P w K mg base k x (.fn (Jd K m) [])
def gM{m:M D->R D}(h:Tw P w K mg base j x m)(r:GR P w K mg base k gl Γp)(l:j<=k:=by decide):GR P w K mg base k (x::gl) (.fm m::Γp):=by
 rcases h with⟨f,fd,ps,ds,F,q⟩|⟨e,C,i,f,fd,ps,sI,hi,q⟩
 .exact gG (.fn (Jd K m) []) (.inl #[f,fd,ps,ds,F.mono l,q]) #[rfl,λ_ _ _ _ h=>h] r
 .exact gG (.fn (Jd K m) []) (.inr #[e,C,i,f,fd,ps,sI,cH hi l,q]) #[rfl,λ_ _ _ _ h=>h] r
def fDM(D:DI K mg d)(h:d.iL bn c=W)(hb:∀x∈bn,mg x=S)(r:GR P w K mg base k d.gl Γp):Tw P w K mg base (k+1) d.n (eW Γp n d.N d.k c):=
 C6.has D λf fd F=>by
  let#[O,a,b,nf,nl]:=r;unfold FD.iL at h;simp only[cu,lV]at h;let#[h1,h2,h3,h4]:=h;rw[<-h4];refine ae4 c F (zZ h2) h1 a b nf nl.hl h3 hb ?_;unfold FD.ps;rw[cR]
  lia
def f0M(D:DI K mg d):Tw P w K mg base k d.n (λ_=>.bad):=
 C6.has D λ_ _ F=>#[λ_ _ _ _ qq=>by let#[_,_,_,_,_,_,_,_,_,_,_,_,_,_,_,h]:=qq;exact h.elim,λ_ _ _ _ _ _ _ _ _ _ _ _ _ qq=>by let#[_,_,_,_,_,_,_,_,_,_,_,_,_,_,_,h]:=qq;exact h.elim]
def DL(K:ak)(mg:Str->abM Z)(d:FD)(Pa:Addr):Prop:=∃(f:Addr) (fd:fc),vF K d.n d.n d.s f fd/\mg d.n=L (.ref f)/\Binds K fd d.ps []/\HE K mg fd Pa
def fDL(D:DL K mg d Pa)(h:d.iL bn c=W)(hb:∀x∈bn,mg x=S)(r:GR P w K mg base k gl Γp)(e:d.gl=y::gl:=by rfl):jP P w K mg base (k+1) d.n (eW (.lam::Γp) n d.N d.k c):=by
 let#[f,fd,F,hm,hB,abk]:=D;let#[O,a,b,nf,nl]:=r;unfold FD.iL at h;simp only[cu,lV]at h;let#[h1,h2,h3,h4]:=h;rw[<-h4];refine .inl #[f,fd,d.ps,[],YD (O:=.lam Pa::O) c F (zZ h2) h1 (by rw[e];exact#[trivial,a]) #[_,_,rfl,trivial,b] (λm z=>?_) (λi Q z=>?_) h3 hb ?_,hm,F.kp,hB,.nil]
 .rcases be.mp z with z|z
  .cases z
  .exact nf m z
 .rcases be.mp (fT z)with z|z
  .cases z;exact abk
  .exact aH z (nl Q)
 .unfold FD.ps;rw[cR]
  lia
def OI(K:ak)(mg:Str->abM Z)(d:FD)(C:Addr):Prop:=mg d.n=L (.ref C)/\∃(f:Addr) (fd:fc),Mk K C f/\vF K "__init__" (d.n++".__init__") d.s f fd/\Binds K fd d.ps []
def oD(D:OI K mg d C)(h:d.iL bn c=W)(ho:KH c=W)(hb:∀x∈bn,mg x=S)(r:GR P w K mg base k d.gl Γp):jP P w K mg base (k+2) d.n (EO Γp n d.N d.k C c):=by
 let#[hm,f,fd,abl,F,abm]:=D;let#[O,a,b,_,nl]:=r;unfold FD.iL at h;simp only[cu,lV]at h;let#[h1,h2,h3,h4]:=h;rw[<-h4];refine Z8 hm abl abm (VT c F (zZ h2) h1 a b nl.hl h3 ho hb ?_);unfold FD.ps;rw[cR]
 lia
variable{h:Heap}
def lsZ{α:Type}{p:M α->Prop}(k:p []):∀us,zl us=0->p us
|[],_=>k
def lsS{α:Type}{n:Nat}{p:M α->Prop}(k:∀a r,zl r=n->p (a::r)):∀us,zl us=n+1->p us
|a::r,h=>k a r (Nat.succ.inj h)
def oI{kV doc pm cdv ct:Z}(X:K.In h)(G:h.Ns eU mg)(a:tX K eU d.n=L (L (.ref C)):=by k_is)(m1:ye K C=W:=by k_is)(m2:gh K (.ref C) "__init__"=L (L (.ref f)):=by k_is)(m3:MY K (.ref f)=W:=by k_is)(m4:fL K (.ref C)=W:=by k_is)(l:K.lookup f=L #[oc,od,.func (gy "__init__" (d.n++".__init__") (mL d.s) (iG d.s) (dh d.s) .none kV doc pm an cdv ct),osl]:=by k_is)(c:m6 K cdv (d.n++".__init__")=W:=by k_is)(k:fL K (.ref f)=W:=by k_is)(b:∀(kV doc pm:Z) (an:abM Addr) (cdv ct:Z) (us:M Z),zl us=zl d.ps->pB (gy "__init__" (d.n++".__init__") (mL d.s) (iG d.s) (dh d.s) .none kV doc pm an cdv ct) #[us,[]]=pure (d.ps.zip us):=by(intro _ _ _ _ _ _;(repeat refine lsS λ_=>?_);exact lsZ rfl)):OI K mg d C:=
 #[AX X G a,_,_,#[m1,m2,m3,m4],fun_mk l c k,(fun_mk l c k).binds b]
def lI{C:Addr}{as:M Str}(p1:rO K C Cv=W:=by k_is)(p2:qv K C=W:=by k_is)(p3:vI K C=W:=by k_is)(p4:gh K (.ref C) "__setattr__"=L (L (.builtin "object.__setattr__")):=by k_is)(n:(as.all λf=>match gh K (.ref C) f with|some S=>W|_=>B)=W:=by kernel_rfl):AB K C/\∀f∈as,nN K C f:=#[#[p1,p2,p3,p4],λf hf=>by
 have q:=bz.mp n f hf;show gh K (.ref C) f=L S;revert q;rcases gh K (.ref C) f with _|_|_<;>intro q<;>first|rfl|cases q]
def dI{kV doc pm cdv ct:Z}(X:K.In h)(G:h.Ns eU mg)(a:tX K eU d.n=L (L (.ref f)):=by k_is)(l:K.lookup f=L #[oc,od,.func (gy d.n d.n (mL d.s) (iG d.s) (dh d.s) .none kV doc pm an cdv ct),osl]:=by k_is)(c:m6 K cdv d.n=W:=by k_is)(k:fL K (.ref f)=W:=by k_is)(b:∀(kV doc pm:Z) (an:abM Addr) (cdv ct:Z) (us:M Z),zl us=zl d.ps->pB (gy d.n d.n (mL d.s) (iG d.s) (dh d.s) .none kV doc pm an cdv ct) #[us,[]]=pure (d.ps.zip us):=by(intro _ _ _ _ _ _;(repeat refine lsS λ_=>?_);exact lsZ rfl)):DI K mg d:=
 #[_,_,fun_mk l c k,AX X G a,(fun_mk l c k).binds b]
def dL{d:FD}{Pa f c0:Addr}{oc:Z}{od an:abM Addr}{osl:Array (abM Z)}{kV doc pm ct:Z}(X:K.In h)(G:h.Ns eU mg)(a:tX K eU d.n=L (L (.ref f)):=by k_is)(l:K.lookup f=L #[oc,od,.func (gy d.n d.n (mL d.s) (iG d.s) (dh d.s) .none kV doc pm an (.ref c0) ct),osl]:=by k_is)(c:m6 K (.ref c0) d.n=W:=by k_is)(k:fL K (.ref f)=W:=by k_is)(hd:rR K c0 Pa=W:=by kernel_rfl)(t:(Pa,d.n++".<locals>."++"<lambda>")∈oY:=by decide +kernel)(b:∀(kV doc pm:Z) (an:abM Addr) (cdv ct:Z) (us:M Z),zl us=zl d.ps->pB (gy d.n d.n (mL d.s) (iG d.s) (dh d.s) .none kV doc pm an cdv ct) #[us,[]]=pure (d.ps.zip us):=by(intro _ _ _ _ _ _;(repeat refine lsS λ_=>?_);exact lsZ rfl)):DL K mg d Pa:=
 #[_,_,fun_mk l c k,AX X G a,(fun_mk l c k).binds b,#[c0,rfl,hd],t]
set_option tactic.hygienic true in
def tbI(X:K.In h)(t:∀P∈[Pa],h.get? P=L (PySem.W.tabObj #[]))(e:oY=[(Pa,q)]:=by rfl)(hk:K.lookup Pa=S:=by kernel_rfl)(hc:(K.any λx=>rR K x.1 Pa)=W:=by kernel_rfl):O8 K h:=λb y z=>by
 have eb:b=Pa:=by
  rw[e,dB]at z;cases q:b==Pa with
  |true=>exact lV.mp q
  |false=>rw[q]at z;cases z
 subst eb;refine#[hk,t b aB,?_];let#[x,hx,hc]:=kZ.mp hc;let#[o,vs,_,_,_,_,_,_,_,e1,e2,e3,e4,_]:=ua X hc;exact#[x.1,o,vs,e1,e2,e3,e4]
noncomputable def isNo:abM (abM Z)->Bool
|some S=>W
|_=>B
def zI{bn:M Str}(X:K.In h)(G:h.Ns eU mg)(a:(bn.all λx=>isNo (tX K eU x))=W:=by kernel_rfl):∀x∈bn,mg x=S:=λx hx=>Uu X G (by
 have q:=bz.mp a x hx;revert q;rcases tX K eU x with _|_|_<;>intro q<;>first|rfl|cases q)
end
end L3
end
section
namespace Tr
open PySem L2 L3
abbrev cE:CE:=.var 0
abbrev dw:CE:=.var 1
abbrev dQ:CE:=.var 2
abbrev fN:CE:=.var 3
abbrev gw:CE:=.var 4
abbrev dZ:CE:=.var 5
abbrev jm:CE:=.var 6
abbrev oK:CE:=.var 7
abbrev nT:CE:=.var 8
abbrev ni:CE:=.var 9
abbrev qi:CE:=.var 10
abbrev vo:CE:=.var 11
abbrev s9:CE:=.var 12
abbrev BS:CE:=.var 13
abbrev Mv:CE:=.var 14
abbrev xv15:CE:=.var 15
abbrev xv16:CE:=.var 16
abbrev Xz:CE:=.var 17
abbrev BU:CE:=.var 18
noncomputable abbrev e1(a:CE):iV:=.cons a .nil
abbrev e2(a b:CE):iV:=.cons a (e1 b)
abbrev e3(a b c:CE):iV:=.cons a (e2 b c)
abbrev e4(a b c d:CE):iV:=.cons a (e3 b c d)
abbrev iw(a:CE):CE:=.blt .len (e1 a)
abbrev mz:CE:=.con .non
noncomputable abbrev s_(a b:Nat):CG:=.tup (.cons (.name a) (.cons (.name b) .nil))
noncomputable abbrev F8(a b c:Nat):CG:=.tup (.cons (.name a) (.cons (.name b) (.cons (.name c) .nil)))
noncomputable abbrev xT4(a b c d:Nat):CG:=.tup (.cons (.name a) (.cons (.name b) (.cons (.name c) (.cons (.name d) .nil))))
abbrev i_(n:J):CE:=.con (.int n)
abbrev fG(a b:CE):CE:=.bin .Add a b
abbrev eE(a b:CE):CE:=.bin .Mod a b
abbrev iA(a b:CE):CE:=.bin .FloorDiv a b
abbrev oM(a b:CE):CE:=.cmp .Eq a b
abbrev dG(n:Nat)(a:CE):CS:=.asg (.name n) a
noncomputable abbrev fO(a:CS):cF:=.cons a .nil
abbrev qe(a b:CS):cF:=.cons a (fO b)
abbrev DO(a b c:CS):cF:=.cons a (qe b c)
abbrev JD(a b c d:CS):cF:=.cons a (DO b c d)
abbrev Mw(a b c d e:CS):cF:=.cons a (JD b c d e)
abbrev sq6(a b c d e f:CS):cF:=.cons a (Mw b c d e f)
abbrev YF(a b c d e f g:CS):cF:=.cons a (sq6 b c d e f g)
def top(i:Nat):Stmt:=PySem.Challenge.pw_claimwise_k18_the_first_reading.main.body.getD i (.Pass #[0,0,0,0])
abbrev DR:M Str:=["kinds","kind","uppers","above"]
def jz:cF:=
 fO (.expr (.mth .append fN (e1 (.ix dQ (.ix fN (.neg (i_ 1)))))))
abbrev YG:CE:=
 .cmp .NotEq (.mth .get dQ (e2 (.ix fN (.neg (i_ 1))) (.con (.str "")))) (.con (.str ""))
def yC:cF:=
 JD (dG 2 (.blt .dict (e1 cE))) (dG 3 (.lst (e1 dw))) (.whil YG jz) (.ret fN)
abbrev Mx:M Str:=["kinds","readings","thing","ready","number","reading","finding"]
def uG:cF:=
 qe (dG 6 (.call 0 (e2 dZ fN))) (.ifs (.cmp .IsNot jm mz) (fO (.ret (.tup (e2 gw jm)))) .nil)
def ES:cF:=
 DO (dG 3 (.call 1 (e2 cE dQ))) (.forr (s_ 4 5) (.enum dw) uG) (.ret mz)
abbrev BV:M Str:=["kinds","reading","thing"]
def wL:cF:=
 fO (.ret (.call 0 (e2 dw (.call 1 (e2 cE dQ)))))
abbrev xU:M Str:=["reading","ready","closed","choices"]
def tu:cF:=
 Mw (.ifs (.cmp .Gt (iw (.ix cE (i_ 0))) (iw (.att 3 dw "sizes"))) (fO (.ret mz)) .nil) (.casg 2 (.comp ["told","numbers"] [1] (.tup (e2 dw (.call 2 (e2 (.att 3 dQ "uppers") cE)))) (s_ 0 1) (.seq (.ix cE (i_ 1))) .none)) (.ifs (.blt .any (e1 (.comp ["numbers","shut"] [] (.cmp .Gt (iw dw) (iw cE)) (s_ 0 1) (.seq dQ) .none))) (fO (.ret mz)) .nil) (dG 3 (.call 1 (e3 cE dw dQ))) (.ret (.ite (.cmp .Is fN mz) mz (.call 0 (e4 cE dw dQ fN))))
abbrev AF:M Str:=["uppers","told"]
def vp:cF:=
 fO (.ret (.comp ["part","above"] [1] cE (s_ 0 1) (.enum cE) (.some (.blt .any (e1 (.comp ["kind"] [2] (.cmp .In cE dw) (.name 0) (.seq dw) .none))))))
abbrev BW:M Str:=["reading","ready","closed","marks","choices","i","told","fitting","bounds","wanted"]
abbrev YH:CE:=
 .and (.call 1 (e3 dw cE dQ)) (.call 0 (e3 dw cE fN))
def lM:cF:=
 Mw (dG 7 (.call 2 (e3 dQ (.call 3 (e2 (.att 4 dw "uppers") jm)) dZ))) (dG 8 (.comp ["number","word","lo","hi"] [5] (.tup (e3 dw dQ fN)) (xT4 0 1 2 3) (.seq (.ix cE (i_ 3))) (.some (oM cE gw)))) (.dfs 9 ["mark","word","number"] 5 3) (.expr (.mth .append gw (e1 (.comp ["part"] [1,8,9] cE (.name 0) (.seq oK) (.some YH))))) (.ifs (oM (.ix gw (.neg (i_ 1))) (.lst .nil)) (fO (.ret mz)) .nil)
def wM:cF:=
 JD (dG 3 (.call 5 (e2 (.ix cE (i_ 2)) (.ix cE (i_ 4))))) (dG 4 (.lst .nil)) (.forr (s_ 5 6) (.enum (.ix cE (i_ 0))) lM) (.ret gw)
abbrev F9:M Str:=["joins","steps","marks","word","i","j"]
def q_:cF:=
 fO (.asg (.sub dQ (.tup (e3 (.con (.str "then")) fN gw))) (.con (.bl W)))
def rm:cF:=
 qe (.asg (.sub dQ (.tup (e3 (.con (.str "from")) fN gw))) (.con (.bl W))) (.asg (.sub dQ (.tup (e3 (.con (.str "to")) fN dZ))) (.con (.bl W)))
def Af:cF:=
 JD (dG 2 .dcT) (.forr (F8 3 4 5) (.seq cE) rm) (.forr (s_ 3 4) (.seq dw) q_) (.ret dQ)
abbrev F_:M Str:=["closed","parts","i","numbers","shut"]
def rq:cF:=
 fO (.ifs (.cmp .NotIn dQ fN) (fO (.casg 1 (.comp ["part"] [4] cE (.name 0) (.seq dw) (.some (.cmp .NotIn cE dw))))) .nil)
def Ag:cF:=
 qe (.forr (s_ 3 4) (.seq cE) rq) (.ret dw)
abbrev DS:M Str:=["ready","part","bounds","word","lo","hi","number"]
def mT:cF:=
 qe (dG 6 (.mth .get (.ix (.att 0 cE "sizes") dw) (e1 fN))) (.ifs (.or (.cmp .Is jm mz) (.or (.and (.cmp .IsNot gw mz) (.cmp .Lt jm gw)) (.and (.cmp .IsNot dZ mz) (.cmp .Gt jm dZ)))) (fO (.ret (.con (.bl B)))) .nil)
def yD:cF:=
 qe (.forr (F8 3 4 5) (.seq dQ) mT) (.ret (.con (.bl W)))
abbrev DT:M Str:=["ready","part","wanted"]
def yE:cF:=
 fO (.ret (.blt .all (e1 (.comp ["mark","word"] [0,1] (.cmp .In (.tup (e3 cE dw fN)) (.att 0 dQ "marks")) (s_ 0 1) (.seq dQ) .none))))
abbrev tw:M Str:=["reading","ready","closed","choices","finding","i","ahead","part","tried","lower"]
def iM:cF:=
 DO (dG 8 (fG (fG (.comp ["found"] [] (.lst (e1 cE)) (.name 0) (.seq jm) .none) (.lst (e1 (.lst (e1 oK))))) (.sl fN (.some (fG dZ (i_ 1))) .none))) (dG 9 (.call 0 (e4 cE dw dQ nT))) (.ifs (.cmp .IsNot ni mz) (qe (.mov 4 9) .brk) .nil)
def lN:cF:=
 qe (dG 6 (.sl gw .none (.some dZ))) (.forr (.name 7) (.seq (.comp ["part"] [4,5,6] cE (.name 0) (.seq (.ix fN dZ)) (.some (.and (.cmp .Lt cE (.ix dw dQ)) (.cmp .NotIn cE fN))))) iM)
def oN:cF:=
 JD (dG 4 (.call 0 (e4 cE dw dQ fN))) (.ifs (.cmp .Is gw mz) (fO (.ret mz)) .nil) (.forr (.name 5) (.range (e1 (iw fN))) lN) (.ret gw)
abbrev za:M Str:=["reading","ready","closed","choices","weights","word","i","j","order"]
def j0:cF:=
 fO (.agi 4 6 1)
def j5:cF:=
 qe (.agi 4 6 1) (.agi 4 7 1)
def ux:cF:=
 Mw (dG 4 (.comp ["choice"] [] (i_ 0) (.name 0) (.seq fN) .none)) (.forr (F8 5 6 7) (.seq (.ix cE (i_ 2))) j5) (.forr (s_ 5 6) (.seq (.ix cE (i_ 4))) j0) (dG 8 (.skl 0 [3,4] (iw fN) (.tup (e2 (.blt .min (e2 (iw (.ix dw cE)) (i_ 2))) (.neg (.ix dQ cE)))))) (.rcl 1 (.cons cE (.cons dw (e4 dQ fN nT (.comp ["choice"] [] mz (.name 0) (.seq fN) .none)))))
abbrev pR:M Str:=["reading","ready","closed","choices","order","found","part","more","finding"]
abbrev Ga:cF:=
 fO (.ifs (.and (.call 2 (e3 (.ix cE (i_ 2)) (.att 1 dw "joins") oK)) (.call 0 (e3 (.ix cE (i_ 4)) (.att 1 dw "steps") oK))) (qe (.acl 8 3 (.cons cE (.cons dw (e4 dQ fN (.sl gw (.some (i_ 1)) .none) oK)))) (.ifs (.cmp .IsNot nT mz) (fO (.ret nT)) .nil)) .nil)
def jf:cF:=
 fO (.ifs (.cmp .NotIn jm dZ) (.cons (dG 7 (.blt .list (e1 dZ))) (.cons (.asg (.sub oK (.ix gw (i_ 0))) jm) Ga)) .nil)
def kC:cF:=
 DO (.ifs (oM gw (.lst .nil)) (fO (.rite (.call 4 (e2 dQ dZ)) dZ mz)) .nil) (.forr (.name 6) (.seq (.ix fN (.ix gw (i_ 0)))) jf) (.ret mz)
abbrev wN:M Str:=["closed","found","numbers","shut","parts"]
def k9:cF:=
 qe (dG 4 (.comp ["number"] [1] (.ix dw cE) (.name 0) (.seq dQ) .none)) (.ifs (.blt .any (e1 (.comp ["part"] [4] (.cmp .NotIn cE dw) (.name 0) (.seq fN) .none))) (fO (.ret (.con (.bl B)))) .nil)
def rK:cF:=
 qe (.forr (s_ 2 3) (.seq cE) k9) (.ret (.con (.bl W)))
abbrev BX:M Str:=["joins","told","found","word","i","j"]
def oO:cF:=
 fO (.ifs (.and (.cmp .IsNot (.ix dQ gw) mz) (.and (.cmp .IsNot (.ix dQ dZ) mz) (.cmp .NotIn (.tup (e3 fN (.ix dQ gw) (.ix dQ dZ))) dw))) (fO (.ret (.con (.bl B)))) .nil)
def wQ:cF:=
 qe (.forr (F8 3 4 5) (.seq cE) oO) (.ret (.con (.bl W)))
abbrev BY:M Str:=["steps","told","found","place","word","i"]
def oQ:cF:=
 fO (.aug 3 (i_ 1))
abbrev whT:CE:=
 .and (.cmp .Lt fN (iw dw)) (.cmp .NotEq (.ix dw fN) (.tup (e2 gw (.ix dQ dZ))))
def oR:cF:=
 fO (.ifs (.cmp .IsNot (.ix dQ dZ) mz) (DO (.whil whT oQ) (.ifs (oM fN (iw dw)) (fO (.ret (.con (.bl B)))) .nil) (.aug 3 (i_ 1))) .nil)
def wR:cF:=
 DO (dG 3 (i_ 0)) (.forr (s_ 4 5) (.seq cE) oR) (.ret (.con (.bl W)))
abbrev Ou:M Str:=["_law_script","_law_k","_law_cell","_law_number"]
def C8:cF:=
 JD (dG 2 (i_ 0)) (.ifs (.cmp .Gt (iw cE) (i_ 0)) (fO (dG 2 (.ix cE (eE dw (iw cE))))) .nil) (dG 3 (eE (.bin .Mult (fG (fG (eE dQ (i_ 1000000007)) (.bin .Mult (i_ 7) dw)) (i_ 1)) (fG (i_ 48271) (.bin .Mult (.bin .Mult (i_ 97) dw) dw))) (i_ 2147483629))) (.ret (eE (.bin .Mult fN fN) (i_ 2147483587)))
abbrev JE:M Str:=["_law_script","_law_k","_law_many","_law_letters","_law_m","_law_stem","_law_at"]
def BZ:cF:=
 Mw (dG 3 (.con (.str "bdfgjkmpqrvwxyz"))) (dG 4 (.call 0 (e2 cE dw))) (dG 5 (.bin .Mult (.ix fN (eE gw (i_ 15))) (eE (iA gw (i_ 15)) (i_ 5)))) (dG 6 (eE (iA gw (i_ 75)) (fG (iw dZ) (i_ 1)))) (.ret (.comp ["_law_j"] [3,4,5,6] (fG (fG (.sl fN .none (.some gw)) (.ix dw (eE (fG (iA dQ (i_ 375)) cE) (i_ 15)))) (.sl fN (.some gw) .none)) (.name 0) (.range (e1 dQ)) .none))
abbrev JF:M Str:=["_law_script","_law_many","_law_names_here","_law_kinds_here","_law_k","_law_m","_law_upper"]
def wU:cF:=
 JD (dG 5 (.call 0 (e2 cE (fG (i_ 3) gw)))) (dG 6 (.con (.str ""))) (.ifs (.and (.cmp .Gt gw (i_ 0)) (.cmp .Gt (eE dZ (i_ 4)) (i_ 0))) (fO (dG 6 (.ix dQ (eE (iA dZ (i_ 4)) gw)))) .nil) (.expr (.mth .append fN (e1 (.tup (e2 (.ix dQ gw) jm)))))
def B0:cF:=
 Mw (dG 1 (fG (i_ 3) (eE (.call 0 (e2 cE (i_ 1))) (i_ 6)))) (dG 2 (.call 1 (e3 cE (i_ 2) dw))) (dG 3 (.lst .nil)) (.forr (.name 4) (.range (e1 dw)) wU) (.ret fN)
abbrev JG:M Str:=["_law_script"]
def B6:cF:=
 fO (.ret (.tup (e3 (.call 0 (e3 cE (i_ 12) (i_ 3))) (.call 0 (e3 cE (i_ 13) (i_ 2))) (.call 0 (e3 cE (i_ 14) (i_ 2))))))
abbrev Gb:M Str:=["_law_kinds_here","_law_kind","_law_row","_law_name","_law_upper"]
def nU:cF:=
 fO (.ifs (.and (oM fN (.ix dQ (.neg (i_ 1)))) (.cmp .NotEq gw (.con (.str "")))) (fO (.expr (.mth .append dQ (e1 gw)))) .nil)
def Ah:cF:=
 DO (dG 2 (.lst (e1 dw))) (.forr (s_ 3 4) (.rev cE) nU) (.ret dQ)
abbrev Gc:M Str:=["_law_kinds_here","_law_kind"]
def Ai:cF:=
 fO (.ret (.comp ["_law_name","_law_upper"] [0,1] cE (s_ 0 1) (.seq cE) (.some (.cmp .In fN (.call 0 (e2 dQ cE))))))
abbrev Gd:M Str:=["_law_script","_law_at","_law_kinds_here","_law_shut","_law_names_here","_law_parts","_law_closed","_law_named","_law_g","_law_m","_law_told","_law_many","_law_numbers"]
abbrev eIn:CE:=
 .cmp .In dw (.call 1 (e2 dQ cE))
abbrev adz:CE:=
 .blt .all (e1 (.comp ["_law_one"] [0,1] eIn (.name 0) (.seq dQ) .none))
abbrev r7:cF:=
 qe (.ifs (.blt .any (e1 (.comp ["_law_upper"] [2,10] adz (.name 0) (.seq gw) .none))) (fO (.expr (.mth .append oK (e1 s9)))) .nil) (.expr (.mth .extend dZ (e1 (.bin .Mult (.lst (e1 qi)) vo))))
def g6(rr:cF):cF:=
 .cons (dG 9 (.call 0 (e2 cE (fG (fG dw (i_ 1)) nT)))) (.cons (dG 10 (.blt .tuple (e1 (.comp ["_law_j"] [4,9] (.ix dw (eE (fG dQ cE) (iw dw))) (.name 0) (.range (e1 (.ix (.lst (e4 (i_ 1) (i_ 1) (i_ 2) (i_ 3))) (eE (iA ni (i_ 16)) (i_ 4))))) .none)))) (.cons (dG 11 (.ix (.lst (e4 (i_ 1) (i_ 1) (i_ 1) (i_ 2))) (eE (iA ni (i_ 64)) (i_ 4)))) (.cons (.ifs (.cmp .Gt (fG (iw dZ) vo) (i_ 4)) (fO .cont) .nil) (.cons (dG 12 (.trg (e2 (iw dZ) (fG (iw dZ) vo)))) (.cons (.ifs (.or (oM (eE (iA ni (i_ 256)) (i_ 3)) (i_ 0)) (.and fN (oM nT (i_ 0)))) (fO (.expr (.mth .append jm (e1 (.tup (e2 qi s9)))))) .nil) rr)))))
def lD:cF:=
 g6 r7
def Aj:cF:=
 sq6 (dG 4 (.comp ["_law_name","_law_upper"] [] cE (s_ 0 1) (.seq dQ) .none)) (dG 5 (.lst .nil)) (dG 6 (.lst .nil)) (dG 7 (.lst .nil)) (.forr (.name 8) (.range (e1 (.blt .max (e2 (.blt .int (e1 fN)) (.ix (.lst (.cons (i_ 1) (.cons (i_ 2) (.cons (i_ 3) (.cons (i_ 2) (e4 (i_ 1) (i_ 3) (i_ 2) (i_ 0))))))) (eE (.call 0 (e2 cE dw)) (i_ 8))))))) lD) (.ret (.tup (e3 dZ jm oK)))
abbrev Ge:M Str:=["_law_n","_law_low"]
def vR:cF:=
 DO (dG 1 (.bin .Sub (eE (iA cE (i_ 64)) (i_ 6)) (i_ 2))) (.ifs (oM (eE (iA cE (i_ 4096)) (i_ 7)) (i_ 0)) (fO (dG 1 (.bin .Mult (.bin .Sub cE (.bin .Pow (i_ 10) (i_ 9))) (.bin .Pow (i_ 10) (i_ 19))))) .nil) (.ret (.ix (.lst (e3 (.tup (e2 mz dw)) (.tup (e2 dw mz)) (.tup (e2 dw (fG dw (eE (iA cE (i_ 512)) (i_ 4))))))) (eE (iA cE (i_ 8)) (i_ 3))))
abbrev DU:M Str:=["_law_script","_law_at","_law_kinds_here","_law_words_here","_law_shut","_law_parts","_law_closed","_law_named","_law_joins","_law_sizes","_law_steps","_law_k","_law_n","_law_i","_law_some"]
def uy:cF:=
 qe (dG 12 (.call 1 (e2 cE (fG (fG dw (i_ 10)) BS)))) (.ifs (.and (oM (eE s9 (i_ 5)) (i_ 0)) (.not gw)) (qe (dG 14 (.call 0 (e2 dQ (.ix (.ix dZ BS) (eE (iA s9 (i_ 5)) (iw (.ix dZ BS))))))) (.asg (.sub dZ BS) (.tup (e1 (.ix Mv (eE (iA s9 (i_ 15)) (iw Mv))))))) .nil)
abbrev sN:CS:=
 dG 12 (.call 1 (e2 cE (fG (fG dw (i_ 6)) vo)))
abbrev sJ:CS:=
 .ifs (.and (.cmp .Gt (iw dZ) (i_ 1)) (.cmp .Lt vo (eE (.call 1 (e2 cE (fG dw (i_ 5)))) (i_ 4)))) (qe (dG 13 (eE s9 (iw dZ))) (.asg (.sub nT (.tup (e3 (.ix (.ix fN (i_ 1)) (eE (iA s9 (i_ 8)) (i_ 2))) BS (eE (fG (fG BS (i_ 1)) (eE (iA s9 (i_ 16)) (.bin .Sub (iw dZ) (i_ 1)))) (iw dZ))))) (.con (.bl W)))) .nil
abbrev sZ:CS:=
 .ifs (.and (.cmp .Gt (iw dZ) (i_ 0)) (.cmp .Lt vo (eE (iA (.call 1 (e2 cE (fG dw (i_ 5)))) (i_ 4)) (i_ 4)))) (fO (.asg (.sub ni (.tup (e2 (eE (iA s9 (i_ 3)) (iw dZ)) (.ix (.ix fN (i_ 0)) (eE (iA s9 (i_ 24)) (i_ 3)))))) (.call 2 (e1 s9)))) .nil
abbrev sT:CS:=
 .ifs (.and (.cmp .Gt (iw oK) (i_ 0)) (.cmp .Lt vo (eE (iA (.call 1 (e2 cE (fG dw (i_ 5)))) (i_ 16)) (i_ 3)))) (fO (.expr (.mth .extend qi (e1 (.comp ["_law_i"] [3,12] (.tup (e2 (.ix (.ix dw (i_ 2)) (eE (iA dQ (i_ 5)) (i_ 2))) cE)) (.name 0) (.seq (.ix oK (eE (iA s9 (i_ 10)) (iw oK)))) .none))))) .nil
def pU:cF:=
 JD sN sJ sZ sT
def yF:cF:=
 YF (.tasg (F8 5 6 7) (.call 3 (e4 cE dw dQ gw))) (dG 8 .dcT) (dG 9 .dcT) (dG 10 (.lst .nil)) (.forr (.name 11) (.range (e1 (i_ 4))) pU) (.forr (.name 13) (.range (e1 (iw dZ))) uy) (.ret (.tup (.cons dZ (e4 jm (.blt .sorted (e1 nT)) (.comp ["_law_key"] [9] (fG cE (.ix dw cE)) (.name 0) (.seq (.blt .sorted (e1 ni))) .none) qi))))
abbrev B7:M Str:=["_law_script","_law_at","_law_kinds_here","_law_allowed","_law_bounds_here","_law_words_here","_law_n","_law_some","_law_sizes","_law_word","_law_low","_law_high"]
def lO:cF:=
 fO (.ifs (.cmp .Is qi mz) (fO (.asg (.sub nT ni) (.bin .Sub vo (eE (iA jm (i_ 7)) (i_ 3))))) (fO (.ifs (.cmp .Is vo mz) (fO (.asg (.sub nT ni) (fG qi (eE (iA jm (i_ 7)) (i_ 3))))) (fO (.asg (.sub nT ni) (fG qi (eE (iA jm (i_ 7)) (.blt .max (e2 (i_ 1) (fG (.bin .Sub vo qi) (i_ 1)))))))))))
abbrev YI:cF:=
 qe (.forr (F8 9 10 11) (.seq gw) lO) (.ret (.tup (e2 (.ix oK (eE (iA jm (i_ 4)) (iw oK))) (.sit nT))))
def tB:cF:=
 .cons (dG 6 (.call 1 (e2 cE dw))) (.cons (dG 7 (.call 0 (e2 dQ (.ix fN (eE jm (iw fN)))))) (.cons (dG 8 .dct) (.cons (.ifs (oM (eE (iA jm (i_ 64)) (i_ 3)) (i_ 0)) (fO (.asg (.sub nT (.ix (.ix dZ (i_ 0)) (eE (iA jm (i_ 192)) (i_ 3)))) (.bin .Sub (eE (iA jm (i_ 600)) (i_ 7)) (i_ 2)))) .nil) YI)))
abbrev AG:M Str:=["_law_script","_law_at","_law_kinds_here","_law_reading_here","_law_words_here","_law_parts","_law_i","_law_allowed","_law_bounds_here","_law_m","_law_k","_law_kind","_law_order","_law_spots","_law_joins","_law_word","_law_j","_law_steps","_law_n"]
abbrev uN:CS:=
 dG 18 (.call 0 (e2 cE (fG (fG dw (i_ 8)) qi)))
abbrev uJ:CS:=
 .ifs (.and (.cmp .Gt (iw dZ) (i_ 1)) (oM (eE BU (i_ 3)) (i_ 0))) (qe (dG 6 (eE (iA BU (i_ 3)) (iw dZ))) (.asg (.sub Mv (.tup (e3 (.ix (.ix gw (i_ 1)) (eE (iA BU (i_ 18)) (i_ 2))) jm (eE (fG (fG jm (i_ 1)) (eE (iA BU (i_ 36)) (.bin .Sub (iw dZ) (i_ 1)))) (iw dZ))))) (.con (.bl W)))) .nil
abbrev uT:CS:=
 .ifs (.and (.cmp .Gt (iw dZ) (i_ 0)) (oM (eE BU (i_ 2)) (i_ 0))) (fO (.expr (.mth .insert Xz (e2 (eE (iA BU (i_ 2)) (fG (iw Xz) (i_ 1))) (.tup (e2 (.ix (.ix gw (i_ 2)) (eE (iA BU (i_ 20)) (i_ 2))) (eE (iA BU (i_ 40)) (iw dZ)))))))) .nil
def kL:cF:=
 DO uN uJ uT
def kM:cF:=
 fO (.asg (.sub Mv (.tup (e3 xv15 (.ix BS jm) (.ix BS xv16)))) (.con (.bl W)))
def kN:cF:=
 fO (.expr (.mth .insert s9 (e2 (eE (iA ni (fG (.bin .Mult (i_ 5) qi) (i_ 7))) (fG qi (i_ 1))) qi)))
def kO:cF:=
 qe (dG 11 (.ix (.ix dQ (eE (iA ni (fG qi (i_ 3))) (iw dQ))) (i_ 0))) (.expr (.mth .append dZ (e1 (.call 1 (.cons cE (.cons (fG (fG dw (i_ 6)) qi) (e4 dQ (.lst (e1 vo)) (.lst .nil) gw)))))))
def kP:cF:=
 qe (.casg 8 (.comp ["_law_row"] [6] (.sl cE (.some (i_ 1)) .none) (.name 0) (.seq (.ix fN (i_ 3))) (.some (oM (.ix cE (i_ 0)) dw)))) (.expr (.mth .append dZ (e1 (.call 1 (.cons cE (.cons (fG dw jm) (e4 dQ oK nT gw)))))))
def vq:cF:=
 .cons (dG 5 (.lst .nil)) (.cons (.forr (s_ 6 7) (.enum (.ix fN (i_ 0))) kP) (.cons (dG 9 (.call 0 (e2 cE (fG dw (i_ 5))))) (.cons (.forr (.name 10) (.range (e1 (eE ni (i_ 3)))) kO) (.cons (dG 12 (.lst .nil)) (YF (.forr (.name 10) (.range (e1 (iw dZ))) kN) (dG 13 (.comp ["_law_k"] [12] (.mth .index dw (e1 cE)) (.name 0) (.range (e1 (iw dZ))) .none)) (dG 14 .dcT) (.forr (F8 15 6 16) (.seq (.ix fN (i_ 2))) kM) (.casg 17 (.comp ["_law_word","_law_i"] [13] (.tup (e2 cE (.ix dQ dw))) (s_ 0 1) (.seq (.ix fN (i_ 4))) .none)) (.forr (.name 10) (.range (e1 (i_ 2))) kL) (.ret (.tup (e3 (.comp ["_law_k"] [5] (.ix dw cE) (.name 0) (.seq s9) .none) (.blt .sorted (e1 Mv)) Xz))))))))
abbrev Gf:M Str:=["_law_script","_law_at","_law_kinds_here","_law_thing","_law_words_here","_law_parts","_law_joins","_law_steps","_law_n","_law_k","_law_kind","_law_sizes"]
abbrev YJ:cF:=
 .cons (.ifs (oM (eE nT (i_ 8)) (i_ 0)) (fO (.ret (.tup (e3 dZ (fG (.sl jm .none (.some ni)) (.sl jm (.some (fG ni (i_ 1))) .none)) oK)))) .nil) (YF (.ifs (oM (eE nT (i_ 8)) (i_ 1)) (fO (.ret (.tup (e3 dZ jm (fG (.sl oK .none (.some ni)) (.sl oK (.some (fG ni (i_ 1))) .none)))))) .nil) (.ifs (oM (eE nT (i_ 8)) (i_ 2)) (fO (.ret (.tup (e3 dZ jm (.lrv oK))))) .nil) (.ifs (.or (oM (eE nT (i_ 8)) (i_ 3)) (oM dZ (.lst .nil))) (fO (.ret (.tup (e3 (fG dZ (.lst (e1 (.tup (e2 qi (.lst (e1 (.tup (e2 (.ix (.ix gw (i_ 0)) (i_ 0)) (eE (iA nT (i_ 512)) (i_ 5))))))))))) jm oK)))) .nil) (.ifs (oM (eE nT (i_ 8)) (i_ 4)) (fO (.ret (.tup (e3 (fG (fG (.sl dZ .none (.some ni)) (.lst (e1 (.tup (e2 qi (.ix (.ix dZ ni) (i_ 1))))))) (.sl dZ (.some (fG ni (i_ 1))) .none)) jm oK)))) .nil) (.ifs (oM (eE nT (i_ 8)) (i_ 5)) (fO (.ret (.tup (e3 (fG (fG (.sl dZ .none (.some ni)) (.lst (e1 (.tup (e2 (.ix (.ix dZ ni) (i_ 0)) (.lst .nil)))))) (.sl dZ (.some (fG ni (i_ 1))) .none)) jm oK)))) .nil) (.casg 11 (.comp ["_law_word","_law_number"] [8] (.tup (e2 cE (.bin .Sub (fG dw (eE (iA dQ (i_ 64)) (i_ 3))) (i_ 1)))) (s_ 0 1) (.seq (.ix (.ix dZ ni) (i_ 1))) .none)) (.ret (.tup (e3 (fG (fG (.sl dZ .none (.some ni)) (.lst (e1 (.tup (e2 (.ix (.ix dZ ni) (i_ 0)) vo))))) (.sl dZ (.some (fG ni (i_ 1))) .none)) jm oK))))
def Gg:cF:=
 .cons (.tasg (F8 5 6 7) fN) (.cons (dG 8 (.call 0 (e2 cE dw))) (.cons (dG 9 (eE (iA nT (i_ 8)) (.blt .max (e2 (i_ 1) (iw dZ))))) (.cons (dG 10 (.ix (.ix dQ (eE (iA nT (i_ 64)) (iw dQ))) (i_ 0))) YJ)))
abbrev JH:M Str:=["_law_thing"]
def JI:cF:=
 fO (.ret (.and (.isi cE .int) (.not (.isi cE .bool))))
abbrev My:M Str:=["_law_script","_law_kinds_here","_law_words_here","_law_m","_law_readings","_law_pick","_law_thing"]
abbrev T6:cF:=
 DO (dG 6 (.call 1 (.cons cE (e4 (i_ 110) dw dZ dQ)))) (.ifs (oM (eE (iA fN (i_ 90)) (i_ 2)) (i_ 1)) (fO (dG 6 (.call 0 (.cons cE (e4 (i_ 130) dw jm dQ))))) .nil) (.ret (.tup (e3 dw gw jm)))
abbrev s5:CS:=
 dG 5 (.ix (fG (.lst (e1 (.tup (.cons (.lst .nil) (e4 (.lst .nil) (.lst .nil) (.lst .nil) (.lst .nil)))))) gw) (.bin .Sub (.neg (i_ 1)) (eE (iA fN (i_ 18)) (.blt .max (e2 (i_ 1) (iw gw))))))
abbrev sIf:CS:=
 .ifs (oM (eE (iA fN (i_ 6)) (i_ 3)) (i_ 0)) (fO (dG 4 (fG gw (.sl gw .none (.some (i_ 1)))))) .nil
abbrev T5:cF:=
 .cons sIf (.cons s5 T6)
def Mz:cF:=
 .cons (dG 1 (.call 5 (e1 cE))) (.cons (dG 2 (.call 4 (e1 cE))) (.cons (dG 3 (.call 3 (e2 cE (i_ 15)))) (.cons (.casg 4 (.comp ["_law_k"] [0,1,2] (.call 2 (.cons dw (e4 (fG (i_ 20) (.bin .Mult (i_ 20) cE)) dQ fN (.con (.bl B))))) (.name 0) (.range (e1 (.ix (.lst (.cons (i_ 2) (.cons (i_ 3) (e4 (i_ 1) (i_ 3) (i_ 4) (i_ 0))))) (eE fN (i_ 6))))) .none)) T5)))
abbrev YK:M Str:=["_law_script","_law_kinds_here","_law_readings","_law_thing","_law_handed","_law_found","_law_due","_law_k","_law_told"]
def wV:cF:=
 qe (dG 8 (.call 2 (e3 dw (.ix dQ oK) fN))) (.ifs (.cmp .IsNot nT mz) (fO (dG 6 (.tup (e2 oK nT)))) .nil)
def Qw:cF:=
 .cons (.tasg (F8 1 2 3) (.call 3 (e1 cE))) (.cons (dG 4 (.call 3 (e1 cE))) (.cons (dG 5 (.call 0 (e3 (.ix gw (i_ 0)) (.ix gw (i_ 1)) (.ix gw (i_ 2))))) (YF (dG 6 mz) (.forr (.name 7) (.rrg (iw dQ)) wV) (.ifs (.cmp .NotEq gw (.tup (e3 dw dQ fN))) (fO (.ret (.con (.bl B)))) .nil) (.ifs (.cmp .Is jm mz) (fO (.ret (.cmp .Is dZ mz))) .nil) (.ifs (.or (.not (.isi dZ .tuple)) (.or (.cmp .NotEq (iw dZ) (i_ 2)) (.or (.not (.call 1 (e1 (.ix dZ (i_ 0))))) (.cmp .NotEq dZ jm)))) (fO (.ret (.con (.bl B)))) .nil) (.expr (.mth .append (.ix dZ (i_ 1)) (e1 (i_ 0)))) (.ret (.and (oM (.call 0 (e3 (.ix gw (i_ 0)) (.ix gw (i_ 1)) (.ix gw (i_ 2)))) jm) (oM gw (.tup (e3 dw dQ fN))))))))
abbrev Ov:M Str:=["self","kinds","thing"]
def HX:cF:=
 Mw (.sfld 0 0 "sizes" (.comp ["kind","sizes"] [] (.blt .dict (e1 dw)) (s_ 0 1) (.seq (.ix dQ (i_ 0))) .none)) (.sfld 0 0 "uppers" (.comp ["kind","sizes"] [1] (.call 2 (e2 dQ cE)) (s_ 0 1) (.seq (.ix dQ (i_ 0))) .none)) (.sfld 0 0 "joins" (.blt .dictT (e1 (.comp ["join"] [] (.tup (e2 cE (.con (.bl W)))) (.name 0) (.seq (.ix dQ (i_ 1))) .none)))) (.sfld 0 0 "steps" (.ix dQ (i_ 2))) (.sfld 0 0 "marks" (.call 1 (e2 (.ix dQ (i_ 1)) (.ix dQ (i_ 2)))))
noncomputable def B8:M PG:=[]
def o9:M D->R D:=eW B8 1000 BY 3 wR
def o_:M D->R D:=eW B8 1000 BX 3 wQ
def kQ:M D->R D:=eW B8 1000 wN 2 rK
def mU(r:M D->R D):M PG:=[.fn o9 [],.jO 36 ["sizes","uppers","joins","steps","marks"],.fn o_ [],.fm r,.fn kQ []]
def d7:Nat->M D->R D
|0=>λ_=>.bad
|k+1=>eW (mU (d7 k)) 1000 pR 6 kC
def pV:M D->R D:=d7 7
def zb:M PG:=[.lam,.fm pV]
def mV:M D->R D:=eW zb 1000 za 4 ux
def Gh:M PG:=[.fn mV []]
def oS:M D->R D:=eW Gh 1000 tw 4 oN
noncomputable def DV:M PG:=[.jO 36 ["sizes","uppers","joins","steps","marks"]]
def qF:M D->R D:=eW DV 1000 DT 3 yE
noncomputable def DW:M PG:=[.jO 36 ["sizes","uppers","joins","steps","marks"]]
def qG:M D->R D:=eW DW 1000 DS 3 yD
def tD:M D->R D:=eW B8 1000 F_ 3 Ag
def jW:M D->R D:=eW B8 1000 AF 2 vp
def nD:M D->R D:=eW B8 1000 F9 2 Af
def B_:M PG:=[.fn qF [],.fn qG [],.fn tD [],.fn jW [],.jO 36 ["sizes","uppers","joins","steps","marks"],.fn nD []]
def mW:M D->R D:=eW B_ 1000 BW 3 wM
def xV:M PG:=[.fn oS [],.fn mW [],.fn jW [],.jO 36 ["sizes","uppers","joins","steps","marks"]]
def gK:M D->R D:=eW xV 1000 xU 2 tu
def qH:M D->R D:=eW B8 1000 DR 2 yC
def Ow:M PG:=[.jO 36 ["sizes","uppers","joins","steps","marks"],.fn nD [],.fn qH []]
def uz:M D->R D:=EO Ow 1000 Ov 3 36 HX
def MA:M PG:=[.fn gK [],.fn uz []]
def rL:M D->R D:=eW MA 1000 Mx 3 ES
def xW:M D->R D:=eW B8 1000 JH 1 JI
def Ca:M PG:=[.fn gK [],.fn uz []]
def jI:M D->R D:=eW Ca 1000 BV 3 wL
def gY:M D->R D:=eW B8 1000 Ou 2 C8
def Qx:M PG:=[.fn gY []]
def tE:M D->R D:=eW Qx 1000 Gf 5 Gg
def lP:M D->R D:=eW B8 1000 Gb 2 Ah
def Gm:M PG:=[.fn lP []]
def nE:M D->R D:=eW Gm 1000 Gc 2 Ai
def wX:M PG:=[.fn nE [],.fn gY []]
def kR:M D->R D:=eW wX 1000 B7 6 tB
def AI:M PG:=[.fn gY [],.fn kR []]
def nV:M D->R D:=eW AI 1000 AG 5 vq
def pW:M D->R D:=eW B8 1000 Ge 1 vR
def Gn:M PG:=[.fn gY [],.fn lP []]
def tF:M D->R D:=eW Gn 1000 Gd 4 Aj
def DY:M PG:=[.fn nE [],.fn gY [],.fn pW [],.fn tF []]
def qI:M D->R D:=eW DY 1000 DU 5 yF
def JJ:M PG:=[.fn gY []]
def rZ:M D->R D:=eW JJ 1000 JE 3 BZ
def JK:M PG:=[.fn rZ []]
def uY:M D->R D:=eW JK 1000 JG 1 B6
def JL:M PG:=[.fn gY [],.fn rZ []]
def uZ:M D->R D:=eW JL 1000 JF 1 B0
def XA:M PG:=[.fn tE [],.fn nV [],.fn qI [],.fn gY [],.fn uY [],.fn uZ []]
def wY:M D->R D:=eW XA 1000 My 1 Mz
def YL:M PG:=[.fn rL [],.fn xW [],.fn jI [],.fn wY []]
def KL:M D->R D:=eW YL 1000 YK 1 Qw
def BN:M Str:=["all","any","bool","dict","enumerate","int","isinstance","len","list","max","min","range","reversed","sorted","tuple"]
def aaQ(s:Stmt):M Stmt:=match s with
|.ClassDef _ _ _ b _ _ _ _ _ _ _=>b
|_=>[]
def Cb:FD:=#["steps_hold",top 18,BY,3,[]]
theorem MB:Cb.iL BN wR=W:=by rfl
def Cc:FD:=#["joins_hold",top 17,BX,3,[]]
theorem MC:Cc.iL BN wQ=W:=by rfl
def wZ:FD:=#["all_shut_found",top 16,wN,2,[]]
theorem ET:wZ.iL BN rK=W:=by rfl
def zc:FD:=#["finding_from",top 15,pR,6,["steps_hold","$Ready","joins_hold","finding_from","all_shut_found"]]
theorem HZ:zc.iL BN kC=W:=by rfl
def zd:FD:=#["some_finding",top 14,za,4,["some_finding","finding_from"]]
theorem H9:zd.iL BN ux=W:=by rfl
def xX:FD:=#["first_finding",top 13,tw,4,["some_finding"]]
theorem Gp:xX.iL BN oN=W:=by rfl
def DZ:FD:=#["has_marks",top 12,DT,3,["$Ready"]]
theorem Nt:DZ.iL BN yE=W:=by rfl
def D0:FD:=#["has_sizes",top 11,DS,3,["$Ready"]]
theorem Nu:D0.iL BN yD=W:=by rfl
def Gq:FD:=#["open_for",top 10,F_,3,[]]
theorem Qy:Gq.iL BN Ag=W:=by rfl
def AJ:FD:=#["parts_under",top 7,AF,2,[]]
theorem Kc:AJ.iL BN vp=W:=by rfl
def Gr:FD:=#["marks_of",top 9,F9,2,[]]
theorem Qz:Gr.iL BN Af=W:=by rfl
def Cd:FD:=#["choices_of",top 8,BW,3,["has_marks","has_sizes","open_for","parts_under","$Ready","marks_of"]]
theorem MD:Cd.iL BN wM=W:=by rfl
def xY:FD:=#["finding_ready",top 6,xU,2,["first_finding","choices_of","parts_under","$Ready"]]
theorem Gs:xY.iL BN tu=W:=by rfl
def D3:FD:=#["uppers_of",top 1,DR,2,[]]
theorem Nv:D3.iL BN yC=W:=by rfl
def Ox:FD:=#["Ready",(aaQ (top 3)).getD 0 (.Pass #[0,0,0,0]),Ov,3,["$Ready","marks_of","uppers_of"]]
theorem aaR:Ox.iL BN HX=W:=by rfl
def ME:FD:=#["covers",top 4,Mx,3,["finding_ready","Ready"]]
theorem XC:ME.iL BN ES=W:=by rfl
def JM:FD:=#["_law_whole",top 32,JH,1,[]]
theorem TF:JM.iL BN JI=W:=by rfl
def Ce:FD:=#["finding_in",top 5,BV,3,["finding_ready","Ready"]]
theorem MF:Ce.iL BN wL=W:=by rfl
def Oz:FD:=#["_law_mix",top 20,Ou,2,[]]
theorem aaS:Oz.iL BN C8=W:=by rfl
def Gu:FD:=#["_law_spoilt",top 31,Gf,5,["_law_mix"]]
theorem QB:Gu.iL BN Gg=W:=by rfl
def Gv:FD:=#["_law_uppers",top 24,Gb,2,[]]
theorem QC:Gv.iL BN Ah=W:=by rfl
def Gw:FD:=#["_law_lowers",top 25,Gc,2,["_law_uppers"]]
theorem QD:Gw.iL BN Ai=W:=by rfl
def Cf:FD:=#["_law_part_for",top 29,B7,6,["_law_lowers","_law_mix"]]
theorem MG:Cf.iL BN tB=W:=by rfl
def AK:FD:=#["_law_thing_for",top 30,AG,5,["_law_mix","_law_part_for"]]
theorem Kd:AK.iL BN vq=W:=by rfl
def Gx:FD:=#["_law_bounds",top 27,Ge,1,[]]
theorem QE:Gx.iL BN vR=W:=by rfl
def Gy:FD:=#["_law_groups",top 26,Gd,4,["_law_mix","_law_uppers"]]
theorem QF:Gy.iL BN Aj=W:=by rfl
def D4:FD:=#["_law_reading",top 28,DU,5,["_law_lowers","_law_mix","_law_bounds","_law_groups"]]
theorem Nx:D4.iL BN yF=W:=by rfl
def JN:FD:=#["_law_names",top 21,JE,3,["_law_mix"]]
theorem TH:JN.iL BN BZ=W:=by rfl
def JO:FD:=#["_law_words",top 23,JG,1,["_law_names"]]
theorem TJ:JO.iL BN B6=W:=by rfl
def JP:FD:=#["_law_kinds",top 22,JF,1,["_law_mix","_law_names"]]
theorem TL:JP.iL BN B0=W:=by rfl
def MH:FD:=#["_law_case",top 33,My,1,["_law_spoilt","_law_thing_for","_law_reading","_law_mix","_law_words","_law_kinds"]]
theorem XD:MH.iL BN Mz=W:=by rfl
def xZ:FD:=#["law",top 34,YK,1,["covers","_law_whole","finding_in","_law_case"]]
theorem ae6:xZ.iL BN Qw=W:=by rfl
end Tr
end
section
namespace K2
open PySem L2 L3
def lQ{β:Type}{g:D->br->R br}{b:br->Fl}(enc:β->D)(xs:M β)(I:M β->br->Prop)(h:∀pre x post,xs=pre++x::post->∀U,I pre U->∃σ2 σ3,g (enc x) U=.ok σ2/\b σ2=.nx σ3/\I (pre++[x]) σ3)(U:br)(h0:I [] U):∃σ',forR g b (xs.map enc) U=.nx σ'/\I xs σ':=by
 have go:∀(post pre:M β) (U:br),xs=pre++post->I pre U->∃σ',forR g b (post.map enc) U=.nx σ'/\I xs σ':=by
  intro post;induction post with
  |nil=>intro pre U e hi;rw[e,d_];exact#[U,rfl,hi]
  |cons x r ih=>
   intro pre U e hi;let#[σ2,σ3,h1,h2,h3]:=h pre x r e U hi;let#[σ',h4,h5]:=ih (pre++[x]) σ3 (by rw[e,dF];rfl) h3;refine#[σ',?_,h5];rw[bJ];show(g (enc x) U).bA _=_;rw[h1];simp only[R.bA,h2];exact h4
 exact go xs [] U rfl h0
end K2
end
section
namespace K3
open PySem L2 L3 Tr
def b_(l:M J):aA (l.map D.int)=l.map D.int:=dR _ (λ_=>rfl) l
def cg(l:M Str):aA (l.map D.str)=l.map D.str:=dR _ (λ_=>rfl) l
def cA(ns:M J):bq (bB ns)=bB ns:=by
 show D.lst B (aA _)=_;rw[b_];rfl
def dH(a:J){b:J}(h:0<b):0<=a%b/\a%b<b:=#[Int.emod_nonneg _ (by lia),Int.emod_lt_of_pos _ h]
def j7{α:Type}(xs:M α)(i:J)(h0:0<=i)(h1:i<zl xs):∃j,∃(h:j<zl xs),i=(j:J)/\dj xs i=L xs[j]:=by
 let#[j,rfl]:=ju h0;have hj:j<zl xs:=by lia
 refine#[j,hj,rfl,y9 ?_ (aq hj)];unfold iU;simp;omega
noncomputable def H_(c k:J):J:=(c%1000000007+7*k+1)*(48271+97*k*k)%2147483629*((c%1000000007+7*k+1)*(48271+97*k*k)%2147483629)%2147483587
def KN(c k:J):0<=H_ c k/\H_ c k<2147483587:=dH _ (by decide)
def nF(ns:M J)(k:J)(hk:0<=k/\k<2 ^ 20):∃m:J,0<=m/\m<2147483587/\gY [bB ns,.int k]=.ok (.int m):=by
 by_cases h:zl ns=0
 .refine#[H_ 0 k,(KN _ _).1,(KN _ _).2,?_];have e:decide ((0:J)<(zl ns:J))=B:=bW (by lia);unfold gY C8 B8 bB H_;erw[e,b_]
 .obtain⟨b0,b1⟩:=dH k (b:=(zl ns:J)) (by lia);let#[j,hj,ej,ea]:=j7 (ns.map D.int) (k%(zl ns:J)) b0 (by rw[aa];exact b1);rw[dc]at ea;refine#[H_ (ns[j]'(by simpa using hj)) k,(KN _ _).1,(KN _ _).2,?_];have e:decide ((0:J)<(zl ns:J))=W:=a_ (by lia);have hp:(0:J)<(zl ns:J):=by lia
  unfold gY C8 B8 bB H_;erw[e,ea,b_]
noncomputable abbrev uA:Str:="bdfgjkmpqrvwxyz"
def C9:zl uA.cps.toList=15:=by decide
def str_len(x y:Str):(x++y).length=x.length+y.length:=by
 show(x.cps++y.cps).size=_;rw[Array.size_append];rfl
def yW(l:M Nat)(a b:abM J):zl (cut l a b)<=zl l:=by
 unfold cut;simp
 lia
def vS(m:J)(stem:M Nat)(at_:J)(j:Nat):Str:=
 (⟨(cut stem S (L at_)).toArray⟩++⟨#[(dj uA.cps.toList ((m / 375+(j:J))%15)).getD 0]⟩)++⟨(cut stem (L at_) S).toArray⟩
def TM{m:J}{stem:M Nat}{at_:J}{i j:Nat}(hi:i<15)(hj:j<15)(h:vS m stem at_ i=vS m stem at_ j):i=j:=by
 have h1:(vS m stem at_ i).cps.toList=(vS m stem at_ j).cps.toList:=by rw[h]
 have e:∀k:Nat,(vS m stem at_ k).cps.toList=cut stem S (L at_)++([(dj uA.cps.toList ((m / 375+(k:J))%15)).getD 0]++cut stem (L at_) S):=λk=>by
  show(((cut stem S (L at_)).toArray++#[_])++(cut stem (L at_) S).toArray).toList=_;rw[lu,lu,dF]
 rw[e,e]at h1;have h2:=List.append_cancel_left h1;have h3:=(abu h2).1;let#[c0,c1]:=dH (m / 375+(i:J)) (b:=15) (by decide);let#[d0,d1]:=dH (m / 375+(j:J)) (b:=15) (by decide);let#[a,ha,ea,qa]:=j7 uA.cps.toList ((m / 375+(i:J))%15) c0 (by rw[C9];exact c1);let#[b,hb,eb,qb]:=j7 uA.cps.toList ((m / 375+(j:J))%15) d0 (by rw[C9];exact d1);rw[qa,qb]at h3;have h4:=(E3 (by decide)).mp h3
 lia
def C_(ns:M J)(k many:J)(hk:0<=k/\k<2 ^ 20)(hm:0<=many/\many<=9):∃ss:M Str,(ss.length:J)=many/\ss.Nodup/\(∀s∈ss,1<=s.length/\s.length<=20)/\rZ [bB ns,.int k,.int many]=.ok (.lst W (ss.map D.str)):=by
 let#[m,m0,m1,qm]:=nF ns k hk;have hs:=szl;let#[c0,c1]:=dH m (b:=15) (by decide);let#[j,hj,ej,ea]:=j7 uA.cps.toList (m%15) c0 (by rw[C9];exact c1);let#[d0,d1]:=dH (m / 15) (b:=5) (by decide);generalize hst:yY ⟨#[uA.cps.toList[j]]⟩ (m / 15%5).toNat=stem;have lst:stem.length<=5:=by
  rw[<-hst];unfold yY iD;simp
  lia
 refine#[(bM many.toNat).map (vS m stem.cps.toList (m / 75%((stem.length:J)+1))),by simp;lia,Dy.mpr (Na (λ{i j} hi hj hne h=>hne (TM (by have:=gc.mp hi;lia) (by have:=gc.mp hj;lia) h)) (List.nodup_range)),?_,?_]
 .intro s hs';let#[i,_,rfl]:=ck.mp hs';have h1:=yW stem.cps.toList S (L (m / 75%((stem.length:J)+1)));have h2:=yW stem.cps.toList (L (m / 75%((stem.length:J)+1))) S;have h3:stem.cps.toList.length=stem.length:=rfl;unfold vS;rw[str_len,str_len];simp only[iD,aV,cL,jU]at *;constructor<;>(simp;lia)
 .have hr:0<=m / 15%5/\m / 15%5<2 ^ 40/\(iD ⟨#[uA.cps.toList[j]]⟩)*(m / 15%5).toNat<=aj:=#[d0,by lia,by rw[hs];show 1*_<=_;lia];unfold rZ BZ JJ;erw[cA,qm,ea,hst];generalize hat:m / 75%((stem.length:J)+1)=at_;rw[show gx 0 many.toNat=(bM many.toNat).map (λi:Nat=>D.int (0+(i:J)))from rfl,kB (λi:Nat=>D.int (0+(i:J))) (λU=>∃o,U=[o,L (.str uA),L (.int m),L (.str stem),L (.int at_)]) (λi=>D.str (vS m stem.cps.toList at_ i)) (bM many.toNat) _ #[S,rfl] (by
   rintro i _ U ⟨o,rfl⟩;refine#[[L (.int (0+(i:J))),L (.str uA),L (.int m),L (.str stem),L (.int at_)],rfl,#[_,rfl],?_];let#[c0,c1]:=dH (m / 375+(i:J)) (b:=15) (by decide);let#[j2,hj2,ej2,ea2]:=j7 uA.cps.toList ((m / 375+(i:J))%15) c0 (by rw[C9];exact c1);have h1:=yW stem.cps.toList S (L at_);have h2:=yW stem.cps.toList (L at_) S;have h3:stem.cps.toList.length=stem.length:=rfl;have l1:(iD ⟨(cut stem.cps.toList S (L at_)).toArray⟩)+(iD ⟨#[uA.cps.toList[j2]]⟩)<=aj:=by
    rw[hs];simp only[iD,aV]at *;simp;lia
   have l2:(iD (⟨(cut stem.cps.toList S (L at_)).toArray⟩++⟨#[uA.cps.toList[j2]]⟩))+(iD ⟨(cut stem.cps.toList (L at_) S).toArray⟩)<=aj:=by
    rw[str_len,hs];simp only[iD,aV]at *;simp;lia
   unfold vS;erw[ea2,Option.getD_some,CP])]
  erw[];rw[bK];rfl
def nG{g:D->br->R br}{b:br->Fl}(n:Nat)(I:Nat->br->Prop)(h:∀k<n,∀U,I k U->∃σ2 σ3,g (.int (k:J)) U=.ok σ2/\b σ2=.nx σ3/\I (k+1) σ3)(U:br)(h0:I 0 U):∃σ',forR g b (gx 0 n) U=.nx σ'/\I n σ':=by
 have e:gx 0 n=(yR 0 n).map λk:Nat=>D.int (k:J):=by
  unfold gx;rw[Az];simp
 have go:∀(m j:Nat) (U:br),j+m=n->I j U->∃σ',forR g b ((yR j m).map λk:Nat=>D.int (k:J)) U=.nx σ'/\I n σ':=by
  intro m;induction m with
  |zero=>intro j U hj hi;rw[show n=j by lia];exact#[U,rfl,hi]
  |succ m ih=>
   intro j U hj hi;let#[σ2,σ3,h1,h2,h3]:=h j (by lia) U hi;let#[σ',h4,h5]:=ih (j+1) σ3 (by lia) h3;refine#[σ',?_,h5];rw[Fj,bJ];show(g (.int (j:J)) U).bA _=_;rw[h1];simp only[R.bA,h2];exact h4
 rw[e];exact go n 0 U (by lia) h0
def j8(s:Str):Prop:=s.length<=20
noncomputable def AL(p:Str×Str):D:=.tup [.str p.1,.str p.2]
abbrev cG(ks:M (Str×Str)):M D:=ks.map AL
def ki(ks:M (Str×Str)):aA (cG ks)=cG ks:=dR AL (λ_=>rfl) ks
def kT(l:M Str):aX (l.map D.str)=W:=by
 induction l with
 |nil=>rfl
 |cons x r ih=>exact ih
def o_ks(ks:M (Str×Str)):aX (cG ks)=W:=by
 induction ks with
 |nil=>rfl
 |cons x r ih=>exact ih
def lC{α:Type}{xs:M α}{j:Nat}{x:α}(h:xs[j]?=L x):dj xs (j:J)=L x:=by
 have hj:j<zl xs:=by
  rcases Nat.lt_or_ge j (zl xs) with q|q
  .exact q
  .simp_all
 refine y9 ?_ h;unfold iU;simp;omega
def aaT(ns:M J):∃a b c:M Str,a.length=3/\b.length=2/\c.length=2/\(∀s∈a,j8 s)/\(∀s∈b,j8 s)/\(∀s∈c,j8 s)/\uY [bB ns]=.ok (.tup [.lst W (a.map D.str),.lst W (b.map D.str),.lst W (c.map D.str)]):=by
 let#[a,a1,_,a2,qa]:=C_ ns 12 3 (by lia) (by lia);let#[b,b1,_,b2,qb]:=C_ ns 13 2 (by lia) (by lia);let#[c,c1,_,c2,qc]:=C_ ns 14 2 (by lia) (by lia);refine#[a,b,c,by lia,by lia,by lia,λs h=>(a2 s h).2,λs h=>(b2 s h).2,λs h=>(c2 s h).2,?_];have hs:=szl;unfold uY B6 JK;erw[cA,qa,qb,qc,kT]
structure ze (ks:M (Str×Str)):Prop where
 l3:3<=zl ks
 l8:zl ks<=8
 ho:∀p∈ks,j8 p.1/\j8 p.2
 nd:(ks.map (·.1)).Nodup
 gd:∀(i:Nat) (p:Str×Str),ks[i]?=L p->p.2=""\/p.2∈(ks.map (·.1)).take i
def aaU(ns:M J):∃ks:M (Str×Str),ze ks/\uZ [bB ns]=.ok (.lst W (cG ks)):=by
 let#[m1,m10,m11,q1]:=nF ns 1 (by lia);have b6:=dH m1 (b:=6) (by decide);let#[ss,sl,snd,sb,qn]:=C_ ns 2 (3+m1%6) (by lia) (by lia);have hs:=szl;have rg:-(2 ^ 62)<=3+m1%6/\(3+m1%6).toNat<=aj:=by lia
 unfold uZ B0;unfold JL;erw[cA,q1,qn,kT];let#[σ',h1,ks,kv,mv,uv,hl,hk,he,hg,rfl]:=nG (g:=pG (.name 4)) (3+m1%6).toNat
  (λk U=>∃(ks:M (Str×Str)) (kv mv uv:abM D),ks.length=k/\(∀p∈ks,j8 p.1/\j8 p.2)/\ks.map (·.1)=ss.take k/\(∀(i:Nat) (p:Str×Str),ks[i]?=L p->p.2=""\/p.2∈ss.take i)/\U=[L (bB ns),L (.int (3+m1%6)),L (.lst W (ss.map D.str)),L (.lst W (cG ks)),kv,mv,uv]) (by
  rintro k hk U ⟨ks,kv,mv,uv,hl,hp,he,hg,rfl⟩;let#[m,m0,m1',qm]:=nF ns (3+(k:J)) (by lia);refine#[[L (bB ns),L (.int (3+m1%6)),L (.lst W (ss.map D.str)),L (.lst W (cG ks)),L (.int k),mv,uv],?_];have hkl:k<ss.length:=by lia
  have ek:dj (ss.map D.str) (k:J)=L (D.str ss[k]):=lC (by rw[bg,aq hkl];rfl);have hkn:(cG ks).length<aj:=by rw[aa];lia
  suffices hh:∃u:Str,j8 u/\(u=""\/u∈ss.take k)/\b9 [PG.fn gY [],PG.fn rZ []] 1000 wU [L (bB ns),L (.int (3+m1%6)),L (.lst W (ss.map D.str)),L (.lst W (cG ks)),L (.int k),mv,uv]=Fl.nx [L (bB ns),L (.int (3+m1%6)),L (.lst W (ss.map D.str)),L (.lst W (cG (ks++[(ss[k],u)]))),L (.int k),L (.int m),L (.str u)]by
   let#[u,hu,hu2,he2]:=hh;refine#[_,rfl,he2,ks++[(ss[k],u)],_,_,_,by simp[hl],λp hp'=>?_,?_,λi p hip=>?_,rfl]
   rotate_left
   .rw[bE,he,ve,List.take_succ_eq_append_getElem hkl]
   .rcases Nat.lt_trichotomy i ks.length with q|q|q
    .exact hg i p (by rwa[cI q]at hip)
    .subst q;rw[List.getElem?_concat_length]at hip;cases hip;rw[hl];exact hu2
    .rw[List.getElem?_eq_none (by simp;lia)]at hip;cases hip
   rcases bw.mp hp' with q|q
   .exact hp p q
   .rw[aQ.mp q];exact#[(sb _ (cz hkl)).2,hu]
  unfold wU;have fin:∀u:Str,cG ks++[D.tup [.str ss[k],.str u]]=cG (ks++[(ss[k],u)]):=λu=>by simp[cG,AL]
  erw[cA,qm];by_cases c1:(0:J)<(k:J)
  .rw[a_ c1];erw[];by_cases c2:(0:J)<m%4
   .rw[a_ c2];let#[b1,b2]:=dH (m / 4) c1;let#[j,hj,ej,ea]:=j7 (ss.map D.str) (m / 4%(k:J)) b1 (by rw[aa];lia);rw[dc]at ea;refine#[ss[j]'(by simpa using hj),(sb _ (cz _)).2,.inr (vY.mpr #[j,by have:j<k:=(by lia);simp;lia,rfl]),?_];erw[ea,ek,cg];rw[jH rfl hkn rfl];erw[fin]
   .rw[bW c2];refine#["",(by unfold j8;decide),.inl rfl,?_];erw[ek,cg];rw[jH rfl hkn rfl];erw[fin]
  .rw[bW c1];refine#["",(by unfold j8;decide),.inl rfl,?_];erw[ek,cg];rw[jH rfl hkn rfl];erw[fin]) [L (bB ns),L (.int (3+m1%6)),L (.lst W (ss.map D.str)),L (.lst W []),S,S,S] #[[],_,_,_,rfl,λp hp=>aH hp aD,by simp,λi p hip=>by simp at hip,rfl]
 have hss:ss.take (3+m1%6).toNat=ss:=fV (by lia);rw[hss]at he;refine#[ks,#[by lia,by lia,hk,he▸snd,by rw[he];exact hg],?_];rw[h1];erw[]
def zM{α:Type}(xs:M α)(x:α):dj (xs++[x]) (-1)=L x:=by
 have e:iU (zl (xs++[x])) (-1)=L (zl xs):=by
  unfold iU;rw[aG (by decide)];simp only[bf,cL,jU]
  (rw[aF (by lia)];congr 1;lia)
 unfold dj;rw[e];simp
theorem tG{β:Type}{g:D->br->R br}{c:br->R Bool}{e:br->R D}(enc:β->D)(I:br->Prop)(T:β->Bool->Prop)(f:β->D):∀(xs:M β) (U:br),I U->(∀x∈xs,∀U,I U->∃σ2 b,g (enc x) U=.ok σ2/\I σ2/\c σ2=.ok b/\T x b/\e σ2=.ok (f x))->
 ∃ys:M β,dS g c e (xs.map enc) U=.ok (ys.map f)/\(∀y∈ys,y∈xs)/\zl ys<=zl xs/\∀x∈xs,(∀b,T x b->b=W)->x∈ys
|[],U,_,_=>#[[],rfl,λ_ h=>h,aK _,λ_ h=>aH h aD]
|x::r,U,hi,h=>by
 let#[σ2,b,h1,h2,h3,h4,h5]:=h x aB U hi;let#[ys,i1,i2,i3,i4]:=tG enc I T f r σ2 h2 λy hy=>h y (ao _ hy);have ih:=i1;cases b with
 |true=>
  refine#[x::ys,?_,λy hy=>?_,by simp;omega,λy hy hT=>?_]
  .show(g (enc x) U).bind _=_;rw[h1];simp only[R.bind,h3,jT,h5,ih];rfl
  .grind
  .rcases be.mp hy with q|q
   .rw[q];exact aB
   .exact ao _ (i4 y q hT)
 |false=>
  refine#[ys,?_,λy hy=>ao _ (i2 y hy),by simp;lia,λy hy hT=>?_]
  .show(g (enc x) U).bind _=_;rw[h1];simp only[R.bind,h3,gq,iF];exact ih
  .rcases be.mp hy with q|q
   .subst q;exact aH (hT B h4) bU
   .exact i4 y q hT
def MI(ks:M (Str×Str))(hk:zl ks<=8)(ho:∀p∈ks,j8 p.1/\j8 p.2)(a:Str)(ha:j8 a):∃row:M Str,a∈row/\zl row<=9/\(∀s∈row,j8 s)/\lP [.lst B (cG ks),.str a]=.ok (.lst W (row.map D.str)):=by
 have hs:=szl;unfold lP Ah B8;erw[ki];rw[<-Fk];let#[σ',h1,row,l,nv,uv,r1,r2,r3,rfl]:=K2.lQ (g:=pG (.tup (.cons (.name 3) (.cons (.name 4) .nil)))) (b:=b9 [] 1000 nU) AL ks.reverse
  (λpre U=>∃(row:M Str) (l:Str) (nv uv:abM D),a∈row++[l]/\zl row<=zl pre/\(∀s∈row++[l],j8 s)/\U=[L (.lst B (cG ks)),L (.str a),L (.lst W ((row++[l]).map D.str)),nv,uv]) (by
  rintro pre ⟨x,y⟩ post hx U ⟨row,l,nv,uv,r1,r2,r3,rfl⟩;have hm:(x,y)∈ks:=List.mem_reverse.mp (by rw[hx];simp);have hpl:zl pre<8:=by
   have:=jc uK hx;simp at this
   lia
  refine#[[L (.lst B (cG ks)),L (.str a),L (.lst W ((row++[l]).map D.str)),L (.str x),L (.str y)],?_];have el:dj ((row++[l]).map D.str) (-1)=L (D.str l):=by
   rw[bE];exact zM _ _
  have hlen:zl ((row++[l]).map D.str)<aj:=by simp;lia
  unfold AL nU;have st:∃σ3,b9 [] 1000 nU [L (.lst B (cG ks)),L (.str a),L (.lst W ((row++[l]).map D.str)),L (.str x),L (.str y)]=.nx σ3 /\
    ∃(row':M Str) (l':Str) (nv uv:abM D),a∈row'++[l']/\zl row'<=zl (pre++[(x,y)])/\(∀s∈row'++[l'],j8 s)/\σ3=[L (.lst B (cG ks)),L (.str a),L (.lst W ((row'++[l']).map D.str)),nv,uv]:=by
   unfold nU;generalize hR:(row++[l]).map D.str=RR at el hlen;have fr:aA RR=RR:=by rw[<-hR];exact cg _
   by_cases c1:(x==l)=W
   .by_cases c2:(y==pF "")=W
    .erw[el,fr,c1,c2];exact#[_,rfl,row,l,_,_,r1,by first|omega|(simp;lia),r3,by rw[<-hR]]
    .rw[dD]at c2;erw[el,fr,c1,c2];rw[jH rfl hlen rfl];erw[];refine#[_,rfl,row++[l],y,_,_,bC _ r1,by first|lia|(simp;omega),λs hs'=>?_,by rw[bE,hR];rfl];rcases bw.mp hs' with q|q
     .exact r3 s q
     .rw[aQ.mp q];exact(ho _ hm).2
   .rw[dD]at c1;erw[el,fr,c1];exact#[_,rfl,row,l,_,_,r1,by first|omega|(simp;lia),r3,by rw[<-hR]]
  let#[σ3,e3,e4]:=st;refine#[σ3,?_,e3,e4];erw[]) [L (.lst B (cG ks)),L (.str a),L (.lst W [.str a]),S,S] #[[],a,S,S,by simp,by simp,by simpa using ha,rfl]
 refine#[row++[l],r1,by simp at r2 ⊢;lia,r3,?_];rw[h1];erw[]
def Ia(l:M Str):jw (l.map D.str)=W:=by
 induction l with
 |nil=>rfl
 |cons x r ih=>exact ih
def XE{a:Str}{l:M Str}(h:a∈l):memD (.str a) (l.map D.str)=W:=by
 unfold memD;rw[tU,kZ];refine#[a,h,?_];show(a==a)=W;simp
def MJ(ks:M (Str×Str))(hk:zl ks<=8)(ho:∀p∈ks,j8 p.1/\j8 p.2)(a:Str)(ha:a∈ks.map (·.1)):∃ys:M Str,ys≠[]/\zl ys<=8/\(∀s∈ys,s∈ks.map (·.1))/\nE [.lst B (cG ks),.str a]=.ok (.lst W (ys.map D.str)):=by
 have hs:=szl;let#[p0,hp0,ep0]:=ck.mp ha;unfold nE Ai Gm;erw[ki];let#[ys,h1,h2,h3,h4]:=tG (g:=pG (.tup (.cons (.name 0) (.cons (.name 1) .nil)))) (c:=pT [PG.fn lP []] (.cmp .In (.var 3) (.call 0 (.cons (.var 2) (.cons (.var 0) .nil))))) (e:=pE [PG.fn lP []] (.var 0)) AL
  (λU=>∃o1 o2,U=[o1,o2,L (.lst B (cG ks)),L (.str a)]) (λx b=>x.1=a->b=W) (λx=>D.str x.1) ks [S,S,L (.lst B (cG ks)),L (.str a)] #[_,_,rfl] (by
  rintro⟨x,y⟩ hx U ⟨o1,o2,rfl⟩;let#[row,r1,r2,r3,qu]:=MI ks hk ho x (ho _ hx).1;refine#[[L (.str x),L (.str y),L (.lst B (cG ks)),L (.str a)],memD (.str a) (row.map D.str),?_,#[_,_,rfl],?_,?_,?_]
  .rfl
  .have nn:=Ia row;erw[qu,ki];rw[ER rfl nn];rfl
  .intro e;subst e;exact XE r1
  .erw[])
 refine#[ys.map (·.1),?_,by simp;lia,λs hs'=>?_,?_]
 .have:=h4 p0 hp0 λb hb=>hb ep0;intro z;rw[A6]at z;rw[z]at this;cases this
 .obtain⟨y,hy,rfl⟩:=ck.mp hs';exact ck.mpr #[y,h2 y hy,rfl]
 .rw[h1];erw[];rw[bK];rfl
mutual
noncomputable def pl:D->Nat->Bool
|.non,_=>W
|.bl _,_=>W
|.int _,_=>W
|.str _,_=>W
|.tup xs,n=>match n with
 |0=>B
 |n+1=>AM xs n
|_,_=>B
noncomputable def AM:M D->Nat->Bool
|[],_=>W
|d::r,n=>pl d n&&AM r n
end
mutual
theorem adB:∀(d:D) (n:Nat),pl d n=W->bq d=d/\aU d=W/\gT d d=W/\∀m,n<=m->fU d m=W
|.non,n,h=>#[rfl,rfl,rfl,λ_ _=>by simp[fU]]
|.bl b,n,h=>#[rfl,rfl,by simp[gT],λ_ _=>by simp[fU]]
|.int i,n,h=>#[rfl,rfl,by simp[gT],λ_ _=>by simp[fU]]
|.str x,n,h=>#[rfl,rfl,by simp[gT],λ_ _=>by simp[fU]]
|.tup xs,0,h=>by simp[pl]at h
|.tup xs,n+1,h=>by
 let#[h1,h2,h3,h4]:=pY xs n (by simpa[pl]using h);refine#[by simp[bq,h1],by simp[aU,h2],by simp[gT,h3],λm hm=>?_];obtain⟨k,rfl⟩:∃k,m=k+1:=#[m-1,by omega];simp[fU,h4 k (by omega)]
|.lst _ _,n,h=>by simp[pl]at h
|.bS _ _ _,n,h=>by simp[pl]at h
theorem pY:∀(ds:M D) (n:Nat),AM ds n=W->aA ds=ds/\aX ds=W/\nq ds ds=W/\∀m,n<=m->cU ds m=W
|[],n,h=>#[rfl,rfl,rfl,λ_ _=>by simp[cU]]
|d::r,n,h=>by
 have h:pl d n=W/\AM r n=W:=by simpa[AM]using h
 let#[a1,a2,a3,a4]:=adB d n h.1;let#[b1,b2,b3,b4]:=pY r n h.2;exact#[by simp[aA,a1,b1],by simp[aX,a2,b2],by simp[nq,a3,b3],λm hm=>by simp[cU,a4 m hm,b4 m hm]]
end
def zf{ds:M D}{n:Nat}(h:∀d∈ds,pl d n=W):AM ds n=W:=by
 induction ds with
 |nil=>simp[AM]
 |cons d r ih=>simp[AM,h d aB,ih λx hx=>h x (ao _ hx)]
def Ny{g:D->br->R br}{b:br->Fl}(n:Nat)(I:Nat->br->Prop)(h:∀k<n,∀U,I k U->∃σ2 σ3,g (.int (k:J)) U=.ok σ2/\(b σ2=.nx σ3\/b σ2=.ct σ3)/\I (k+1) σ3)(U:br)(h0:I 0 U):∃σ',forR g b (gx 0 n) U=.nx σ'/\I n σ':=by
 have e:gx 0 n=(yR 0 n).map λk:Nat=>D.int (k:J):=by
  unfold gx;rw[Az];simp
 have go:∀(m j:Nat) (U:br),j+m=n->I j U->∃σ',forR g b ((yR j m).map λk:Nat=>D.int (k:J)) U=.nx σ'/\I n σ':=by
  intro m;induction m with
  |zero=>intro j U hj hi;rw[show n=j by lia];exact#[U,rfl,hi]
  |succ m ih=>
   intro j U hj hi;let#[σ2,σ3,h1,h2,h3]:=h j (by lia) U hi;let#[σ',h4,h5]:=ih (j+1) σ3 (by lia) h3;refine#[σ',?_,h5];rw[Fj,bJ];show(g (.int (j:J)) U).bA _=_;rw[h1];rcases h2 with h2|h2<;>(simp only[R.bA,h2];exact h4)
 rw[e];exact go n 0 U (by lia) h0
theorem ia{β:Type}{g:D->br->R br}{e:br->R D}(enc:β->D)(I:br->Prop)(T:D->Prop):∀(xs:M β) (U:br),I U->(∀x∈xs,∀U,I U->∃σ2 y,g (enc x) U=.ok σ2/\I σ2/\e σ2=.ok y/\T y)->
 ∃ys:M D,dS g (λ_=>.ok W) e (xs.map enc) U=.ok ys/\zl ys=zl xs/\∀y∈ys,T y
|[],U,_,_=>#[[],rfl,rfl,λ_ h=>aH h aD]
|x::r,U,hi,h=>by
 let#[σ2,y,h1,h2,h3,h4]:=h x aB U hi;let#[ys,i1,i2,i3]:=ia enc I T r σ2 h2 λy hy=>h y (ao _ hy);refine#[y::ys,?_,by simp[i2],λz hz=>?_]
 .show(g (enc x) U).bind _=_;rw[h1];simp only[R.bind,jT,h3,i1]
 .grind
def oD:abM J->D
|none=>.non
|some i=>.int i
def p9:(10:J) ^ (9:J).toNat=1000000000:=by decide
def c9:wg 10 9:=by unfold wg;decide
def c19:wg 10 19:=by unfold wg;decide
def Bo(lo hi:abM J):Prop:=lo=S->hi≠S
def XF(n:J)(h0:0<=n)(h1:n<2147483587):∃lo hi:abM J,Bo lo hi/\pW [.int n]=.ok (.tup [oD lo,oD hi]):=by
 have hs:=szl;have q9:=c9;have q19:=c19;have qm:rC (n-10 ^ (9:J).toNat) (10 ^ (19:J).toNat):=.inl (by rw[p9];lia);have fz:∀l:J,aA [D.tup [.non,.int l]]=[D.tup [.non,.int l]]:=λ_=>rfl;have last:∀l:J,∃lo hi:abM J,Bo lo hi/\yy (b9 [] 1000 (.cons (.ret (.ix (.lst (.cons (.tup (.cons (.con .non) (.cons (.var 1) .nil))) (.cons (.tup (.cons (.var 1) (.cons (.con .non) .nil))) (.cons (.tup (.cons (.var 1) (.cons (.bin .Add (.var 1) (.bin .Mod (.bin .FloorDiv (.var 0) (.con (.int 512))) (.con (.int 4)))) .nil))) .nil)))) (.bin .Mod (.bin .FloorDiv (.var 0) (.con (.int 8))) (.con (.int 3))))) .nil) [L (.int n),L (.int l)])=.ok (.tup [oD lo,oD hi]):=by
  intro l;have hb:=dH (n / 8) (b:=3) (by decide);have hc:n / 8%3=0\/n / 8%3=1\/n / 8%3=2:=by lia
  rcases hc with c|c|c
  .have ea:∀x y z:D,dj [x,y,z] (n / 8%3)=L x:=λx y z=>by rw[c];rfl
   refine#[S,L l,(λ_ z=>nomatch z),?_];erw[ea];rfl
  .have ea:∀x y z:D,dj [x,y,z] (n / 8%3)=L y:=λx y z=>by rw[c];rfl
   refine#[L l,S,(λz=>nomatch z),?_];erw[ea];rfl
  .have ea:∀x y z:D,dj [x,y,z] (n / 8%3)=L z:=λx y z=>by rw[c];rfl
   refine#[L l,L (l+n / 512%4),(λz=>nomatch z),?_];erw[ea];rfl
 by_cases c:(n / 4096%7==0)=W
 .obtain⟨lo,hi,hb,q⟩:=last ((n-10 ^ (9:J).toNat)*10 ^ (19:J).toNat);refine#[lo,hi,hb,rQ ?_ q];unfold pW vR B8;erw[c]
 .rw[dD]at c;let#[lo,hi,hb,q]:=last (n / 64%6-2);refine#[lo,hi,hb,rQ ?_ q];unfold pW vR B8;erw[c]
theorem OA{P:Str->Prop}:∀{ys:M D},(∀y∈ys,∃s,P s/\y=.str s)->∃ss:M Str,ys=ss.map D.str/\∀s∈ss,P s
|[],_=>#[[],rfl,λ_ h=>aH h aD]
|y::r,h=>by
 let#[s,hp,rfl]:=h y aB;let#[ss,rfl,hs]:=OA λz hz=>h z (ao _ hz);exact#[s::ss,rfl,λx hx=>by
  rcases be.mp hx with q|q
  .rw[q];exact hp
  .exact hs x q]
abbrev GG:M PG:=[.fn gY [],.fn lP []]
def ae7(ks:M (Str×Str))(hk:zl ks<=8)(ho:∀p∈ks,j8 p.1/\j8 p.2)(told:M Str)(ht:∀s∈told,j8 s)(u:Str):∃ys:M D,dS (pG (.name 0)) (λ_=>.ok W) (pE GG eIn) (told.map D.str) [S,L (.str u),L (.lst B (cG ks))]=.ok ys/\zl ys=zl told/\∀y∈ys,lK y=W:=by
 refine ia D.str (λU=>∃o,U=[o,L (.str u),L (.lst B (cG ks))]) (λy=>lK y=W) told _ #[_,rfl] ?_;rintro s hs U ⟨o,rfl⟩;let#[row,r1,r2,r3,qu]:=MI ks hk ho s (ht s hs);refine#[[L (.str s),L (.str u),L (.lst B (cG ks))],.bl (memD (.str u) (row.map D.str)),rfl,#[_,rfl],?_,rfl];have nn:=Ia row;erw[qu,ki];rw[ER rfl nn]
def adC(ks:M (Str×Str))(hk:zl ks<=8)(ho:∀p∈ks,j8 p.1/\j8 p.2)(told:M Str)(ht:∀s∈told,j8 s)(names:M Str):∃ys:M D,dS (pG (.name 0)) (λ_=>.ok W) (pE GG adz) (names.map D.str) [S,L (.lst B (cG ks)),L (.tup (told.map D.str))]=.ok ys/\zl ys=zl names/\∀y∈ys,lK y=W:=by
 refine ia D.str (λU=>∃o,U=[o,L (.lst B (cG ks)),L (.tup (told.map D.str))]) (λy=>lK y=W) names _ #[_,rfl] ?_;rintro u hu U ⟨o,rfl⟩;let#[ys,y1,y2,y3]:=ae7 ks hk ho told ht u;have ya:=bz.mpr y3;refine#[[L (.str u),L (.lst B (cG ks)),L (.tup (told.map D.str))],.bl (ys.all qX),rfl,#[_,rfl],?_,rfl];erw[cg,y1,ya]
def aaV(names:M Str)(hn:names≠[])(hb:zl names<=8)(m:J)(v:Nat):∃ss:M Str,dS (pG (.name 0)) (λ_=>.ok W) (pE GG (.ix (.var 1) (.bin .Mod (.bin .Add (.var 2) (.var 0)) (.blt .len (.cons (.var 1) .nil))))) (gx 0 v) [S,L (.lst W (names.map D.str)),L (.int m)]=.ok (ss.map D.str)/\zl ss=v/\∀s∈ss,s∈names:=by
 have h:=ia (g:=pG (.name 0)) (e:=pE GG (.ix (.var 1) (.bin .Mod (.bin .Add (.var 2) (.var 0)) (.blt .len (.cons (.var 1) .nil))))) (λi:Nat=>D.int (0+(i:J))) (λU=>∃o,U=[o,L (.lst W (names.map D.str)),L (.int m)]) (λy=>∃s,s∈names/\y=.str s) (bM v) [S,L (.lst W (names.map D.str)),L (.int m)] #[_,rfl] (by
  rintro i _ U ⟨o,rfl⟩;have hp:(0:J)<(zl names:J):=by
   have:=jx.mpr hn
   lia
  let#[b0,b1]:=dH (m+(0+(i:J))) hp;let#[j,hj,ej,ea]:=j7 (names.map D.str) ((m+(0+(i:J)))%(zl names:J)) b0 (by rw[aa];exact b1);rw[dc]at ea;refine#[[L (.int (0+(i:J))),L (.lst W (names.map D.str)),L (.int m)],.str (names[j]'(by simpa using hj)),rfl,#[_,rfl],?_,_,cz _,rfl];erw[cg,ea])
 let#[ys,y1,y2,y3]:=h;let#[ss,rfl,hs]:=OA y3;exact#[ss,y1,by simpa using y2,hs]
noncomputable abbrev tS(t:M Str):D:=.tup (t.map D.str)
abbrev tI(t:M J):D:=.tup (t.map D.int)
def D5(ks:M (Str×Str))(ps:M (M Str)):Prop:=zl ps<=4/\∀t∈ps,(t≠[]/\zl t<=3)/\∀s∈t,s∈ks.map (·.1)
def iZ(n:Nat)(i:J):Prop:=0<=i/\i<(n:J)
abbrev cD(c:M Str×M J):D:=.tup [tS c.1,tI c.2]
def MK(n:Nat)(c:M Str×M J):Prop:=∀i∈c.2,iZ n i
def D6(n:Nat)(l:M J):Prop:=(l≠[]/\zl l<=2)/\∀i∈l,iZ n i
def iZ.up{n m:Nat}{i:J}(h:iZ n i)(l:n<=m):iZ m i:=#[h.1,by have:=h.2;lia]
abbrev gS(ns:M J)(at_:J)(ks:M (Str×Str))(sh:Bool)(ps:M (M Str))(cl:M (M Str×M J))(nm:M (M J))(a b c d e:abM D):br:=
 [L (bB ns),L (.int at_),L (.lst B (cG ks)),L (.bl sh),L (.lst W ((ks.map (·.1)).map D.str)),L (.lst W (ps.map tS)),L (.lst W (cl.map cD)),L (.lst W (nm.map tI)),a,b,c,d,e]
def aaW(l:M J)(n:Nat):AM (l.map D.int) n=W:=zf λd hd=>by let#[s,_,rfl]:=ck.mp hd;simp[pl]
def adD(lo:J)(n:Nat):gx lo n=((bM n).map λ(i:Nat)=>lo+(i:J)).map D.int:=by unfold gx;rw[bK];rfl
def gW(ps:M (M Str)):aA (ps.map tS)=ps.map tS:=dR tS (λt=>by show D.tup (aA _)=_;rw[cg]) ps
def f9(l:M J):aX (l.map D.int)=W:=(pY _ 0 (aaW l 0)).2.1
def Ib(ps:M (M Str)):aX (ps.map tS)=W:=by
 induction ps with
 |nil=>rfl
 |cons t r ih=>
  show(aX (t.map D.str)&&aX (r.map tS))=W;rw[kT,ih];rfl
def pick{l:M J}{i:J}(lo hi:J)(h0:0<=i)(h1:i<zl l)(hb:∀v∈l,lo<=v/\v<=hi):∃v:J,lo<=v/\v<=hi/\dj (l.map D.int) i=L (.int v):=by
 let#[j,hj,ej,ea]:=j7 (l.map D.int) i h0 (by simp_all);rw[dc]at ea;have hm:=hb (l[j]'(by simpa using hj)) (cz _);exact#[_,hm.1,hm.2,ea]
def ML(t:M Str)(n:Nat):(aR n [tS t]).flatten=(aR n t).map tS:=by simp
theorem ae8:lD=g6 r7:=rfl
def Nz(ns:M J)(at_:J)(ha:0<=at_/\at_<=1000)(ks:M (Str×Str))(hk:zl ks<=8)(hk0:3<=zl ks)(ho:∀p∈ks,j8 p.1/\j8 p.2)(sh:Bool)(k:Nat)(hkk:k<3)(ps:M (M Str))(hp:D5 ks ps)(cl:M (M Str×M J))(hc:∀c∈cl,MK (zl ps) c)(hcl:zl cl<=k)(nm:M (M J))(hnm:zl nm<=k)(hne:∀l∈nm,D6 (zl ps) l)(b c d e:abM D):∃σ3,(b9 GG 1000 lD (gS ns at_ ks sh ps cl nm (L (.int k)) b c d e)=.nx σ3\/b9 GG 1000 lD (gS ns at_ ks sh ps cl nm (L (.int k)) b c d e)=.ct σ3) /\
   ∃ps' cl' nm' a' b' c' d' e',D5 ks ps'/\(∀c∈cl',MK (zl ps') c)/\zl cl'<=k+1/\zl nm'<=k+1/\(∀l∈nm',D6 (zl ps') l)/\σ3=gS ns at_ ks sh ps' cl' nm' a' b' c' d' e':=by
 have hs:=szl;let#[m,m0,m1,qm]:=nF ns (at_+1+(k:J)) (by lia);have b16:=dH (m / 16) (b:=4) (by decide);let#[v,v1,v3,ev]:=pick (l:=[1,1,2,3]) 1 3 b16.1 b16.2 (by decide);have ev:dj [D.int 1,.int 1,.int 2,.int 3] (m / 16%4)=L (.int v):=ev;have b64:=dH (m / 64) (b:=4) (by decide);let#[w,w1,w2,ew]:=pick (l:=[1,1,1,2]) (i:=m / 64%4) 1 2 b64.1 b64.2 (by decide);have ew:dj [D.int 1,.int 1,.int 1,.int 2] (m / 64%4)=L (.int w):=ew;let#[told,qt,tl,tm]:=aaV (ks.map (·.1)) (by intro z;rw[A6]at z;rw[z]at hk0;simp at hk0) (by simpa using hk) m v.toNat;have rg:-(2 ^ 62)<=v/\v.toNat<=aj:=by lia
 have hto:∀s∈told,j8 s:=λs h=>by
  let#[p,hp,rfl]:=ck.mp (tm s h);exact(ho p hp).1
 let#[ys,qa,_,yb]:=adC ks hk ho told hto (ks.map (·.1));have ya:=bz.mpr yb;have pl4:=hp.1;have hw:(-(2 ^ 63)<=w/\w<2 ^ 63)/\zl [tS told]*w.toNat<=aj:=#[by lia,by rw[hs];simp;lia];have fzt:aA [tS told]=[tS told]:=by show[D.tup (aA _)]=_;rw[cg]
 generalize hnum:(bM w.toNat).map (λ(i:Nat)=>(zl ps:J)+(i:J))=num;have hnb:∀i∈num,iZ (zl ps+w.toNat) i:=λi hi=>by
  rw[<-hnum]at hi;let#[j,hj,rfl]:=ck.mp hi;have:=gc.mp hj;exact#[by lia,by lia]
 have hn1:D6 (zl ps+w.toNat) num:=by
  have:zl num=w.toNat:=by rw[<-hnum];simp
  exact#[#[λz=>by rw[z]at this;simp at this;lia,by lia],hnb]
 have hne':∀l∈nm,D6 (zl ps+w.toNat) l:=λl hl=>#[(hne l hl).1,λi hi=>((hne l hl).2 i hi).up (by lia)];have hc':∀c∈cl,MK (zl ps+w.toNat) c:=λc hcc i hi=>(hc c hcc i hi).up (by lia);have tail:∀cl':M (M Str×M J),∃nm',(zl nm'<=k+1/\∀l∈nm',D6 (zl ps+w.toNat) l)/\b9 GG 1000 r7 (gS ns at_ ks sh ps cl' nm (L (.int k)) (L (.int m)) (L (tS told)) (L (.int w)) (L (tI num)))=.nx (gS ns at_ ks sh (ps++aR w.toNat told) cl' nm' (L (.int k)) (L (.int m)) (L (tS told)) (L (.int w)) (L (tI num))):=by
  intro cl';have hpl:zl (ps.map tS)+zl ((aR w.toNat told).map tS)<=aj:=by rw[hs];simp;lia
  have hnl:zl (nm.map tI)<aj:=by rw[hs,aa];lia
  unfold r7 gS;cases cy:ys.any qX with
  |true=>
   refine#[nm++[num],#[by simp;lia,λl hl=>?_],?_]
   .rcases bw.mp hl with q|q
    .exact hne' l q
    .rw[aQ.mp q];exact hn1
   .erw[cg,qa,ya,cy,b_];rw[jH (xs:=nm.map tI) rfl hnl (by show(aX (num.map D.int)||_)=W;rw[f9];rfl)];erw[cg,f9,fzt,ML];rw[xT (xs:=ps.map tS) rfl hpl (by show(aX _||_)=W;rw[Ib];rfl)];erw[Ib,bE]
  |false=>
   refine#[nm,#[by lia,hne'],?_];erw[cg,qa,ya,cy,fzt,ML];rw[xT (xs:=ps.map tS) rfl hpl (by show(aX _||_)=W;rw[Ib];rfl)];erw[Ib,bE]
 rw[ae8];by_cases c4:(4:J)<(zl ps:J)+w
 .have e4:decide ((4:J)<(zl ps:J)+w)=W:=a_ c4;have q:∀rr,b9 GG 1000 (g6 rr) (gS ns at_ ks sh ps cl nm (L (.int k)) b c d e)=.ct (gS ns at_ ks sh ps cl nm (L (.int k)) (L (.int m)) (L (tS told)) (L (.int w)) e):=λrr=>by
   unfold g6 gS;simp_arith -implicitDefEqProofs [cA,qm,ev,ew,qt,cg,gW,kT,e4]
  exact#[_,.inr (q r7),ps,cl,nm,_,_,_,_,_,hp,hc,by lia,by lia,hne,rfl]
 .have e4:decide ((4:J)<(zl ps:J)+w)=B:=bW c4;have ht:-(2 ^ 62)<=(zl ps:J)/\(zl ps:J)<2 ^ 62/\-(2 ^ 62)<=(zl ps:J)+w/\(zl ps:J)+w<2 ^ 62/\((zl ps:J)+w-(zl ps:J)).toNat<=2 ^ 24:=by lia
  have ew2:((zl ps:J)+w-(zl ps:J)).toNat=w.toNat:=by lia
  have hr2:gx (zl ps:J) w.toNat=num.map D.int:=by rw[adD,hnum]
  have hcl2:zl (cl.map cD)<aj:=by rw[hs,aa];lia
  have mid:∃cl':M (M Str×M J),(∀c∈cl',MK (zl ps+w.toNat) c)/\zl cl'<=k+1/\∀rr,b9 GG 1000 (g6 rr) (gS ns at_ ks sh ps cl nm (L (.int k)) b c d e)=b9 GG 1000 rr (gS ns at_ ks sh ps cl' nm (L (.int k)) (L (.int m)) (L (tS told)) (L (.int w)) (L (tI num))):=by
   have dec:∃cc:Bool,(if(m / 256%3==0)=W then R.ok W else if sh=W then R.ok ((k:J)==0)else R.ok B)=R.ok cc:=by
    cases(m / 256%3==0)<;>cases sh<;>exact#[_,rfl]
   let#[cc,hcc]:=dec;cases cc with
   |true=>
    refine#[cl++[(told,num)],λc hcc=>?_,by simp;lia,λrr=>?_]
    .rcases bw.mp hcc with q|q
     .exact hc' c q
     .rw[aQ.mp q];exact hnb
    .unfold g6 gS;simp_arith -implicitDefEqProofs [cA,qm,ev,ew,qt,cg,gW,b_,kT,e4,ew2,hr2,f9];rw[hcc];erw[];rw[jH (xs:=cl.map cD) rfl hcl2 (by show((aX _&&(aX _&&W))||_)=W;rw[kT,f9];rfl)];simp_arith -implicitDefEqProofs [kT,f9,bE,bJ,gi]
   |false=>
    refine#[cl,hc',by lia,λrr=>?_];unfold g6 gS;simp_arith -implicitDefEqProofs [cA,qm,ev,ew,qt,cg,gW,b_,kT,e4,ew2,hr2,f9];rw[hcc];erw[]
  let#[cl',l1,l2,l3]:=mid;let#[nm',#[n1,n2],n3]:=tail cl';refine#[_,.inl ((l3 r7).trans n3),ps++aR w.toNat told,cl',nm',_,_,_,_,_,#[?_,λt ht'=>?_],by rw[bf,jR];exact l1,l2,n1,by rw[bf,jR];exact n2,rfl]
  .grind
  .rcases bw.mp ht' with q|q
   .exact hp.2 t q
   .rw[(List.mem_replicate.mp q).2];exact#[#[λz=>by rw[z]at tl;simp at tl;lia,by lia],tm]
def XG(ns:M J)(at_:J)(ha:0<=at_/\at_<=1000)(ks:M (Str×Str))(hk:zl ks<=8)(hk0:3<=zl ks)(ho:∀p∈ks,j8 p.1/\j8 p.2)(sh:Bool):∃(ps:M (M Str)) (cl:M (M Str×M J)) (nm:M (M J)),D5 ks ps/\(∀c∈cl,MK (zl ps) c)/\zl cl<=3/\zl nm<=3/\(∀l∈nm,D6 (zl ps) l)/\tF [bB ns,.int at_,.lst B (cG ks),.bl sh]=.ok (.tup [.lst W (ps.map tS),.lst W (cl.map cD),.lst W (nm.map tI)]):=by
 have hs:=szl;let#[m,m0,m1,qm]:=nF ns at_ (by lia);have b8:=dH m (b:=8) (by decide);let#[v,v1,v3,ev]:=pick (l:=[1,2,3,2,1,3,2,0]) 0 3 b8.1 b8.2 (by decide);have ev:dj [D.int 1,.int 2,.int 3,.int 2,.int 1,.int 3,.int 2,.int 0] (m%8)=L (.int v):=ev;generalize hV:(if v>(if sh=W then 1 else 0)then v else(if sh=W then 1 else 0))=V;have hV0:0<=V/\V<=3:=by lia
 have rg:-(2 ^ 62)<=V/\V.toNat<=aj:=by lia
 have qc:dS (pG (.tup (.cons (.name 0) (.cons (.name 1) .nil)))) (λ_=>.ok W) (pE GG (.var 0)) (cG ks) [S,S]=.ok (ks.map λp=>D.str p.1):=kB AL (λU=>∃a b,U=[a,b]) (λp=>D.str p.1) ks _ #[_,_,rfl] (by
  rintro⟨x,y⟩ _ U ⟨a,b,rfl⟩;refine#[[L (.str x),L (.str y)],?_,#[_,_,rfl],?_]
  .rfl
  .erw[])
 have em:(ks.map λp=>D.str p.1)=(ks.map (·.1)).map D.str:=by rw[bK];rfl
 rw[em]at qc;let#[σ',h1,ps,cl,nm,a',b',c',d',e',p1,p2,p3,p4,p5,rfl]:=Ny (g:=pG (.name 8)) (b:=b9 GG 1000 lD) V.toNat
  (λk U=>∃(ps:M (M Str)) (cl:M (M Str×M J)) (nm:M (M J)) (a b c d e:abM D),D5 ks ps/\(∀c∈cl,MK (zl ps) c)/\zl cl<=k/\zl nm<=k/\(∀l∈nm,D6 (zl ps) l)/\U=gS ns at_ ks sh ps cl nm a b c d e) (by
  rintro k hkk U ⟨ps,cl,nm,a,b,c,d,e,p1,p2,p3,p4,p5,rfl⟩;let#[σ3,g1,ps',cl',nm',a',b',c',d',e',g2,g3,g4,g5,g6,g7]:=Nz ns at_ ha ks hk hk0 ho sh k (by lia) ps p1 cl p2 p3 nm p4 p5 b c d e;exact#[_,σ3,rfl,g1,ps',cl',nm',a',b',c',d',e',g2,g3,g4,g5,g6,g7]) (gS ns at_ ks sh [] [] [] S S S S S) #[[],[],[],_,_,_,_,_,#[by simp,λt ht=>aH ht aD],λt ht=>aH ht aD,by simp,by simp,λl hl=>aH hl aD,rfl]
 refine#[ps,cl,nm,p1,p2,by lia,by lia,p5,?_];have fs:=cA ns;unfold tF Aj Gn;erw[fs,ki,qc,kT,qm,ev,hV];have h1:forR (pG (.name 8)) (b9 GG 1000 lD) (gx 0 V.toNat) [L (bB ns),L (.int at_),L (.lst B (cG ks)),L (.bl sh),L (.lst W ((ks.map (·.1)).map D.str)),L (.lst W []),L (.lst W []),L (.lst W []),S,S,S,S,S]=_:=h1;rw[h1];unfold gS;erw[]
abbrev tK(k:M Key):D:=.tup (k.map iB)
def XH(k:M Key):qW (k.map iB)=L k:=by
 induction k with
 |nil=>rfl
 |cons a r ih=>
  have ha:mQ (iB a)=L a:=by cases a<;>rfl
  show(mQ (iB a)).bind _=_;rw[ha];rw[ih];rfl
def aaX(k:M Key):iP (tK k)=L k:=XH k
def Ic(k:M Key)(n:Nat):AM (k.map iB) n=W:=zf λd hd=>by
 let#[s,_,rfl]:=ck.mp hd;cases s<;>simp[iB,pl]
theorem get_mem:∀{ks:M (M Key)}{xs:M D}{k:M Key},zl ks=zl xs->k∈ks->∃d,d∈xs/\iQ ks xs k=L d
|[],_,_,_,h=>aH h aD
|a::r,[],_,hl,_=>by simp at hl
|a::r,x::xr,k,hl,h=>by
 by_cases c:a=k
 .exact#[x,aB,by show(if a=k then L x else _)=_;rw[aF c]]
 .rcases be.mp h with q|q
  .exact aH q.symm c
  .obtain⟨d,h1,h2⟩:=get_mem (by simpa using hl) q;exact#[d,ao _ h1,by show(if a=k then L x else _)=_;rw[aG c];exact h2]
theorem EU:∀{ks:M (M Key)}{xs:M D}{q:M Key}{x:D},zl ks=zl xs->zl (jy ks xs q x)=zl ks
|[],_,_,_,_=>rfl
|a::r,[],_,_,hl=>by simp at hl
|a::r,y::yr,q,x,hl=>by
 show(jy r yr q x).length+1=zl r+1;rw[EU (by simpa using hl)]
theorem EV:∀{ks:M (M Key)}{xs:M D}{q:M Key}{x d:D},d∈jy ks xs q x->d=x\/d∈xs
|[],_,_,_,_,h=>aH h aD
|a::r,[],_,_,_,h=>aH h aD
|a::r,y::yr,q,x,d,h=>by
 rcases be.mp h with e|e
 .grind
 .rcases EV e with z|z
  .exact .inl z
  .exact .inr (ao _ z)
def KO{ks:M (M Key)}{xs:M D}{q:M Key}{d j:D}(hl:zl ks=zl xs)(hs:zl ks<aj)(hf:nC d=W)(hj:iP j=L q):∃ks' xs',putIn (.bS W ks xs) d j=L (.bS W ks' xs')/\zl ks'=zl xs'/\zl ks'<=zl ks+1/\(∀k∈ks',k=q\/k∈ks)/\∀y∈xs',y=d\/y∈xs:=by
 have e:putIn (.bS W ks xs) d j=(if zl ks<aj then(if jE ks q=W then(if nC d=W then L (.bS W ks (jy ks xs q d))else S)else L (.bS W (ks++[q]) (xs++[d])))else S):=by
  show Mc ks xs d j=_;unfold Mc;rw[hj]
 rw[e,aF hs];by_cases c:jE ks q=W
 .rw[aF c,aF hf];exact#[_,_,rfl,(EU hl).symm,by lia,λk hk=>.inr hk,λy hy=>EV hy]
 .rw[aG c];refine#[_,_,rfl,by simp[hl],by simp,λk hk=>?_,λy hy=>?_]
  .rcases bw.mp hk with z|z
   .exact .inr z
   .exact .inl (aQ.mp z)
  .rcases bw.mp hy with z|z
   .exact .inr z
   .exact .inl (aQ.mp z)
def Ie(ks:M (M Key)):∃srt:M (M Key),L3.pL ks=srt.map tK/\zl srt=zl ks/\∀k∈srt,k∈ks:=by
 refine#[(dX ks).map λi=>ks.getD i [],by unfold L3.pL;rw[bK];rfl,by rw[aa];exact n6 _ _,λk hk=>?_];let#[i,hi,rfl]:=ck.mp hk;have hlt:=uV _ _ i hi;rw[aZ,aq hlt];exact cz hlt
def yG{ks:M (M Key)}(hl:zl ks<64)(h:∀k∈ks,k≠[]/\∀q∈ks,kH k q=W):sortable ks=W:=by
 unfold sortable;rw[a_ hl,vE,bz];intro k hk;let#[h1,h2]:=h k hk;rw[cu];refine#[by cases k with|nil=>exact aH rfl h1|cons a r=>rfl,bz.mpr h2]
abbrev J3:=Str×J×J
noncomputable abbrev jK(j:J3):M Key:=[.inr j.1,.inl j.2.1,.inl j.2.2]
def OB(n:Nat)(j:J3):Prop:=iZ n j.2.1/\iZ n j.2.2
def Js(n:Nat)(k:M Key):Prop:=∃j:J3,OB n j/\k=jK j
def Zs(k:M Key):Prop:=∃(i:J) (s:Str),k=[.inl i,.inr s]
def TN{n:Nat}{ks:M (M Key)}(hl:zl ks<64)(h:∀k∈ks,Js n k):sortable ks=W:=yG hl λk hk=>by
 let#[j,_,rfl]:=h k hk;exact#[by simp,λq hq=>by let#[j',_,rfl]:=h q hq;rfl]
def adE{ks:M (M Key)}(hl:zl ks<64)(h:∀k∈ks,Zs k):sortable ks=W:=yG hl λk hk=>by
 let#[i,s,rfl]:=h k hk;exact#[by simp,λq hq=>by let#[i',s',rfl]:=h q hq;rfl]
def Bd(d:D):Prop:=∃lo hi:abM J,Bo lo hi/\d=.tup [oD lo,oD hi]
def Bd.pl{d:D}(h:Bd d):pl d 1=W:=by
 let#[lo,hi,_,rfl]:=h;cases lo<;>cases hi<;>simp[oD,K3.pl,AM]
def Bd.flat{d:D}(h:Bd d):nC d=W:=by
 let#[lo,hi,_,rfl]:=h;cases lo<;>cases hi<;>rfl
abbrev GR:M PG:=[.fn nE [],.fn gY [],.fn pW [],.fn tF []]
theorem ae9:pU=.cons sN (.cons sJ (.cons sZ (.cons sT .nil))):=rfl
noncomputable abbrev wD(wa wb wc:M Str):D:=.tup [.lst B (wa.map D.str),.lst B (wb.map D.str),.lst B (wc.map D.str)]
abbrev rS(ns:M J)(at_:J)(ks:M (Str×Str))(w:D)(sh:Bool)(ps:M (M Str))(cl:M (M Str×M J))(nm:M (M J))(jk:M (M Key))(jv:M D)(zk:M (M Key))(zv:M D)(st:M (Str×J))(a b c d:abM D):br:=
 [L (bB ns),L (.int at_),L (.lst B (cG ks)),L w,L (.bl sh),L (.lst W (ps.map tS)),L (.lst W (cl.map cD)),L (.lst W (nm.map tI)),L (.bS W jk jv),L (.bS W zk zv),L (.lst W (st.map λs:Str×J=>.tup [.str s.1,.int s.2])),a,b,c,d]
theorem Gz(x y z:D):dj [x,y,z] 0=L x:=rfl
theorem KP(x y z:D):dj [x,y,z] 1=L y:=rfl
theorem KQ(x y z:D):dj [x,y,z] 2=L z:=rfl
def mX(l:M Str)(i:J)(h0:0<=i)(h1:i<zl l):∃s,s∈l/\dj (l.map D.str) i=L (.str s):=by
 let#[j,hj,ej,ea]:=j7 (l.map D.str) i h0 (by simp_all);rw[dc]at ea;exact#[_,cz _,ea]
section
variable(ns:M J) (at_:J) (ha:0<=at_/\at_<=1000) (ks:M (Str×Str)) (wa wb wc:M Str) (la:zl wa=3) (lb:zl wb=2) (lc:zl wc=2) (sh:Bool) (ps:M (M Str)) (hp:D5 ks ps) (cl:M (M Str×M J)) (nm:M (M J)) (hnm:zl nm<=3) (hne:∀l∈nm,D6 (zl ps) l)
 (k:Nat) (hk:k<4) (n:J) (n0:0<=n) (n1:n<2147483587)
include ha lb hp hk n0
theorem rd_J(jk:M (M Key))(jv:M D)(hjl:zl jk=zl jv)(hj4:zl jk<=k)(hj:∀q∈jk,Js (zl ps) q)(hv:∀d∈jv,d=.bl W)(zk:M (M Key))(zv:M D)(st:M (Str×J))(c d:abM D):∃jk' jv' c',zl jk'=zl jv'/\zl jk'<=k+1/\(∀q∈jk',Js (zl ps) q)/\(∀d∈jv',d=.bl W)/\pS GR 1000 sJ (rS ns at_ ks (wD wa wb wc) sh ps cl nm jk jv zk zv st (L (.int k)) (L (.int n)) c d)=.nx (rS ns at_ ks (wD wa wb wc) sh ps cl nm jk' jv' zk zv st (L (.int k)) (L (.int n)) c' d):=by
 have hs:=szl;let#[m5,m50,m51,q5]:=nF ns (at_+5) (by lia);have pl4:=hp.1;by_cases c1:(1:J)<(zl ps:J)
 .by_cases c2:(k:J)<m5%4
  .have e1:=a_ c1;have e2:=a_ c2;have b2:=dH (n / 8) (b:=2) (by decide);let#[s,hsm,es]:=mX wb (n / 8%2) b2.1 (by lia);have h1:(0:J)<(zl ps:J):=by omega
   have h2:(0:J)<(zl ps:J)-1:=by omega
   let#[jk',jv',hput,g1,g2,g3,g4]:=KO (d:=.bl W) (j:=.tup [.str s,.int (n%(zl ps:J)),.int ((n%(zl ps:J)+1+n / 16%((zl ps:J)-1))%(zl ps:J))]) hjl (by lia) rfl rfl;refine#[jk',jv',L (.int (n%(zl ps:J))),g1,by lia,λq hq=>?_,λy hy=>?_,?_]
   .rcases g3 q hq with z|z
    .exact#[(s,n%(zl ps:J),(n%(zl ps:J)+1+n / 16%((zl ps:J)-1))%(zl ps:J)),#[dH _ h1,dH _ h1],z]
    .exact hj q z
   .rcases g4 y hy with z|z
    .exact z
    .exact hv y z
   .erw[cA,gW,q5,e1,e2,KP,cg,es];rw[iu rfl rfl hput];erw[]
  .have e1:=a_ c1;have e2:=bW c2;refine#[jk,jv,c,hjl,by omega,hj,hv,?_];erw[cA,gW,q5,e1,e2]
 .have e1:=bW c1;refine#[jk,jv,c,hjl,by omega,hj,hv,?_];erw[gW,e1]
end
def EW(x:abM J):aU (oD x)=W:=by cases x<;>rfl
noncomputable abbrev sD(s:Str×J):D:=.tup [.str s.1,.int s.2]
def QG(l:M (M J)):aA (l.map tI)=l.map tI:=dR tI (λt=>by show D.tup (aA _)=_;rw[b_]) l
def Cg(l:M (Str×J)):aX (l.map sD)=W:=by
 induction l with
 |nil=>rfl
 |cons k r ih=>exact ih
section
variable(ns:M J) (at_:J) (ha:0<=at_/\at_<=1000) (ks:M (Str×Str)) (wa wb wc:M Str) (la:zl wa=3) (lb:zl wb=2) (lc:zl wc=2) (sh:Bool) (ps:M (M Str)) (hp:D5 ks ps) (cl:M (M Str×M J)) (nm:M (M J)) (hnm:zl nm<=3) (hne:∀l∈nm,D6 (zl ps) l)
 (k:Nat) (hk:k<4) (n:J) (n0:0<=n) (n1:n<2147483587)
include ha la hp hk n0 n1
theorem rd_Z(jk:M (M Key))(jv:M D)(zk:M (M Key))(zv:M D)(st:M (Str×J))(hzl:zl zk=zl zv)(hz4:zl zk<=k)(hz:∀q∈zk,Zs q)(hv:∀d∈zv,Bd d)(c d:abM D):∃zk' zv',zl zk'=zl zv'/\zl zk'<=k+1/\(∀q∈zk',Zs q)/\(∀d∈zv',Bd d)/\pS GR 1000 sZ (rS ns at_ ks (wD wa wb wc) sh ps cl nm jk jv zk zv st (L (.int k)) (L (.int n)) c d)=.nx (rS ns at_ ks (wD wa wb wc) sh ps cl nm jk jv zk' zv' st (L (.int k)) (L (.int n)) c d):=by
 have hs:=szl;let#[m5,m50,m51,q5]:=nF ns (at_+5) (by lia);let#[lo,hi,hbo,qb]:=XF n n0 n1;have pl4:=hp.1;by_cases c1:(0:J)<(zl ps:J)
 .by_cases c2:(k:J)<m5 / 4%4
  .have e1:=a_ c1;have e2:=a_ c2;have b2:=dH (n / 24) (b:=3) (by decide);let#[s,hsm,es]:=mX wa (n / 24%3) b2.1 (by lia);let#[zk',zv',hput,g1,g2,g3,g4]:=KO (j:=.tup [.int (n / 3%(zl ps:J)),.str s]) hzl (by lia) (Bd.flat #[lo,hi,hbo,rfl]) rfl;refine#[zk',zv',g1,by lia,λq hq=>?_,λy hy=>?_,?_]
   .rcases g3 q hq with z|z
    .exact#[_,_,z]
    .exact hz q z
   .rcases g4 y hy with z|z
    .exact#[_,_,hbo,z]
    .exact hv y z
   .erw[cA,gW,q5,e1,e2,Gz,cg,es,qb,EW];rw[iu rfl (by simp) hput];erw[EW]
  .have e1:=a_ c1;have e2:=bW c2;refine#[zk,zv,hzl,by lia,hz,hv,?_];erw[cA,gW,q5,e1,e2]
 .have e1:=bW c1;refine#[zk,zv,hzl,by lia,hz,hv,?_];erw[gW,e1]
end
section
variable(ns:M J) (at_:J) (ha:0<=at_/\at_<=1000) (ks:M (Str×Str)) (wa wb wc:M Str) (lc:zl wc=2) (sh:Bool) (ps:M (M Str)) (cl:M (M Str×M J)) (nm:M (M J)) (hnm:zl nm<=3) (hne:∀l∈nm,D6 (zl ps) l)
 (k:Nat) (hk:k<4) (n:J) (n0:0<=n) (n1:n<2147483587)
include ha lc hk n0 hnm hne
theorem rd_T(jk:M (M Key))(jv:M D)(zk:M (M Key))(zv:M D)(st:M (Str×J))(h1:∀s∈st,iZ (zl ps) s.2)(h2:zl st<=2*k)(c d:abM D):∃st':M (Str×J),(∀s∈st',iZ (zl ps) s.2)/\zl st'<=2*(k+1)/\pS GR 1000 sT (rS ns at_ ks (wD wa wb wc) sh ps cl nm jk jv zk zv st (L (.int k)) (L (.int n)) c d)=.nx (rS ns at_ ks (wD wa wb wc) sh ps cl nm jk jv zk zv st' (L (.int k)) (L (.int n)) c d):=by
 have hs:=szl;let#[m5,m50,m51,q5]:=nF ns (at_+5) (by lia);unfold sT rS;by_cases c1:(0:J)<(zl nm:J)
 .by_cases c2:(k:J)<m5 / 16%3
  .have e1:=a_ c1;have e2:=a_ c2;have b2:=dH (n / 5) (b:=2) (by decide);let#[s,hsm,es]:=mX wc (n / 5%2) b2.1 (by lia);have b3:=dH (n / 10) c1;let#[j,hj,ej,ea]:=j7 (nm.map tI) (n / 10%(zl nm:J)) b3.1 (by rw[aa];exact b3.2);rw[dc]at ea;have hl:=hne (nm[j]'(by simpa using hj)) (cz _);generalize nm[j]'(by simpa using hj)=l at ea hl;have qc:dS (pG (.name 0)) (λ_=>.ok W) (pE GR (.tup (.cons (.ix (.ix (.var 1) (.con (.int 2))) (.bin .Mod (.bin .FloorDiv (.var 2) (.con (.int 5))) (.con (.int 2)))) (.cons (.var 0) .nil)))) (l.map D.int) [S,L (wD wa wb wc),L (.int n)]=.ok ((l.map λi=>(s,i)).map sD):=by
    rw[bK];exact kB D.int (λU=>∃o,U=[o,L (wD wa wb wc),L (.int n)]) (λi=>D.tup [.str s,.int i]) l _ #[_,rfl] (by
    rintro i _ U ⟨o,rfl⟩;refine#[[L (.int i),L (wD wa wb wc),L (.int n)],rfl,#[_,rfl],?_];erw[KQ,cg,es])
   have hal:aX ((l.map λi=>(s,i)).map sD)=W:=Cg _;refine#[st++l.map λi=>(s,i),λx hx=>?_,by have:=hl.1.2;simp;lia,?_]
   .rcases bw.mp hx with q|q
    .exact h1 x q
    .obtain⟨i,hi,rfl⟩:=ck.mp q;exact hl.2 i hi
   erw[cA,QG,q5,e1,e2,ea,b_,qc];rw[xT rfl (by have:=hl.1.2;rw[hs,aa,aa,aa];lia) (by show(aX _||_)=W;rw[hal];rfl)];erw[hal,bE]
  .have e1:=a_ c1;have e2:=bW c2;refine#[st,h1,by lia,?_];erw[cA,QG,q5,e1,e2]
 .have e1:=bW c1;refine#[st,h1,by lia,?_];erw[QG,e1]
end
def Ig{l i:Nat}(h:i<l):iU l (i:J)=L i:=by
 unfold iU;simp;omega
def rd_P(ns:M J)(at_:J)(ha:0<=at_/\at_<=1000)(ks:M (Str×Str))(hk:zl ks<=8)(ho:∀p∈ks,j8 p.1/\j8 p.2)(w:D)(sh:Bool)(ps:M (M Str))(hp:D5 ks ps)(cl:M (M Str×M J))(nm:M (M J))(jk:M (M Key))(jv:M D)(zk:M (M Key))(zv:M D)(st:M (Str×J))(i:Nat)(hi:i<zl ps)(a b d:abM D):∃ps' b' d',D5 ks ps'/\zl ps'=zl ps/\b9 GR 1000 uy (rS ns at_ ks w sh ps cl nm jk jv zk zv st a b (L (.int i)) d)=.nx (rS ns at_ ks w sh ps' cl nm jk jv zk zv st a b' (L (.int i)) d'):=by
 have hs:=szl;have pl4:=hp.1;let#[n,n0,n1,qn]:=nF ns (at_+10+(i:J)) (by lia);unfold uy rS;by_cases c1:(n%5==0)=W
 .cases sh with
  |true=>
   refine#[ps,L (.int n),d,hp,rfl,?_];erw[cA,qn,c1]
  |false=>
   let#[#[t1,t3],t2]:=hp.2 ps[i] (cz hi);have ea:dj (ps.map tS) (i:J)=L (tS ps[i]):=lC (by rw[bg,aq hi];rfl);generalize hT:ps[i]=t at t1 t2 t3 ea;have tp:(0:J)<(zl t:J):=by
    have:=jx.mpr t1
    lia
   have b1:=dH (n / 5) tp;let#[s,sm,es]:=mX t (n / 5%(zl t:J)) b1.1 b1.2;let#[ys,y1,y2,y3,qy]:=MJ ks hk ho s (t2 s sm);have yp:(0:J)<(zl ys:J):=by
    have:=jx.mpr y1
    lia
   have b2:=dH (n / 15) yp;let#[s2,sm2,es2]:=mX ys (n / 15%(zl ys:J)) b2.1 b2.2;refine#[ps.set i [s2],L (.int n),L (.lst W (ys.map D.str)),#[by rw[jS];exact hp.1,λt' ht'=>?_],by rw[jS],?_]
   .rcases List.mem_or_eq_of_mem_set ht' with q|q
    .exact hp.2 t' q
    .rw[q];refine#[#[by simp,by simp],λs' hs'=>?_];rw[aQ.mp hs'];exact y3 s2 sm2
   .have hput:putIn (.lst W (ps.map tS)) (.tup [.str s2]) (.int i)=L (.lst W ((ps.set i [s2]).map tS)):=by
     show(iU (zl (ps.map tS)) (i:J)).map _=_;rw[Ig (by rw[aa];exact hi),CQ];rfl
    erw[cA,qn,c1,gW,ea,cg,es,ki,qy,es2,kT];rw[iu rfl rfl hput];erw[]
 .rw[dD]at c1;refine#[ps,L (.int n),d,hp,rfl,?_];erw[cA,qn,c1]
abbrev Z4:=J×Str×abM J×abM J
abbrev zD(z:Z4):D:=.tup [.int z.1,.str z.2.1,oD z.2.2.1,oD z.2.2.2]
def ZOk(z:Z4):Prop:=Bo z.2.2.1 z.2.2.2
def Sz(z:D):Prop:=∃z4:Z4,ZOk z4/\z=zD z4
def nH(x:abM J):bq (oD x)=oD x:=by cases x<;>rfl
def adF{O:M PG}(zk:M (M Key))(zv:M D)(hl:zl zk=zl zv)(hz:∀q∈zk,Zs q)(hv:∀d∈zv,Bd d)(srt:M (M Key))(hm:∀q∈srt,q∈zk):∃zs:M D,dS (pG (.name 0)) (λ_=>.ok W) (pE O (.bin .Add (.var 0) (.ix (.var 1) (.var 0)))) (srt.map tK) [S,L (.bS W zk zv)]=.ok zs/\zl zs=zl srt/\∀z∈zs,Sz z:=by
 have hs:=szl;have fv:=(pY zv 1 (zf λd hd=>(hv d hd).pl)).1;refine ia tK (λU=>∃o,U=[o,L (.bS W zk zv)]) Sz srt _ #[_,rfl] ?_;rintro q hq U ⟨o,rfl⟩;let#[d,hd,hg]:=get_mem hl (hm q hq);let#[i,s,rfl]:=hz q (hm q hq);let#[lo,hi,hbo,rfl]:=hv d hd;refine#[[L (.tup [.int i,.str s]),L (.bS W zk zv)],.tup [.int i,.str s,oD lo,oD hi],rfl,#[_,rfl],?_,#[(i,s,lo,hi),hbo,rfl]];have hix:iY (.bS B zk zv) (.tup [.int i,.str s])=.ok (.tup [oD lo,oD hi]):=by
  rw[Mu rfl hg];show R.ok (D.tup [bq (oD lo),bq (oD hi)])=_;rw[nH,nH]
 erw[fv,hix];rw[JC (by simp[hs])];show R.ok (D.tup [.int i,.str s,bq (oD lo),bq (oD hi)])=_;rw[nH,nH]
def KR(l:M (M Key)):aX (l.map tK)=W:=by
 induction l with
 |nil=>rfl
 |cons k r ih=>
  show(aX (k.map iB)&&aX (r.map tK))=W;rw[(pY _ 0 (Ic k 0)).2.1,ih];rfl
def adG(l:M (M Key)):aA (l.map tK)=l.map tK:=dR tK (λk=>by show D.tup (aA _)=_;rw[(pY _ 0 (Ic k 0)).1]) l
def o_tI(l:M (M J)):aX (l.map tI)=W:=by
 induction l with
 |nil=>rfl
 |cons t r ih=>
  show(aX (t.map D.int)&&aX (r.map tI))=W;rw[f9,ih];rfl
def Sz.pl{z:D}(h:Sz z):pl z 1=W:=by
 let#[#[i,s,lo,hi],_,rfl]:=h;cases lo<;>cases hi<;>simp[oD,K3.pl,AM]
theorem typed{α:Type}{P:α->Prop}{f:α->D}:∀{ys:M D},(∀y∈ys,∃a,P a/\y=f a)->∃l:M α,ys=l.map f/\∀a∈l,P a
|[],_=>#[[],rfl,λ_ h=>aH h aD]
|y::r,h=>by
 let#[s,hp,rfl]:=h y aB;let#[ss,rfl,hs]:=typed λz hz=>h z (ao _ hz);exact#[s::ss,rfl,λx hx=>by
  rcases be.mp hx with q|q
  .rw[q];exact hp
  .exact hs x q]
theorem MM{n:Nat}:∀{ks:M (M Key)},(∀k∈ks,Js n k)->∃l:M J3,ks=l.map jK/\∀j∈l,OB n j
|[],_=>#[[],rfl,λ_ h=>aH h aD]
|y::r,h=>by
 let#[s,hp,rfl]:=h y aB;let#[ss,rfl,hs]:=MM λz hz=>h z (ao _ hz);exact#[s::ss,rfl,λx hx=>by
  rcases be.mp hx with q|q
  .rw[q];exact hp
  .exact hs x q]
noncomputable abbrev jD(j:J3):D:=.tup [.str j.1,.int j.2.1,.int j.2.2]
def zg(l:M J3):(l.map jK).map tK=l.map jD:=by rw[bK];rfl
structure lR where
 ps:M (M Str)
 cl:M (M Str×M J)
 js:M J3
 zs:M Z4
 st:M (Str×J)
abbrev bF(o:Bool)(r:lR):D:=.tup [.lst o (r.ps.map tS),.lst o (r.cl.map cD),.lst o (r.js.map jD),.lst o (r.zs.map zD),.lst o (r.st.map sD)]
structure u0 (ks:M (Str×Str)) (r:lR):Prop where
 p:D5 ks r.ps
 c:∀c∈r.cl,MK (zl r.ps) c
 c3:zl r.cl<=3
 j:∀j∈r.js,OB (zl r.ps) j
 j4:zl r.js<=4
 z:∀z∈r.zs,ZOk z
 z4:zl r.zs<=4
 s:∀s∈r.st,iZ (zl r.ps) s.2
 s8:zl r.st<=8
def adH(l:M (M Str×M J)):aX (l.map cD)=W:=by
 induction l with
 |nil=>rfl
 |cons k r ih=>
  show((aX (k.1.map D.str)&&(aX (k.2.map D.int)&&W))&&aX (r.map cD))=W;rw[ih,kT,f9];rfl
def TQ(ns:M J)(at_:J)(ha:0<=at_/\at_<=1000)(ks:M (Str×Str))(hk:zl ks<=8)(hk0:3<=zl ks)(ho:∀p∈ks,j8 p.1/\j8 p.2)(wa wb wc:M Str)(la:zl wa=3)(lb:zl wb=2)(lc:zl wc=2)(sh:Bool):∃r:lR,u0 ks r/\qI [bB ns,.int at_,.lst B (cG ks),wD wa wb wc,.bl sh]=.ok (bF W r):=by
 have hs:=szl;let#[ps,cl,nm,hp,c1,c2,n1,n2,qg]:=XG ns at_ ha ks hk hk0 ho sh;have pl4:=hp.1;let#[σ1,h1,jk,jv,zk,zv,st,a,b,c,d,j1,j2,j3,j4,z1,z2,z3,z4,s1,s2,rfl]:=nG (g:=pG (.name 11)) (b:=b9 GR 1000 pU) 4
  (λk U=>∃(jk:M (M Key)) (jv:M D) (zk:M (M Key)) (zv:M D) (st:M (Str×J)) (a b c d:abM D),zl jk=zl jv/\zl jk<=k/\(∀q∈jk,Js (zl ps) q)/\(∀d∈jv,d=.bl W)/\zl zk=zl zv/\zl zk<=k/\(∀q∈zk,Zs q)/\(∀d∈zv,Bd d)/\(∀s∈st,iZ (zl ps) s.2)/\zl st<=2*k /\
   U=rS ns at_ ks (wD wa wb wc) sh ps cl nm jk jv zk zv st a b c d) (by
  rintro k hk4 U ⟨jk,jv,zk,zv,st,a,b,c,d,j1,j2,j3,j4,z1,z2,z3,z4,s1,s2,rfl⟩;let#[n,m0,m1,qn]:=nF ns (at_+6+(k:J)) (by lia);have hN:pS GR 1000 sN (rS ns at_ ks (wD wa wb wc) sh ps cl nm jk jv zk zv st (L (.int k)) b c d)=.nx (rS ns at_ ks (wD wa wb wc) sh ps cl nm jk jv zk zv st (L (.int k)) (L (.int n)) c d):=by
   erw[cA,qn]
  let#[jk',jv',c',x1,x2,x3,x4,hJ]:=rd_J ns at_ ha ks wa wb wc lb sh ps hp cl nm k hk4 n m0 jk jv j1 j2 j3 j4 zk zv st c d;let#[zk',zv',y1,y2,y3,y4,hZ]:=rd_Z ns at_ ha ks wa wb wc la sh ps hp cl nm k hk4 n m0 m1 jk' jv' zk zv st z1 z2 z3 z4 c' d;let#[st',u1,u2,hT]:=rd_T ns at_ ha ks wa wb wc lc sh ps cl nm n1 n2 k hk4 n m0 jk' jv' zk' zv' st s1 s2 c' d;refine#[rS ns at_ ks (wD wa wb wc) sh ps cl nm jk jv zk zv st (L (.int k)) b c d,rS ns at_ ks (wD wa wb wc) sh ps cl nm jk' jv' zk' zv' st' (L (.int k)) (L (.int n)) c' d,rfl,?_,jk',jv',zk',zv',st',_,_,_,_,x1,x2,x3,x4,y1,y2,y3,y4,u1,u2,rfl];rw[ae9,dY,hN];show b9 GR 1000 _ _=_;rw[dY,hJ];show b9 GR 1000 _ _=_;rw[dY,hZ];show b9 GR 1000 _ _=_;rw[dY,hT];rfl) (rS ns at_ ks (wD wa wb wc) sh ps cl nm [] [] [] [] [] S S S S)
  #[[],[],[],[],[],_,_,_,_,rfl,by simp,λq hq=>aH hq aD,λq hq=>aH hq aD,rfl,by simp,λq hq=>aH hq aD,λq hq=>aH hq aD,λq hq=>aH hq aD,by simp,rfl]
 let#[σ2,h2,ps',b',c',d',p1,p2,rfl]:=nG (g:=pG (.name 13)) (zl ps)
  (λi U=>∃(ps':M (M Str)) (b c d:abM D),D5 ks ps'/\zl ps'=zl ps/\U=rS ns at_ ks (wD wa wb wc) sh ps' cl nm jk jv zk zv st a b c d) (by
  rintro i hi U ⟨ps',b',c',d',p1,p2,rfl⟩;let#[ps'',b'',d'',q1,q2,q3]:=rd_P ns at_ ha ks hk ho (wD wa wb wc) sh ps' p1 cl nm jk jv zk zv st i (by lia) a b' d';exact#[rS ns at_ ks (wD wa wb wc) sh ps' cl nm jk jv zk zv st a b' (L (.int i)) d',_,rfl,q3,ps'',_,_,_,q1,by lia,rfl]) (rS ns at_ ks (wD wa wb wc) sh ps cl nm jk jv zk zv st a b c d) #[ps,_,_,_,hp,rfl,rfl]
 let#[srJ,eJ,lJ,mJ]:=Ie jk;let#[srZ,eZ,lZ,mZ]:=Ie zk;let#[zs,qz,lz,hz]:=adF (O:=GR) zk zv z1 z3 z4 srZ mZ;have oJ:=TN (by lia) j3;have oZ:=adE (by lia) z3;have oz:aX zs=W:=(pY zs 1 (zf λz h=>(hz z h).pl)).2.1;have rg:-(2 ^ 62)<=(zl ps:J)/\(zl ps:J).toNat<=aj:=by lia
 have oc:=adH cl;let#[js,ejs,hjs]:=MM (λq h=>j3 q (mJ q h):∀q∈srJ,Js (zl ps) q);let#[z4s,ez4,hz4]:=typed hz;have ljs:zl js<=4:=by rw[ejs,aa]at lJ;lia
 have lzs:zl z4s<=4:=by rw[ez4,aa]at lz;lia
 have rg4:-(2 ^ 62)<=(4:J)/\(4:J).toNat<=aj:=by lia
 have ownZ:aX zv=W:=(pY zv 1 (zf λd h=>(z4 d h).pl)).2.1;refine#[#[ps',cl,js,z4s,st],#[p1,by rw[p2];exact c1,c2,by rw[p2];exact hjs,ljs,hz4,lzs,by rw[p2];exact s1,s2],?_];have oj:aX (js.map jD)=W:=by rw[<-zg];exact KR _
 rw[ejs]at eJ;rw[zg]at eJ;subst ez4;unfold qI yF DY;erw[cA,ki,cg,qg,Ib,o_tI,oc];have h1:forR (pG (.name 11)) (b9 GR 1000 pU) (gx 0 (J0 4)) [L (bB ns),L (.int at_),L (.lst B (cG ks)),L (wD wa wb wc),L (.bl sh),L (.lst W (ps.map tS)),L (.lst W (cl.map cD)),L (.lst W (nm.map tI)),L (.bS W [] []),L (.bS W [] []),L (.lst W []),S,S,S,S]=_:=h1;rw[h1];unfold rS at h2 ⊢;erw[gW,fE];rw[h2];erw[oJ,oZ,eJ,eZ,adG,qz,oz,KR,oj]
end K3
end
section
namespace L2
open PySem PySem.W PySem.Calls PyProof.Rows
theorem TR{α:Type}{abm:α->Prop}{lt lt':Nat->Nat->Bool}(h:∀i j,i<n->j<n->lt i j=lt' i j):∀t:KasT α,KBd n abm t->t7 lt t=t7 lt' t
|.ret _,_=>rfl
|.ask i j k,hb=>by
 show t7 lt (k (lt i j))=t7 lt' (k (lt' i j));rw[<-h i j hb.1 hb.2.1];exact TR h _ (hb.2.2 _)
def MN(n:Nat)(lt:Nat->Nat->Bool):(pK n lt).Perm (bM n):=by
 unfold pK;split
 .rfl
 .have hP:lG n (t7 lt (mq n)):=CW _ _ (uf (by omega));exact hP.2.toList
def Dc{α:Type}[JV α](κ:α->M Key)(xs:M α):M α:=(dX (xs.map κ)).map λi=>xs.getD i default
section
variable{α:Type} [JV α] {κ:α->M Key}
def OC:∀i∈dX kss,i<zl kss:=uV _ _
def aaY(xs:M α):zl (Dc κ xs)=zl xs:=by
 unfold Dc dX;rw[aa,n6,aa]
def range_getD(xs:M α):(bM (zl xs)).map (λi=>xs.getD i default)=xs:=by
 apply kX
 .simp
 .intro i a b;simp[aZ,aq b]
def XI(xs:M α):(Dc κ xs).Perm xs:=by
 have h:=(MN (zl xs) (vG (xs.map κ))).map λi=>xs.getD i default;rw[range_getD]at h;unfold Dc dX;rw[aa];exact h
def adI{xs:M α}(h:i<zl xs):(xs.map κ).getD i []=κ (xs.getD i default):=by simp_all
end
end L2
end
section
namespace K3
open PySem L2 L3 Tr
abbrev WN:=Str×J
noncomputable abbrev wk(l:M WN):M Key:=l.map λp=>.inr p.1
noncomputable abbrev wv(l:M WN):M D:=l.map λp=>.int p.2
noncomputable abbrev mD(p:WN):D:=.tup [.str p.1,.int p.2]
def u5(l:M WN):Prop:=(l.map (·.1)).Nodup
theorem YM(w:Str)(v:J):∀l:M WN,jy (wk l) (wv l) (.inr w) (.int v)=wv (l.map λp=>if p.1=w then(p.1,v)else p)
|[]=>rfl
|p::l=>by
 show(if(d9 p.1:Key)=.inr w then D.int v else .int p.2)::jy (wk l) (wv l) (.inr w) (.int v)=_;rw[YM w v l];by_cases c:p.1=w
 .rw[aF (by rw[c])];simp[wv,c]
 .rw[aG (by simpa using c)];simp[wv,c]
def KS{l:M WN}(nd:u5 l)(hl:zl l<60)(w:Str)(v:J):∃l',putIn (.cW W (wk l) (wv l)) (.int v) (.str w)=L (.cW W (wk l') (wv l'))/\u5 l'/\zl l'<=zl l+1:=by
 have hs:=szl;have e:putIn (.cW W (wk l) (wv l)) (.int v) (.str w)=(if(wk l).length<aj then(if jE (wk l) (.inr w)=W then(if nC (.int v)=W then L (.cW W (wk l) (jy (wk l) (wv l) (.inr w) (.int v)))else S)else L (.cW W (wk l++[.inr w]) (wv l++[.int v])))else S):=rfl;rw[e,aF (by rw[aa];lia)];by_cases c:jE (wk l) (.inr w)=W
 .rw[aF c,aF (show nC (.int v)=W from rfl),YM];have ek:wk (l.map λp=>if p.1=w then(p.1,v)else p)=wk l:=by
   unfold wk;rw[bK];refine gJ λp _=>?_;show(d9 (if p.1=w then(p.1,v)else p).1:Key)=_;split<;>rfl
  refine#[l.map λp=>if p.1=w then(p.1,v)else p,by rw[ek],?_,by simp];have e2:(l.map λp=>if p.1=w then(p.1,v)else p).map (·.1)=l.map (·.1):=by
   rw[bK];refine gJ λp _=>?_;show(if p.1=w then(p.1,v)else p).1=_;split<;>rfl
  unfold u5;rw[e2];exact nd
 .rw[aG c];refine#[l++[(w,v)],by simp[wk,wv],?_,by simp];unfold u5;rw[bE,ve];refine cT.mpr #[nd,by simp,λa ha b hb h=>c ?_];rw[aQ.mp hb]at h;subst h;let#[p,hp,e3]:=ck.mp ha;exact kZ.mpr #[.inr p.1,ck.mpr #[p,hp,rfl],by simpa using e3]
theorem YN:∀l:M WN,z5 (wk l) (wv l)=L l
|[]=>rfl
|p::l=>by
 show(z5 (wk l) (wv l)).map _=_;rw[YN l];rfl
def adJ(l:M WN)(nd:u5 l):∃l',L3.pL (mO l)=l'.map mD/\u5 l'/\zl l'=zl l:=by
 refine#[Dc (λp:WN=>[.inr p.1,.inl p.2]) l,?_,?_,aaY l]
 .unfold L3.pL Dc mO;rw[bK];refine gJ λi hi=>?_;have hlt:=OC i hi;rw[aa]at hlt;rw[adI hlt];rfl
 .exact((XI l).map (λp:WN=>p.1)).nodup_iff.mpr nd
def GA(l:M WN):aX (l.map mD)=W:=by
 induction l with
 |nil=>rfl
 |cons k r ih=>exact ih
def KU(l:M WN):aA (wv l)=wv l:=dR _ (λ_=>rfl) l
theorem adK{O:M PG}{U:br}{a:CE}{r:iV}:mR O (.cons (.sit a) r) U=(pE O (.sit a) U).bind λd=>R.bV (aU d) ((mR O r U).bind λds=>.ok (d::ds)):=rfl
abbrev B3:=Str×abM J×abM J
abbrev bD(b:B3):D:=.tup [.str b.1,oD b.2.1,oD b.2.2]
def GB(l:M B3):aA (l.map bD)=l.map bD:=dR bD (λb=>by show D.tup [.str _,bq (oD _),bq (oD _)]=_;rw[nH,nH]) l
abbrev GP:M PG:=[.fn nE [],.fn gY []]
abbrev GD(sc:D)(at_:J)(kd al bn w:D)(n:J)(ys:M Str)(l:M WN)(a b c:abM D):br:=
 [L sc,L (.int at_),L kd,L al,L bn,L w,L (.int n),L (.lst W (ys.map D.str)),L (.cW W (wk l) (wv l)),a,b,c]
def pf_b(sc:D)(at_:J)(kd al bn w:D)(n:J)(n0:0<=n)(ys:M Str)(l:M WN)(nd:u5 l)(hl:zl l<60)(wd:Str)(lo hi:abM J)(hb:Bo lo hi):∃l',u5 l'/\zl l'<=zl l+1/\b9 GP 1000 lO (GD sc at_ kd al bn w n ys l (L (.str wd)) (L (oD lo)) (L (oD hi)))=.nx (GD sc at_ kd al bn w n ys l' (L (.str wd)) (L (oD lo)) (L (oD hi))):=by
 have hs:=szl;unfold lO GD;cases lo with
 |none=>
  cases hi with
  |none=>exact aH rfl (hb rfl)
  |some h=>
   let#[l',q,q1,q2]:=KS nd hl wd (h-n / 7%3);refine#[l',q1,q2,?_];unfold oD;erw[dm];rw[iu rfl rfl q];erw[]
 |some lo=>
  cases hi with
  |none=>
   let#[l',q,q1,q2]:=KS nd hl wd (lo+n / 7%3);refine#[l',q1,q2,?_];unfold oD;erw[dm];rw[iu rfl rfl q];erw[]
  |some h=>
   generalize hM:(if h-lo+1>1 then h-lo+1 else 1)=abl;have hM0:0<abl:=by rw[<-hM];split<;>lia
   let#[l',q,q1,q2]:=KS nd hl wd (lo+n / 7%abl);refine#[l',q1,q2,?_];unfold oD;erw[dm,hM];rw[iu rfl rfl q];erw[]
abbrev Pt:=Str×M WN
abbrev eG(o:Bool)(p:Pt):D:=.tup [.str p.1,.lst o (p.2.map mD)]
def oq(ks:M (Str×Str))(p:Pt):Prop:=p.1∈ks.map (·.1)/\u5 p.2/\zl p.2<=9
def TU(ns:M J)(at_:J)(ha:0<=at_/\at_<=1000)(ks:M (Str×Str))(hk:ze ks)(wa wb wc:M Str)(la:zl wa=3)(al:D)(t:M Str)(hal:al=tS t\/al=.lst B (t.map D.str))(ht:t≠[])(hm:∀s∈t,s∈ks.map (·.1))(bs:M B3)(hb:∀b∈bs,Bo b.2.1 b.2.2)(hbl:zl bs<=8):∃p:Pt,oq ks p/\kR [bB ns,.int at_,.lst B (cG ks),al,.lst B (bs.map bD),wD wa wb wc]=.ok (eG W p):=by
 have hs:=szl;let#[n,n0,n1,qn]:=nF ns at_ (by lia);have tp:(0:J)<(zl t:J):=by
  have:=jx.mpr ht
  lia
 have b1:=dH n tp;let#[s,sm,es]:=mX t (n%(zl t:J)) b1.1 b1.2;let#[ys,y1,y2,y3,qy]:=MJ ks hk.l8 hk.ho s (hm s sm);have yp:(0:J)<(zl ys:J):=by
  have:=jx.mpr y1
  lia
 have b2:=dH (n / 4) yp;let#[s2,sm2,es2]:=mX ys (n / 4%(zl ys:J)) b2.1 b2.2;have fal:bq al=al:=by rcases hal with rfl|rfl<;>(first|(show D.tup (aA _)=_;rw[cg])|(show D.lst B (aA _)=_;rw[cg]))
 have lal:h_ .len [al]=.ok (.int (zl t:J)):=by
  rcases hal with rfl|rfl
  .show R.ok (D.int (zl (t.map D.str):J))=_;rw[aa]
  .show R.ok (D.int (zl (t.map D.str):J))=_;rw[aa]
 have ial:iY al (.int (n%(zl t:J)))=.ok (.str s):=by
  rcases hal with rfl|rfl<;>(unfold iY;simp only[es];rfl)
 have loop:∀l:M WN,u5 l->zl l<=1->∃p:Pt,oq ks p/\yy (b9 GP 1000 YI (GD (bB ns) at_ (.lst B (cG ks)) al (.lst B (bs.map bD)) (wD wa wb wc) n ys l S S S))=.ok (eG W p):=by
  intro l nd hl;let#[σ',h1,l2,a,b,c,nd2,hl2,rfl]:=K2.lQ (g:=pG (.tup (.cons (.name 9) (.cons (.name 10) (.cons (.name 11) .nil))))) bD bs
   (λpre U=>∃(l2:M WN) (a b c:abM D),u5 l2/\zl l2<=1+zl pre/\U=GD (bB ns) at_ (.lst B (cG ks)) al (.lst B (bs.map bD)) (wD wa wb wc) n ys l2 a b c) (by
   rintro pre ⟨w,lo,hi⟩ post e U ⟨l2,a,b,c,nd2,hl2,rfl⟩;have hpre:zl pre<=8:=by grind
   let#[l3,q1,q2,q3]:=pf_b (bB ns) at_ (.lst B (cG ks)) al (.lst B (bs.map bD)) (wD wa wb wc) n n0 ys l2 nd2 (by lia) w lo hi (hb (w,lo,hi) (by rw[e];simp));exact#[GD (bB ns) at_ (.lst B (cG ks)) al (.lst B (bs.map bD)) (wD wa wb wc) n ys l2 (L (.str w)) (L (oD lo)) (L (oD hi)),_,rfl,q3,l3,_,_,_,q1,by simp;lia,rfl]) (GD (bB ns) at_ (.lst B (cG ks)) al (.lst B (bs.map bD)) (wD wa wb wc) n ys l S S S) #[l,_,_,_,nd,by simpa using hl,rfl]
  let#[l3,e3,nd3,hl3]:=adJ l2 nd2;refine#[(s2,l3),#[y3 s2 sm2,nd3,by show zl l3<=9;lia],?_];have hits:=YN l2;have h64:zl l2<64:=by lia
  erw[GB];rw[h1];erw[cg,es2,adK,KU,hits,e3,GA]
 by_cases c:(n / 64%3==0)=W
 .have b3:=dH (n / 192) (b:=3) (by decide);let#[s3,sm3,es3]:=mX wa (n / 192%3) b3.1 (by lia);let#[l',q,q1,q2]:=KS (l:=[]) (by unfold u5;simp) (by simp) s3 (n / 600%7-2);let#[p,hp,qp]:=loop l' q1 (by simpa using q2);refine#[p,hp,rQ ?_ qp];unfold kR tB wX;have q:putIn (.cW W [] []) (.int (n / 600%7-2)) (.str s3)=L (.cW W (wk l') (wv l')):=q;unfold YI GD;generalize lO=abm;erw[cA,qn,fal,lal,ial,ki,qy,c,Gz,cg,es3,kT];rw[iu rfl rfl q];erw[]
 .rw[dD]at c;let#[p,hp,qp]:=loop [] (by unfold u5;simp) (by simp);refine#[p,hp,rQ ?_ qp];unfold kR tB wX;unfold YI GD;generalize lO=abm;erw[cA,qn,fal,lal,ial,ki,qy,c,cg,kT]
def TV{β:Type}{g:D->br->R br}{b:br->Fl}(enc:β->D)(xs:M β)(I:M β->br->Prop)(h:∀pre x post,xs=pre++x::post->∀U,I pre U->∃σ2 σ3,g (.tup [.int (zl pre:J),enc x]) U=.ok σ2/\b σ2=.nx σ3/\I (pre++[x]) σ3)(U:br)(h0:I [] U):∃σ',forR g b (ir 0 (xs.map enc)) U=.nx σ'/\I xs σ':=by
 have go:∀(post pre:M β) (U:br),xs=pre++post->I pre U->∃σ',forR g b (ir (zl pre) (post.map enc)) U=.nx σ'/\I xs σ':=by
  intro post;induction post with
  |nil=>intro pre U e hi;rw[e,d_];exact#[U,rfl,hi]
  |cons x r ih=>
   intro pre U e hi;let#[σ2,σ3,h1,h2,h3]:=h pre x r e U hi;let#[σ',h4,h5]:=ih (pre++[x]) σ3 (by rw[e,dF];rfl) h3;refine#[σ',?_,h5];rw[bf,f_]at h4;rw[bJ];show(g (.tup [.int (zl pre:J),enc x]) U).bA _=_;rw[h1];simp only[R.bA,h2];exact h4
 exact go xs [] U rfl h0
abbrev GT:M PG:=[.fn gY [],.fn kR []]
abbrev u6(sc kd rd w:D)(at_:J)(pp:M Pt)(a6 a7 a8 a9 a10 a11 a12 a13 a14 a15 a16 a17 a18:abM D):br:=
 [L sc,L (.int at_),L kd,L rd,L w,L (.lst W (pp.map (eG W))),a6,a7,a8,a9,a10,a11,a12,a13,a14,a15,a16,a17,a18]
def rA(l:M Z4):aA (l.map zD)=l.map zD:=dR zD (λz=>by show D.tup [.int _,.str _,bq (oD _),bq (oD _)]=_;rw[nH,nH]) l
def eK(l:M J3):aA (l.map jD)=l.map jD:=dR jD (λ_=>rfl) l
def cZ(l:M (Str×J)):aA (l.map sD)=l.map sD:=dR sD (λ_=>rfl) l
def lS(l:M (M Str×M J)):aA (l.map cD)=l.map cD:=dR cD (λc=>by show D.tup [.tup (aA _),.tup (aA _)]=_;rw[cg,b_]) l
def adL(l:M B3):aX (l.map bD)=W:=by
 induction l with
 |nil=>rfl
 |cons b r ih=>
  show((W&&(aU (oD b.2.1)&&(aU (oD b.2.2)&&W)))&&aX (r.map bD))=W;rw[ih,EW,EW];rfl
def YO(p:Pt):aU (eG W p)=W:=by
 show(W&&((W&&aX (p.2.map mD))&&W))=W;rw[GA];rfl
theorem GH(a b c d e:D):dj [a,b,c,d,e] 0=L a:=rfl
theorem Dd(a b c d e:D):dj [a,b,c,d,e] 2=L c:=rfl
theorem YQ(a b c d e:D):dj [a,b,c,d,e] 3=L d:=rfl
theorem De(a b c d e:D):dj [a,b,c,d,e] 4=L e:=rfl
theorem ae_(a b c d:D):dj [a,b,c,d] 0=L a:=rfl
theorem KW(a b:D):dj [a,b] 0=L a:=rfl
theorem YR(a b:D):dj [a,b] 1=L b:=rfl
def bds(zs:M Z4)(i:J):dS (pG (.name 0)) (pT GT (.cmp .Eq (.ix (.var 0) (.con (.int 0))) (.var 1))) (pE GT (.sl (.var 0) (.some (.con (.int 1))) .none)) (zs.map zD) [S,L (.int i)]=.ok (((zs.filter λz=>z.1==i).map λz=>(z.2.1,z.2.2.1,z.2.2.2)).map bD):=by
 rw[bK];refine sY zD (λU=>∃o,U=[o,L (.int i)]) (λz=>z.1==i) (λz=>bD (z.2.1,z.2.2.1,z.2.2.2)) zs _ #[_,rfl] ?_;rintro⟨n,w,lo,hi⟩ _ U ⟨o,rfl⟩;refine#[[L (zD (n,w,lo,hi)),L (.int i)],rfl,#[_,rfl],?_,?_]
 .erw[ae_,nH]
 .have hd:(1:J)<=1/\(1:J)<=(zl [D.int n,.str w,oD lo,oD hi]:J):=by simp
  erw[nH];show R.ok (D.tup [.str w,bq (oD lo),bq (oD hi)])=_;rw[nH,nH]
section
variable(ns:M J) (at_:J) (ha:0<=at_/\at_<=900) (ks:M (Str×Str)) (hk:ze ks) (wa wb wc:M Str) (la:zl wa=3) (r:lR) (hr:u0 ks r)
include ha hk la hr
theorem th_1:∃(pp:M Pt) (a6 a7 a8:abM D),zl pp=zl r.ps/\(∀p∈pp,oq ks p) /\
  forR (pG (.tup (.cons (.name 6) (.cons (.name 7) .nil)))) (b9 GT 1000 kP) (ir 0 (r.ps.map tS)) (u6 (bB ns) (.lst B (cG ks)) (bF B r) (wD wa wb wc) at_ [] S S S S S S S S S S S S S)=
   .nx (u6 (bB ns) (.lst B (cG ks)) (bF B r) (wD wa wb wc) at_ pp a6 a7 a8 S S S S S S S S S S):=by
 have hs:=szl;have p4:=hr.p.1;let#[σ',h1,pp,a6,a7,a8,l1,l2,rfl]:=TV (g:=pG (.tup (.cons (.name 6) (.cons (.name 7) .nil)))) (b:=b9 GT 1000 kP) tS r.ps
  (λpre U=>∃(pp:M Pt) (a6 a7 a8:abM D),zl pp=zl pre/\(∀p∈pp,oq ks p)/\U=u6 (bB ns) (.lst B (cG ks)) (bF B r) (wD wa wb wc) at_ pp a6 a7 a8 S S S S S S S S S S) (by
  rintro pre t post e U ⟨pp,a6,a7,a8,l1,l2,rfl⟩;have hpre:zl pre<4:=by rw[e]at p4;simp at p4;lia
  have ht:=hr.p.2 t (by rw[e];simp);let#[p,hp,qp]:=TU ns (at_+(zl pre:J)) (by lia) ks hk wa wb wc la (tS t) t (.inl rfl) ht.1.1 ht.2 ((r.zs.filter λz=>z.1==(zl pre:J)).map λz=>(z.2.1,z.2.2.1,z.2.2.2)) (λb hb=>by
   let#[z,hz,rfl]:=ck.mp hb;exact hr.z z (tO.mp hz).1) (by
   rw[aa];have:=zG (λz:Z4=>z.1==(zl pre:J)) r.zs;have:=hr.z4
   lia)
  have qb:=bds r.zs (zl pre:J);refine#[u6 (bB ns) (.lst B (cG ks)) (bF B r) (wD wa wb wc) at_ pp (L (.int (zl pre:J))) (L (tS t)) a8 S S S S S S S S S S,u6 (bB ns) (.lst B (cG ks)) (bF B r) (wD wa wb wc) at_ (pp++[p]) (L (.int (zl pre:J))) (L (tS t)) (L (.lst W (((r.zs.filter λz=>z.1==(zl pre:J)).map λz=>(z.2.1,z.2.2.1,z.2.2.2)).map bD))) S S S S S S S S S S,rfl,?_,pp++[p],_,_,_,by simp[l1],λq hq=>?_,rfl]
  .unfold kP u6;generalize hB:((r.zs.filter λz=>z.1==(zl pre:J)).map λz=>(z.2.1,z.2.2.1,z.2.2.2))=bs at qb qp ⊢;erw[gW,lS,eK,rA,cZ,YQ,qb,adL,cA,ki,cg,GB,qp];rw[jH rfl (by rw[hs,aa];lia) (by rw[YO];rfl)];erw[GA,bE,bJ,gi]
  .rcases bw.mp hq with z|z
   .exact l2 q z
   .rw[aQ.mp z];exact hp) _ #[[],_,_,_,rfl,λ_ h=>aH h aD,rfl]
 exact#[pp,a6,a7,a8,l1,l2,h1]
omit hr in
theorem th_2(m:J)(m0:0<=m)(pp:M Pt)(hpl:zl pp<=4)(hpp:∀p∈pp,oq ks p)(rd:D)(a6 a7 a8:abM D):∃(qq:M Pt) (a10 a11:abM D),zl pp<=zl qq/\zl qq<=6/\(∀p∈qq,oq ks p) /\
  forR (pG (.name 10)) (b9 GT 1000 kO) (gx 0 (m%3).toNat) (u6 (bB ns) (.lst B (cG ks)) rd (wD wa wb wc) at_ pp a6 a7 a8 (L (.int m)) S S S S S S S S S)=
   .nx (u6 (bB ns) (.lst B (cG ks)) rd (wD wa wb wc) at_ qq a6 a7 a8 (L (.int m)) a10 a11 S S S S S S S):=by
 have hs:=szl;have b3:=dH m (b:=3) (by decide);let#[σ',h1,qq,a10,a11,l1,l2,l3,rfl]:=nG (g:=pG (.name 10)) (b:=b9 GT 1000 kO) (m%3).toNat
  (λk U=>∃(qq:M Pt) (a10 a11:abM D),zl pp<=zl qq/\zl qq<=4+k/\(∀p∈qq,oq ks p)/\U=u6 (bB ns) (.lst B (cG ks)) rd (wD wa wb wc) at_ qq a6 a7 a8 (L (.int m)) a10 a11 S S S S S S S) (by
  rintro k hkk U ⟨qq,a10,a11,l1,l2,l3,rfl⟩;have kp:(0:J)<(zl ks:J):=by have:=hk.l3;lia
  have b1:=dH (m / ((k:J)+3)) kp;let#[j,hj,ej,ea]:=j7 (cG ks) (m / ((k:J)+3)%(zl ks:J)) b1.1 (by rw[aa];exact b1.2);rw[dc]at ea;generalize hq:ks[j]'(by simpa using hj)=q at ea;have hqm:q.1∈ks.map (·.1):=ck.mpr #[q,by rw[<-hq];exact cz _,rfl];let#[p,hp,qp]:=TU ns (at_+6+(k:J)) (by lia) ks hk wa wb wc la (.lst B ([q.1].map D.str)) [q.1] (.inr rfl) (by simp) (λs h=>by rw[aQ.mp h];exact hqm) [] (λb h=>aH h aD) (by simp);have qp:kR [bB ns,.int (at_+6+(k:J)),.lst B (cG ks),.lst B [.str q.1],.lst B [],wD wa wb wc]=.ok (eG W p):=qp;refine#[u6 (bB ns) (.lst B (cG ks)) rd (wD wa wb wc) at_ qq a6 a7 a8 (L (.int m)) (L (.int k)) a11 S S S S S S S,u6 (bB ns) (.lst B (cG ks)) rd (wD wa wb wc) at_ (qq++[p]) a6 a7 a8 (L (.int m)) (L (.int k)) (L (.str q.1)) S S S S S S S,rfl,?_,qq++[p],_,_,by simp;lia,by simp;lia,λx hx=>?_,rfl]
  .unfold kO u6;have hd:vf m ((k:J)+3):=by unfold vf;lia
   erw[ki,ea,AL,KW,cA,cg,qp];rw[jH rfl (by rw[hs,aa];lia) (by rw[YO];rfl)];erw[GA,bE,bJ,gi]
  .rcases bw.mp hx with z|z
   .exact l3 x z
   .rw[aQ.mp z];exact hp) _ #[pp,_,_,aK _,by lia,hpp,rfl]
 exact#[qq,a10,a11,l1,by lia,l3,h1]
end
structure Od (n:Nat) (od:M J):Prop where
 len:zl od=n
 sub:∀i∈od,iZ n i
 has:∀k:Nat,k<n->(k:J)∈od
def Od.ins{n:Nat}{od:M J}(h:Od n od)(j:Nat):Od (n+1) (od.take j++(n:J)::od.drop j):=by
 have hl:=h.len;refine#[by simp;lia,λi hi=>?_,λk hk=>?_]
 .rcases bw.mp hi with q|q
  .exact(h.sub i (tY q)).up (by lia)
  .rcases be.mp q with q|q
   .rw[q];exact#[by lia,by lia]
   .exact(h.sub i (AA q)).up (by lia)
 .by_cases c:k<n
  .have:=h.has k c;rw[<-List.take_append_drop j od]at this;rcases bw.mp this with q|q
   .exact bC _ q
   .exact aJ _ (ao _ q)
  .grind
def aaZ(l:M J):qY (l.map D.int)=L l:=by
 induction l with
 |nil=>rfl
 |cons x r ih=>
  show(qY (r.map D.int)).map _=_;rw[ih];rfl
abbrev GI(sc kd rd w:D)(at_:J)(pp:M Pt)(m:J)(a6 a7 a8 a10 a11:abM D)(od:M J)(a13 a14 a15 a16 a17 a18:abM D):br:=u6 sc kd rd w at_ pp a6 a7 a8 (L (.int m)) a10 a11 (L (.lst W (od.map D.int))) a13 a14 a15 a16 a17 a18
def th_3(sc kd rd w:D)(at_ m:J)(m0:0<=m)(pp:M Pt)(hpp:zl pp<=6)(a6 a7 a8 a10 a11:abM D):∃(od:M J) (a10':abM D),Od (zl pp) od /\
  forR (pG (.name 10)) (b9 GT 1000 kN) (gx 0 (zl pp)) (GI sc kd rd w at_ pp m a6 a7 a8 a10 a11 [] S S S S S S)=.nx (GI sc kd rd w at_ pp m a6 a7 a8 a10' a11 od S S S S S S):=by
 have hs:=szl;let#[σ',h1,od,a10',l1,rfl]:=nG (g:=pG (.name 10)) (b:=b9 GT 1000 kN) (zl pp)
  (λk U=>∃(od:M J) (a10:abM D),Od k od/\U=GI sc kd rd w at_ pp m a6 a7 a8 a10 a11 od S S S S S S) (by
  rintro k hk U ⟨od,a10,l1,rfl⟩;have b1:=dH (m / (5*(k:J)+7)) (b:=(k:J)+1) (by lia);have hl:=l1.len;refine#[GI sc kd rd w at_ pp m a6 a7 a8 (L (.int k)) a11 od S S S S S S,GI sc kd rd w at_ pp m a6 a7 a8 (L (.int k)) a11 (od.take (m / (5*(k:J)+7)%((k:J)+1)).toNat++(k:J)::od.drop (m / (5*(k:J)+7)%((k:J)+1)).toNat) S S S S S S,rfl,?_,_,_,l1.ins _,rfl];unfold kN GI u6;have hd:vf m (5*(k:J)+7):=by unfold vf;lia
  have hm:rC 5 (k:J):=by unfold rC;lia
  erw[];rw[BR rfl (by grind) rfl];erw[bE,bJ,lE,lF]) _ #[[],_,#[rfl,λ_ h=>aH h aD,λk h=>aH h (oU k)],rfl]
 exact#[od,a10',l1,h1]
def afa(n:Nat)(od:M J)(h:Od n od):∃sp:M J,zl sp=n/\(∀i∈sp,iZ n i) /\
  dS (pG (.name 0)) (λ_=>.ok W) (pE GT (.mth .index (.var 1) (.cons (.var 0) .nil))) (gx 0 n) [S,L (.lst W (od.map D.int))]=.ok (sp.map D.int):=by
 have q:=ia (g:=pG (.name 0)) (e:=pE GT (.mth .index (.var 1) (.cons (.var 0) .nil))) (λi:Nat=>D.int (0+(i:J))) (λU=>∃o,U=[o,L (.lst W (od.map D.int))]) (λy=>∃i,iZ n i/\y=.int i) (bM n) [S,L (.lst W (od.map D.int))] #[_,rfl] (by
  rintro k hk U ⟨o,rfl⟩;have hk:=gc.mp hk;have hm:=h.has k hk;refine#[[L (.int (0+(k:J))),L (.lst W (od.map D.int))],.int (od.idxOf (0+(k:J)):Nat),rfl,#[_,rfl],?_,_,#[?_,?_],rfl]
  .have hi:uq .index (.lst B (od.map D.int)) [.int (0+(k:J))]=.ok (.int (od.idxOf (0+(k:J)):Nat)):=Mq (aaZ od) (by rw[CP];exact hm);erw[b_,hi]
  .lia
  .rw[CP];have:=xm.mpr hm;rw[h.len]at this;exact Int.ofNat_lt.mpr this)
 let#[ys,y1,y2,y3]:=q;let#[sp,rfl,hsp]:=typed y3;exact#[sp,by simpa using y2,hsp,y1]
def MO(o:Bool)(p:Pt):bq (eG o p)=eG B p:=by
 show D.tup [.str p.1,.lst B (aA (p.2.map mD))]=_;rw[dR mD (λ_=>rfl)]
def iy(o:Bool)(l:M Pt):aA (l.map (eG o))=l.map (eG B):=by
 induction l with
 |nil=>rfl
 |cons p r ih=>
  show bq (eG o p)::aA (r.map (eG o))=_;rw[ih,MO];rfl
def zh{n:Nat}{l:M J}(h:zl l=n){i:J}(hi:iZ n i):∃v,v∈l/\dj (l.map D.int) i=L (.int v):=by
 let#[j,hj,ej,ea]:=j7 (l.map D.int) i hi.1 (by rw[aa,h];exact hi.2);rw[dc]at ea;exact#[_,cz _,ea]
abbrev vH(sc kd rd w:D)(at_:J)(pp:M Pt)(m:J)(od sp:M J)(jk:M (M Key))(jv:M D)(a6 a7 a8 a10 a11 a15 a16 a17 a18:abM D):br:=GI sc kd rd w at_ pp m a6 a7 a8 a10 a11 od (L (.lst W (sp.map D.int))) (L (.bS W jk jv)) a15 a16 a17 a18
structure Jn (n N:Nat) (jk:M (M Key)) (jv:M D):Prop where
 l:zl jk=zl jv
 b:zl jk<=N
 k:∀q∈jk,Js n q
 v:∀d∈jv,d=.bl W
def Jn.put{n N:Nat}{jk:M (M Key)}{jv:M D}(h:Jn n N jk jv)(hN:N<60)(s:Str)(i j:J)(hi:iZ n i)(hj:iZ n j):∃jk' jv',Jn n (N+1) jk' jv'/\putIn (.bS W jk jv) (.bl W) (.tup [.str s,.int i,.int j])=L (.bS W jk' jv'):=by
 have hs:=szl;have hb:=h.b;let#[jk',jv',hput,g1,g2,g3,g4]:=KO (d:=.bl W) (j:=.tup [.str s,.int i,.int j]) h.l (by lia) rfl rfl;refine#[jk',jv',#[g1,by lia,λq hq=>?_,λy hy=>?_],hput]
 .rcases g3 q hq with z|z
  .exact#[(s,i,j),#[hi,hj],z]
  .exact h.k q z
 .rcases g4 y hy with z|z
  .exact z
  .exact h.v y z
def th_4(sc kd rd w:D)(at_ m:J)(pp:M Pt)(n:Nat)(od sp:M J)(hsp:zl sp=n)(hsi:∀i∈sp,iZ n i)(js:M J3)(hj4:zl js<=4)(hj:∀j∈js,OB n j)(a6 a7 a8 a10 a11:abM D):∃(jk:M (M Key)) (jv:M D) (a6' a15 a16:abM D),Jn n 4 jk jv /\
  forR (pG (.tup (.cons (.name 15) (.cons (.name 6) (.cons (.name 16) .nil))))) (b9 GT 1000 kM) (js.map jD) (vH sc kd rd w at_ pp m od sp [] [] a6 a7 a8 a10 a11 S S S S)=.nx (vH sc kd rd w at_ pp m od sp jk jv a6' a7 a8 a10 a11 a15 a16 S S):=by
 have hs:=szl;let#[σ',h1,jk,jv,a6',a15,a16,l1,rfl]:=K2.lQ (g:=pG (.tup (.cons (.name 15) (.cons (.name 6) (.cons (.name 16) .nil))))) (b:=b9 GT 1000 kM) jD js
  (λpre U=>∃(jk:M (M Key)) (jv:M D) (a6 a15 a16:abM D),Jn n (zl pre) jk jv/\U=vH sc kd rd w at_ pp m od sp jk jv a6 a7 a8 a10 a11 a15 a16 S S) (by
  rintro pre ⟨s,i,j⟩ post e U ⟨jk,jv,a6,a15,a16,l1,rfl⟩;have hpre:zl pre<4:=by rw[e]at hj4;simp at hj4;lia
  let#[h1,h2]:=hj (s,i,j) (by rw[e];simp);let#[v1,v1m,e1]:=zh hsp h1;let#[v2,v2m,e2]:=zh hsp h2;let#[jk',jv',l2,q]:=l1.put (by lia) s v1 v2 (hsi v1 v1m) (hsi v2 v2m);refine#[vH sc kd rd w at_ pp m od sp jk jv (L (.int i)) a7 a8 a10 a11 (L (.str s)) (L (.int j)) S S,vH sc kd rd w at_ pp m od sp jk' jv' (L (.int i)) a7 a8 a10 a11 (L (.str s)) (L (.int j)) S S,rfl,?_,jk',jv',_,_,_,by rw[bf];exact l2,rfl];unfold kM vH GI u6;erw[b_,e1,e2];rw[iu rfl rfl q];erw[]) _ #[[],[],_,_,_,#[rfl,by simp,λ_ h=>aH h aD,λ_ h=>aH h aD],rfl]
 exact#[jk,jv,a6',a15,a16,#[l1.l,by have:=l1.b;lia,l1.k,l1.v],h1]
def aa0(n:Nat)(sp:M J)(hsp:zl sp=n)(st:M (Str×J))(hst:∀s∈st,iZ n s.2):∃st':M (Str×J),zl st'=zl st /\
  dS (pG (.tup (.cons (.name 0) (.cons (.name 1) .nil)))) (λ_=>.ok W) (pE GT (.tup (.cons (.var 0) (.cons (.ix (.var 2) (.var 1)) .nil)))) (st.map sD) [S,S,L (.lst W (sp.map D.int))]=.ok (st'.map sD):=by
 have hs:=szl;have q:=ia (g:=pG (.tup (.cons (.name 0) (.cons (.name 1) .nil)))) (e:=pE GT (.tup (.cons (.var 0) (.cons (.ix (.var 2) (.var 1)) .nil)))) sD (λU=>∃a b,U=[a,b,L (.lst W (sp.map D.int))]) (λy=>∃s:Str×J,True/\y=sD s) st [S,S,L (.lst W (sp.map D.int))] #[_,_,rfl] (by
  rintro⟨s,i⟩ hm U ⟨a,b,rfl⟩;let#[v,_,e]:=zh hsp (hst (s,i) hm);refine#[[L (.str s),L (.int i),L (.lst W (sp.map D.int))],sD (s,v),rfl,#[_,_,rfl],?_,(s,v),trivial,rfl];erw[b_,e])
 let#[ys,y1,y2,y3]:=q;let#[st',rfl,_]:=typed y3;exact#[st',by simpa using y2,y1]
theorem adM:kL=.cons uN (.cons uJ (.cons uT .nil)):=rfl
section
variable(ns:M J) (at_:J) (ha:0<=at_/\at_<=900) (kd rd:D) (wa wb wc:M Str) (lb:zl wb=2) (lc:zl wc=2) (pp:M Pt) (hpp:zl pp<=6) (m:J) (od sp:M J) (a7 a8 a11 a15 a16:abM D)
include hpp lb lc
theorem afb(n:J)(n0:0<=n)(k:Nat)(N:Nat)(hN:N<60)(jk:M (M Key))(jv:M D)(h:Jn (zl pp) N jk jv)(st:D)(a6:abM D):∃(jk':M (M Key)) (jv':M D) (a6':abM D),Jn (zl pp) (N+1) jk' jv' /\
  pS GT 1000 uJ (vH (bB ns) kd rd (wD wa wb wc) at_ pp m od sp jk jv a6 a7 a8 (L (.int k)) a11 a15 a16 (L st) (L (.int n)))=.nx (vH (bB ns) kd rd (wD wa wb wc) at_ pp m od sp jk' jv' a6' a7 a8 (L (.int k)) a11 a15 a16 (L st) (L (.int n))):=by
 have hs:=szl;have up:Jn (zl pp) (N+1) jk jv:=#[h.l,by have:=h.b;lia,h.k,h.v];by_cases c1:(1:J)<(zl pp:J)
 .by_cases c2:(n%3==0)=W
  .have e1:=a_ c1;have b2:=dH (n / 18) (b:=2) (by decide);let#[s,hsm,es]:=mX wb (n / 18%2) b2.1 (by lia);have h1:(0:J)<(zl pp:J):=by omega
   have h2:(0:J)<(zl pp:J)-1:=by omega
   let#[jk',jv',l2,q]:=h.put hN s (n / 3%(zl pp:J)) ((n / 3%(zl pp:J)+1+n / 36%((zl pp:J)-1))%(zl pp:J)) (dH _ h1) (dH _ h1);refine#[jk',jv',L (.int (n / 3%(zl pp:J))),l2,?_];erw[iy,e1,c2,KP,cg,es];rw[iu rfl rfl q];erw[]
  .rw[dD]at c2;have e1:=a_ c1;refine#[jk,jv,a6,up,?_];erw[iy,e1,c2]
 .have e1:=bW c1;refine#[jk,jv,a6,up,?_];erw[iy,e1]
theorem afc(n:J)(n0:0<=n)(k:Nat)(jk:M (M Key))(jv:M D)(st:M (Str×J))(hst:zl st<=60)(a6:abM D):∃st':M (Str×J),zl st'<=zl st+1 /\
  pS GT 1000 uT (vH (bB ns) kd rd (wD wa wb wc) at_ pp m od sp jk jv a6 a7 a8 (L (.int k)) a11 a15 a16 (L (.lst W (st.map sD))) (L (.int n)))=.nx (vH (bB ns) kd rd (wD wa wb wc) at_ pp m od sp jk jv a6 a7 a8 (L (.int k)) a11 a15 a16 (L (.lst W (st'.map sD))) (L (.int n))):=by
 have hs:=szl;by_cases c1:(0:J)<(zl pp:J)
 .by_cases c2:(n%2==0)=W
  .have e1:=a_ c1;have b2:=dH (n / 20) (b:=2) (by decide);let#[s,hsm,es]:=mX wc (n / 20%2) b2.1 (by lia);have b3:=dH (n / 2) (b:=(zl st:J)+1) (by omega);refine#[st.take (n / 2%((zl st:J)+1)).toNat++(s,n / 40%(zl pp:J))::st.drop (n / 2%((zl st:J)+1)).toNat,by simp;omega,?_];erw[iy,cZ,e1,c2,KQ,cg,es];rw[BR rfl (by grind) rfl];erw[bE,bJ,lE,lF]
  .rw[dD]at c2;have e1:=a_ c1;refine#[st,by omega,?_];erw[iy,e1,c2]
 .have e1:=bW c1;refine#[st,by omega,?_];erw[iy,e1]
include ha
theorem th_5(jk:M (M Key))(jv:M D)(h:Jn (zl pp) 4 jk jv)(st:M (Str×J))(hst:zl st<=8)(a6 a10:abM D):∃(jk':M (M Key)) (jv':M D) (st':M (Str×J)) (a6' a10' a18:abM D),Jn (zl pp) 6 jk' jv'/\zl st'<=10 /\
  forR (pG (.name 10)) (b9 GT 1000 kL) (gx 0 2) (vH (bB ns) kd rd (wD wa wb wc) at_ pp m od sp jk jv a6 a7 a8 a10 a11 a15 a16 (L (.lst W (st.map sD))) S)=.nx (vH (bB ns) kd rd (wD wa wb wc) at_ pp m od sp jk' jv' a6' a7 a8 a10' a11 a15 a16 (L (.lst W (st'.map sD))) a18):=by
 let#[σ',h1,jk',jv',st',a6',a10',a18,l1,l2,rfl]:=nG (g:=pG (.name 10)) (b:=b9 GT 1000 kL) 2
  (λk U=>∃(jk:M (M Key)) (jv:M D) (st:M (Str×J)) (a6 a10 a18:abM D),Jn (zl pp) (4+k) jk jv/\zl st<=8+k/\U=vH (bB ns) kd rd (wD wa wb wc) at_ pp m od sp jk jv a6 a7 a8 a10 a11 a15 a16 (L (.lst W (st.map sD))) a18) (by
  rintro k hk U ⟨jk,jv,st,a6,a10,a18,l1,l2,rfl⟩;let#[n,n0,n1,qn]:=nF ns (at_+8+(k:J)) (by lia);have hN:pS GT 1000 uN (vH (bB ns) kd rd (wD wa wb wc) at_ pp m od sp jk jv a6 a7 a8 (L (.int k)) a11 a15 a16 (L (.lst W (st.map sD))) a18)=.nx (vH (bB ns) kd rd (wD wa wb wc) at_ pp m od sp jk jv a6 a7 a8 (L (.int k)) a11 a15 a16 (L (.lst W (st.map sD))) (L (.int n))):=by
   erw[cA,qn]
  let#[jk',jv',a6',x1,hJ]:=afb ns at_ kd rd wa wb wc lb lc pp hpp m od sp a7 a8 a11 a15 a16 n n0 k (4+k) (by lia) jk jv l1 (.lst W (st.map sD)) a6;let#[st',y1,hT]:=afc ns at_ kd rd wa wb wc lb lc pp hpp m od sp a7 a8 a11 a15 a16 n n0 k jk' jv' st (by lia) a6';refine#[vH (bB ns) kd rd (wD wa wb wc) at_ pp m od sp jk jv a6 a7 a8 (L (.int k)) a11 a15 a16 (L (.lst W (st.map sD))) a18,_,rfl,?_,jk',jv',st',a6',L (.int k),L (.int n),x1,by lia,rfl];rw[adM,dY,hN];show b9 GT 1000 _ _=_;rw[dY,hJ];show b9 GT 1000 _ _=_;rw[dY,hT];rfl) _ #[jk,jv,st,_,_,_,h,by omega,rfl]
 exact#[jk',jv',st',a6',a10',a18,l1,l2,h1]
end
structure Th where
 ps:M Pt
 js:M J3
 st:M (Str×J)
abbrev mY(t:Th):D:=.tup [.lst B (t.ps.map (eG B)),.lst B (t.js.map jD),.lst B (t.st.map sD)]
structure D7 (ks:M (Str×Str)) (t:Th):Prop where
 p:∀p∈t.ps,oq ks p
 p7:zl t.ps<=7
 j6:zl t.js<=6
 s10:zl t.st<=10
def vU(o1 o2 o3 o4:Bool)(t:Th):bq (.tup [.lst o1 (t.ps.map (eG o4)),.lst o2 (t.js.map jD),.lst o3 (t.st.map sD)])=mY t:=by
 show D.tup [.lst B (aA _),.lst B (aA _),.lst B (aA _)]=_;rw[iy,eK,cZ]
theorem GJ{α:Type}{r:R α}:R.bV B r=.bad:=rfl
theorem aa1{α β:Type}{f:α->R β}{y:R β}:(R.bad:R α).alt f y=y:=rfl
theorem TX{α β:Type}{a:α}{f:α->R β}{y:R β}:(R.ok a:R α).alt f y=f a:=rfl
def aa2(ks:M (Str×Str))(pp:M Pt)(hpp:∀p∈pp,oq ks p)(od:M J)(h:∀i∈od,iZ (zl pp) i):∃qq:M Pt,zl qq=zl od/\(∀p∈qq,oq ks p) /\
  dS (pG (.name 0)) (λ_=>.ok W) (pE GT (.ix (.var 1) (.var 0))) (od.map D.int) [S,L (.lst W (pp.map (eG W)))]=.ok (qq.map (eG B)):=by
 have q:=ia (g:=pG (.name 0)) (e:=pE GT (.ix (.var 1) (.var 0))) D.int (λU=>∃o,U=[o,L (.lst W (pp.map (eG W)))]) (λy=>∃p,oq ks p/\y=eG B p) od [S,L (.lst W (pp.map (eG W)))] #[_,rfl] (by
  rintro i hi U ⟨o,rfl⟩;let#[j,hj,ej,ea]:=j7 (pp.map (eG B)) i (h i hi).1 (by rw[aa];exact(h i hi).2);rw[dc]at ea;refine#[[L (.int i),L (.lst W (pp.map (eG W)))],eG B (pp[j]'(by simpa using hj)),rfl,#[_,rfl],?_,_,hpp _ (cz _),rfl];erw[iy,ea,MO]
  all_goals exact jc R.ok (MO B (pp[j]'(by simpa using hj))))
 let#[ys,y1,y2,y3]:=q;let#[qq,rfl,hq]:=typed y3;exact#[qq,by simpa using y2,hq,y1]
def aa3(ns:M J)(at_:J)(ha:0<=at_/\at_<=900)(ks:M (Str×Str))(hk:ze ks)(wa wb wc:M Str)(la:zl wa=3)(lb:zl wb=2)(lc:zl wc=2)(r:lR)(hr:u0 ks r):∃(d:D) (t:Th),nV [bB ns,.int at_,.lst B (cG ks),bF B r,wD wa wb wc]=.ok d/\bq d=mY t/\D7 ks t/\zl t.ps<=6:=by
 have hs:=szl;let#[pp,a6,a7,a8,p1,p2,h1]:=th_1 ns at_ ha ks hk wa wb wc la r hr;let#[m,m0,m1,qm]:=nF ns (at_+5) (by lia);have p4:=hr.p.1;have b3:=dH m (b:=3) (by decide);let#[qq,a10,a11,q0,q1,q2,h2]:=th_2 ns at_ ha ks hk wa wb wc la m m0 pp (by lia) p2 (bF B r) a6 a7 a8;let#[od,a10',hod,h3]:=th_3 (bB ns) (.lst B (cG ks)) (bF B r) (wD wa wb wc) at_ m m0 qq q1 a6 a7 a8 a10 a11;let#[sp,s1,s2,qs]:=afa (zl qq) od hod;have up:zl r.ps<=zl qq:=by lia
 let#[jk,jv,a6',a15,a16,j1,h4]:=th_4 (bB ns) (.lst B (cG ks)) (bF B r) (wD wa wb wc) at_ m qq (zl qq) od sp s1 s2 r.js hr.j4 (λj h=>#[(hr.j j h).1.up up,(hr.j j h).2.up up]) a6 a7 a8 a10' a11;let#[st,t1,qt]:=aa0 (zl qq) sp s1 r.st (λs h=>(hr.s s h).up up);have s8:=hr.s8;let#[jk',jv',st',a6'',a10'',a18,j2,t2,h5]:=th_5 ns at_ ha (.lst B (cG ks)) (bF B r) wa wb wc lb lc qq q1 m od sp a7 a8 a11 a15 a16 jk jv j1 st (by lia) a6' a10';let#[pf,f1,f2,qf]:=aa2 ks qq q2 od hod.sub;let#[srJ,eJ,lJ,mJ]:=Ie jk';let#[js,ejs,hjs]:=MM (λq h=>j2.k q (mJ q h):∀q∈srJ,Js (zl qq) q);have jb:=j2.b;have oJ:=TN (by lia) j2.k;have ljs:zl js<=6:=by rw[ejs,aa]at lJ;lia
 rw[ejs,zg]at eJ;have oj:aX (js.map jD)=W:=by rw[<-zg];exact KR _
 have rg3:-(2 ^ 62)<=m%3/\(m%3).toNat<=aj:=by lia
 have rgq:-(2 ^ 62)<=(zl qq:J)/\(zl qq:J).toNat<=aj:=by lia
 have rg2:-(2 ^ 62)<=(2:J)/\(2:J).toNat<=aj:=by lia
 have tok:D7 ks ⟨pf,js,st'⟩/\zl pf<=6:=#[#[f2,by have:=hod.len;show zl pf<=7;lia,ljs,t2],by have:=hod.len;lia];unfold nV vq AI;unfold GI u6 at h3;unfold u6 at h1 h2;rw[gi]at h1;rw[gi]at h3;generalize kL=B1 at h5 ⊢;generalize kM=B2 at h4 ⊢;generalize kN=B3 at h3 ⊢;generalize kO=B4 at h2 ⊢;generalize kP=B5 at h1 ⊢;cases ob:aX (pf.map (eG B))with
 |true=>
  refine#[.tup [.lst W (pf.map (eG B)),.lst W (js.map jD),.lst W (st'.map sD)],#[pf,js,st'],?_,vU W W W B #[pf,js,st'],tok];erw[gW,lS,eK,rA,cZ,GH];rw[h1];erw[cA,qm];rw[h2];erw[iy,fE];rw[h3];erw[iy,fE,qs,f9,gW,lS,eK,rA,cZ,Dd];rw[h4];erw[gW,lS,eK,rA,cZ,De,qt,Cg];rw[show J0 2=2 from rfl,h5];erw[b_,qf,ob,oJ,eJ,oj,Cg,TX]
 |false=>
  refine#[.tup [.lst W (pf.map (eG B)),.lst W (js.map jD),.lst B (st'.map sD)],#[pf,js,st'],?_,vU W W B B #[pf,js,st'],tok];erw[gW,lS,eK,rA,cZ,GH];rw[h1];erw[cA,qm];rw[h2];erw[iy,fE];rw[h3];erw[iy,fE,qs,f9,gW,lS,eK,rA,cZ,Dd];rw[h4];erw[gW,lS,eK,rA,cZ,De,qt,Cg];rw[show J0 2=2 from rfl,h5];erw[b_,qf,ob,oJ,eJ,oj,Cg,GJ,aa1,cZ]
def aa4{α β:Type}(f:α->β)(l:M α)(lo hi:abM J):cut (l.map f) lo hi=(cut l lo hi).map f:=by
 unfold cut;rw[aa,lE,lF]
def rM{α:Type}(l:M α)(k:Nat):cut l S (L (k:J))=l.take k:=by
 unfold cut;rw[HT.NX,HT.Lj,IC,Nb];by_cases h:k<=zl l
 .simp_all
 .simp
def rN{α:Type}(l:M α)(k:Nat):cut l (L (k:J)) S=l.drop k:=by
 unfold cut;rw[HT.NX,HT.Lj];by_cases h:k<=zl l
 .rw[G7 h,fV (by simp)]
 .rw[Ff (by lia),pH,List.take_zero,jC (by lia)]
theorem adN{O:M PG}{U:br}{a:CE}{r:iV}:mR O (.cons (.lrv a) r) U=(pE O (.lrv a) U).bind λd=>R.bV (aU d) ((mR O r U).bind λds=>.ok (d::ds)):=rfl
def adO(l:M J3):aX (l.map jD)=W:=by rw[<-zg];exact KR _
def YS(a b:M Pt)(p:Pt):aX (a.map (eG B)++(eG B p::b.map (eG B)))=B:=by
 induction a with
 |nil=>rfl
 |cons x r ih=>
  rfl
abbrev GS:M PG:=[.fn gY []]
abbrev spS(sc:D)(at_:J)(kd:D)(t:Th)(w:D)(n:J)(k:Nat)(q:Str):br:=
 [L sc,L (.int at_),L kd,L (mY t),L w,L (.lst B (t.ps.map (eG B))),L (.lst B (t.js.map jD)),L (.lst B (t.st.map sD)),L (.int n),L (.int (k:J)),L (.str q),S]
def sp_0(ns:M J)(at_:J)(ha:0<=at_/\at_<=900)(ks:M (Str×Str))(hk:ze ks)(w:D)(hw:bq w=w)(t:Th):∃(n:J) (k:Nat) (q:Str),0<=n/\q∈ks.map (·.1)/\(t.ps≠[]->k<zl t.ps) /\
  tE [bB ns,.int at_,.lst B (cG ks),mY t,w]=yy (b9 GS 1000 YJ (spS (bB ns) at_ (.lst B (cG ks)) t w n k q)):=by
 have hs:=szl;let#[n,n0,n1,qn]:=nF ns at_ (by lia);generalize hM:(if(zl t.ps:J)>1 then(zl t.ps:J)else 1)=abl;have hM0:0<abl:=by lia
 have b8:=dH (n / 8) hM0;let#[k,ek]:=ju b8.1;have kp:(0:J)<(zl ks:J):=by have:=hk.l3;lia
 have b1:=dH (n / 64) kp;let#[j,hj,ej,ea]:=j7 (cG ks) (n / 64%(zl ks:J)) b1.1 (by rw[aa];exact b1.2);rw[dc]at ea;generalize hq:ks[j]'(by simpa using hj)=q at ea;refine#[n,k,q.1,n0,ck.mpr #[q,by rw[<-hq];exact cz _,rfl],λhne=>?_,?_]
 .have:=jx.mpr hne;rw[ek]at b8;have hMl:abl=(zl t.ps:J):=by rw[<-hM];split<;>lia
  lia
 .show yy (b9 GS 1000 (.cons _ (.cons _ (.cons _ (.cons _ YJ)))) _)=_;generalize YJ=RR;erw[iy,eK,cZ,cA,qn,hM,ek,ki,ea,AL,KW,hw]
def adP(l:M Pt):gT (.lst B (l.map (eG B))) (.lst W [])=l.isEmpty:=by
 cases l<;>rfl
def afd(l:M WN)(n:Nat):cU (l.map mD) (n+1)=W:=by
 induction l with
 |nil=>rfl
 |cons p r ih=>
  show(fU (mD p) (n+1)&&_)=W;rw[ih];rfl
def afe(l:M Pt)(n:Nat):cU (l.map (eG B)) (n+3)=W:=by
 induction l with
 |nil=>rfl
 |cons p r ih=>
  show(((W&&(cU (p.2.map mD) (n+1)&&W)))&&cU (r.map (eG B)) (n+3))=W;rw[ih,afd];rfl
def TY(l:M Pt):gE .Eq (.lst B (l.map (eG B))) (.lst W [])=.ok (.bl l.isEmpty):=by
 have h:dP (.lst B (l.map (eG B)))=W:=afe l 8;rw[y_ h rfl,adP]
def afg(n:J)(l:M WN):dS (pG (.tup (.cons (.name 0) (.cons (.name 1) .nil)))) (λ_=>.ok W) (pE GS (.tup (.cons (.var 0) (.cons (.bin .Sub (.bin .Add (.var 1) (.bin .Mod (.bin .FloorDiv (.var 2) (.con (.int 64))) (.con (.int 3)))) (.con (.int 1))) .nil)))) (l.map mD) [S,S,L (.int n)]=.ok ((l.map λp=>(p.1,p.2+n / 64%3-1)).map mD):=by
 have hs:=szl;rw[bK];refine kB mD (λU=>∃a b,U=[a,b,L (.int n)]) (λp=>mD (p.1,p.2+n / 64%3-1)) l _ #[_,_,rfl] ?_;rintro⟨x,y⟩ _ U ⟨a,b,rfl⟩;refine#[[L (.str x),L (.int y),L (.int n)],rfl,#[_,_,rfl],?_];erw[]
noncomputable def Ih(t:Th)(k:Nat)(p:Pt):Th:=#[t.ps.take k++p::t.ps.drop (k+1),t.js,t.st]
def aa5{ks:M (Str×Str)}{t:Th}(h:D7 ks t){k:Nat}(hk:k<zl t.ps){p:Pt}(hp:oq ks p):D7 ks (Ih t k p):=by
 refine#[λq hq=>?_,?_,h.j6,h.s10]
 .rcases bw.mp hq with z|z
  .exact h.p q (tY z)
  .rcases be.mp z with z|z
   .rw[z];exact hp
   .exact h.p q (AA z)
 .have:=h.p7;show(t.ps.take k++p::t.ps.drop (k+1)).length<=7;rw[bf,cL,cR,dz];omega
def afh(t:Th)(k:Nat)(p:Pt):D.tup [.lst W ((t.ps.take k).map (eG B)++eG B p::(t.ps.drop (k+1)).map (eG B)),.lst B (t.js.map jD),.lst B (t.st.map sD)]=.tup [.lst W ((Ih t k p).ps.map (eG B)),.lst B ((Ih t k p).js.map jD),.lst B ((Ih t k p).st.map sD)]:=by
 unfold Ih;simp
def XJ(ns:M J)(at_:J)(ha:0<=at_/\at_<=900)(ks:M (Str×Str))(hk:ze ks)(wa wb wc:M Str)(la:zl wa=3)(t:Th)(ht:D7 ks t)(h6:zl t.ps<=6):∃(d:D) (t':Th),tE [bB ns,.int at_,.lst B (cG ks),mY t,wD wa wb wc]=.ok d/\bq d=mY t'/\D7 ks t':=by
 have hs:=szl;let#[n,k,q,n0,hq,hkl,q0]:=sp_0 ns at_ ha ks hk (wD wa wb wc) (by show D.tup [.lst B (aA _),.lst B (aA _),.lst B (aA _)]=_;rw[cg,cg,cg]) t;rw[q0];have j6:=ht.j6;have s10:=ht.s10;have ek1:(k:J)+1=((k+1:Nat):J):=by lia
 have lj:zl (t.js.take k)+zl (t.js.drop (k+1))<=aj:=by rw[cR,dz];omega
 have ls:zl (t.st.take k)+zl (t.st.drop (k+1))<=aj:=by rw[cR,dz];omega
 have lj':zl ((t.js.take k).map jD)+zl ((t.js.drop (k+1)).map jD)<=aj:=by rw[aa,aa];exact lj
 have ls':zl ((t.st.take k).map sD)+zl ((t.st.drop (k+1)).map sD)<=aj:=by rw[aa,aa];exact ls
 have ftj:aA ((t.js.map jD).take k)=(t.js.take k).map jD:=by rw[<-lE,eK]
 have fdj:aA ((t.js.map jD).drop (k+1))=(t.js.drop (k+1)).map jD:=by rw[<-lF,eK]
 have fts:aA ((t.st.map sD).take k)=(t.st.take k).map sD:=by rw[<-lE,cZ]
 have fds:aA ((t.st.map sD).drop (k+1))=(t.st.drop (k+1)).map sD:=by rw[<-lF,cZ]
 have ftp:aA ((t.ps.map (eG B)).take k)=(t.ps.take k).map (eG B):=by rw[<-lE,iy]
 have fdp:aA ((t.ps.map (eG B)).drop (k+1))=(t.ps.drop (k+1)).map (eG B):=by rw[<-lF,iy]
 by_cases c0:(n%8==0)=W
 .refine#[.tup [.lst B (t.ps.map (eG B)),.lst W ((t.js.take k++t.js.drop (k+1)).map jD),.lst B (t.st.map sD)],#[t.ps,t.js.take k++t.js.drop (k+1),t.st],?_,vU B W B B #[t.ps,t.js.take k++t.js.drop (k+1),t.st],#[ht.p,ht.p7,by rw[bf,cR,dz];omega,ht.s10]];have oj:=adO (t.js.take k++t.js.drop (k+1));rw[bE]at oj ⊢;erw[c0,eK,ek1,rM,rN,ftj,fdj,oj]
 rw[dD]at c0;by_cases c1:(n%8==1)=W
 .refine#[.tup [.lst B (t.ps.map (eG B)),.lst B (t.js.map jD),.lst W ((t.st.take k++t.st.drop (k+1)).map sD)],#[t.ps,t.js,t.st.take k++t.st.drop (k+1)],?_,vU B B W B #[t.ps,t.js,t.st.take k++t.st.drop (k+1)],#[ht.p,ht.p7,ht.j6,by rw[bf,cR,dz];omega]];have os:=Cg (t.st.take k++t.st.drop (k+1));rw[bE]at os ⊢;erw[c0,c1,cZ,ek1,rM,rN,fts,fds,os]
 rw[dD]at c1;by_cases c2:(n%8==2)=W
 .refine#[.tup [.lst B (t.ps.map (eG B)),.lst B (t.js.map jD),.lst W (t.st.reverse.map sD)],#[t.ps,t.js,t.st.reverse],?_,vU B B W B #[t.ps,t.js,t.st.reverse],#[ht.p,ht.p7,ht.j6,by show zl t.st.reverse<=10;rw[oB];exact s10]];have os:=Cg t.st.reverse;have er:(t.st.map sD).reverse=t.st.reverse.map sD:=by rw[Fk]
  erw[c0,c1,c2,cZ,adN,er,os]
 rw[dD]at c2;let#[s,sm,es]:=mX wa 0 (by lia) (by lia);by_cases c3:(n%8==3)=W\/t.ps=[]
 .have hpk:oq ks (q,[(s,n / 512%5)]):=#[hq,by unfold u5;simp,by simp];refine#[.tup [.lst W ((t.ps++[(q,[(s,n / 512%5)])]).map (eG B)),.lst B (t.js.map jD),.lst B (t.st.map sD)],#[t.ps++[(q,[(s,n / 512%5)])],t.js,t.st],?_,vU W B B B #[t.ps++[(q,[(s,n / 512%5)])],t.js,t.st],#[λp hp=>?_,by show(t.ps++_).length<=7;rw[bf];simp;omega,ht.j6,ht.s10]]
  .have om:=YS t.ps [] (q,[(s,n / 512%5)]);have e3:((if(n%8==3)=W then R.ok W else R.ok t.ps.isEmpty):R Bool)=.ok W:=by
    by_cases c:(n%8==3)=W
    .rw[aF c]
    .rw[aG c,(c3.resolve_left c)];rfl
   have cp:=TY t.ps;have om':aX (t.ps.map (eG B)++[D.tup [.str q,.lst B [.tup [.str s,.int (n / 512%5)]]]])=B:=om;have ll:zl (t.ps.map (eG B))+1<=aj:=by rw[aa];lia
   rw[bE];erw[c0,c1,c2,iy,cp,e3,Gz,cg,es,om',GJ,eK,cZ];rfl
  .rcases bw.mp hp with z|z
   .exact ht.p p z
   .rw[aQ.mp z];exact hpk
 have c3a:(n%8==3)=B:=by
  cases h:(n%8==3)with
  |true=>exact aH (.inl h) c3
  |false=>rfl
 have hne:t.ps≠[]:=λz=>c3 (.inr z);have hkk:=hkl hne;have e3:((if(n%8==3)=W then R.ok W else R.ok t.ps.isEmpty):R Bool)=.ok B:=by grind
 have cp:=TY t.ps;have ea:dj (t.ps.map (eG B)) (k:J)=L (eG B t.ps[k]):=lC (by rw[bg,aq hkk];rfl);have hpk:=ht.p t.ps[k] (cz hkk);generalize t.ps[k]=pk at ea hpk;have fin:∀p:Pt,oq ks p->∃(d:D) (t':Th),R.ok (D.tup [.lst W ((t.ps.take k).map (eG B)++eG B p::(t.ps.drop (k+1)).map (eG B)),.lst B (t.js.map jD),.lst B (t.st.map sD)])=.ok d/\bq d=mY t'/\D7 ks t':=λp hp=>#[_,Ih t k p,rfl,by rw[afh];exact vU W B B B _,aa5 ht hkk hp];have l1:zl ((t.ps.take k).map (eG B))+1<=aj:=by grind
 have l2:∀x:D,zl ((t.ps.take k).map (eG B)++[x])+zl ((t.ps.drop (k+1)).map (eG B))<=aj:=λx=>by grind
 have fzw:aA (pk.2.map mD)=pk.2.map mD:=dR mD (λ_=>rfl) _;have b2:∀x:D,nA .Add (.lst W ((t.ps.take k).map (eG B)++[x])) (.lst W ((t.ps.drop (k+1)).map (eG B)))=.ok (.lst W ((t.ps.take k).map (eG B)++(bq x::(t.ps.drop (k+1)).map (eG B)))):=λx=>by
  rw[uX (l2 x),rH,iy,iy,dF];rfl
 have om:=λp=>YS (t.ps.take k) (t.ps.drop (k+1)) p;by_cases c4:(n%8==4)=W
 .have hp:oq ks (q,pk.2):=#[hq,hpk.2];let#[d,t',e1,e2,e3']:=fin (q,pk.2) hp;refine#[d,t',rQ ?_ e1,e2,e3'];have om1:=om (q,pk.2);erw[c0,c1,c2,c4,iy,cp,e3,ek1,rM,rN,ftp,fdp,ea,YR,fzw,b2,om1,GJ,eK,cZ]
 rw[dD]at c4;by_cases c5:(n%8==5)=W
 .have hp:oq ks (pk.1,[]):=#[hpk.1,by unfold u5;simp,by simp];let#[d,t',e1,e2,e3']:=fin (pk.1,[]) hp;refine#[d,t',rQ ?_ e1,e2,e3'];have om1:aX ((t.ps.take k).map (eG B)++(D.tup [.str pk.1,.lst B []]::(t.ps.drop (k+1)).map (eG B)))=B:=om (pk.1,[]);erw[c0,c1,c2,c4,c5,iy,cp,e3,ek1,rM,rN,ftp,fdp,ea,KW,fzw,b2,om1,GJ,eK,cZ];rfl
 rw[dD]at c5;have e2:(pk.2.map λp=>(p.1,p.2+n / 64%3-1)).map (·.1)=pk.2.map (·.1):=by rw[bK];rfl
 have hp:oq ks (pk.1,pk.2.map λp=>(p.1,p.2+n / 64%3-1)):=#[hpk.1,by unfold u5;rw[e2];exact hpk.2.1,by rw[aa];exact hpk.2.2];let#[d,t',e1,e2,e3']:=fin (pk.1,pk.2.map λp=>(p.1,p.2+n / 64%3-1)) hp;refine#[d,t',rQ ?_ e1,e2,e3'];have om1:=om (pk.1,pk.2.map λp=>(p.1,p.2+n / 64%3-1));have qc:=afg n pk.2;have fzw2:=dR mD (λ_=>rfl) (pk.2.map λp=>(p.1,p.2+n / 64%3-1));erw[c0,c1,c2,c4,c5,iy,cp,e3,ek1,rM,rN,ftp,fdp,ea,KW,YR,fzw,qc,GA,fzw2,b2,om1,GJ,eK,cZ]
abbrev GC:M PG:=[.fn tE [],.fn nV [],.fn qI [],.fn gY [],.fn uY [],.fn uZ []]
theorem jJ(d:D):Q4 bq (L d)=L (bq d):=rfl
section
variable(ns:M J) (ks:M (Str×Str)) (hk:ze ks) (wa wb wc:M Str) (la:zl wa=3) (lb:zl wb=2) (lc:zl wc=2)
include hk la lb lc
theorem adQ(m:J)(r:lR)(hr:u0 ks r)(d1 d2 d4 d5:D)(f1:bq d1=.lst B (cG ks))(f2:bq d2=wD wa wb wc)(f5:bq d5=bF B r):∃(d1' d6:D) (t:Th),yy (b9 GC 1000 T6 [L (bB ns),L d1,L d2,L (.int m),L d4,L d5,S])=.ok (.tup [d1',d4,d6])/\bq d1'=.lst B (cG ks)/\bq d6=mY t/\D7 ks t:=by
 have hs:=szl;let#[d,t,q1,q2,q3,q4]:=aa3 ns 110 (by lia) ks hk wa wb wc la lb lc r hr;let#[d',t',u1,u2,u3]:=XJ ns 130 (by lia) ks hk wa wb wc la t q3 q4;have ff1:bq (.lst B (cG ks))=.lst B (cG ks):=by show D.lst B (aA _)=_;rw[ki]
 have ff2:bq (wD wa wb wc)=wD wa wb wc:=by show D.tup [.lst B (aA _),.lst B (aA _),.lst B (aA _)]=_;rw[cg,cg,cg]
 have ff5:bq (bF B r)=bF B r:=by show D.tup [.lst B (aA _),.lst B (aA _),.lst B (aA _),.lst B (aA _),.lst B (aA _)]=_;rw[gW,lS,eK,rA,cZ]
 have fft:bq (mY t)=mY t:=vU B B B B t;generalize D.lst B (cG ks)=kd at f1 q1 u1 ff1 ⊢;generalize wD wa wb wc=wd at f2 q1 u1 ff2;generalize bF B r=rd at f5 q1 ff5;have q2':=q2;generalize hT:mY t=td at q2' u1 fft;by_cases c:(m / 90%2==1)=W
 .cases o1:aU d with
  |true=>
   cases o2:aU d' with
   |true=>
    refine#[d1,d',t',?_,f1,u2,u3];erw[cA,f1,f2,f5,ff1,ff2,ff5,fft,q1,o1,c,q2',u1,o2]
   |false=>
    refine#[kd,d',t',?_,ff1,u2,u3];erw[cA,f1,f2,f5,ff1,ff2,ff5,fft,q1,o1,c,q2',u1,o2,jJ]
  |false=>
   cases o2:aU d' with
   |true=>
    refine#[kd,d',t',?_,ff1,u2,u3];erw[cA,f1,f2,f5,ff1,ff2,ff5,fft,q1,o1,c,q2',jJ,u1,o2]
   |false=>
    refine#[kd,d',t',?_,ff1,u2,u3];erw[cA,f1,f2,f5,ff1,ff2,ff5,fft,q1,o1,c,q2',jJ,u1,o2]
 .rw[dD]at c;cases o1:aU d with
  |true=>
   refine#[d1,d,t,?_,f1,q2,q3];erw[cA,f1,f2,f5,ff1,ff2,ff5,fft,q1,o1,c]
  |false=>
   refine#[kd,d,t,?_,ff1,q2,q3];erw[cA,f1,f2,f5,ff1,ff2,ff5,fft,q1,o1,c,jJ]
end
def uH(o:Bool)(r:lR):bq (bF o r)=bF B r:=by
 show D.tup [.lst B (aA _),.lst B (aA _),.lst B (aA _),.lst B (aA _),.lst B (aA _)]=_;rw[gW,lS,eK,rA,cZ]
def qJ(o:Bool)(l:M lR):aA (l.map (bF o))=l.map (bF B):=by
 induction l with
 |nil=>rfl
 |cons p r ih=>
  show bq (bF o p)::aA (r.map (bF o))=_;rw[ih,uH];rfl
def o_rd(r:lR):aU (bF W r)=W:=by
 show((W&&aX _)&&((W&&aX _)&&((W&&aX _)&&((W&&aX _)&&((W&&aX _)&&W)))))=W;rw[Ib,adH,adO,Cg];have:aX (r.zs.map zD)=W:=by
  induction r.zs with
  |nil=>rfl
  |cons z l ih=>
   show((W&&(W&&(aU (oD z.2.2.1)&&(aU (oD z.2.2.2)&&W))))&&aX (l.map zD))=W;rw[ih,EW,EW];rfl
 rw[this];rfl
def afi(l:M lR):aX (l.map (bF W))=W:=by
 induction l with
 |nil=>rfl
 |cons r l ih=>
  show(aU (bF W r)&&aX (l.map (bF W)))=W;rw[ih,o_rd];rfl
noncomputable def r0:lR:=#[[],[],[],[],[]]
def afj(ks:M (Str×Str)):u0 ks r0:=#[#[by simp[r0],λ_ h=>aH h aD],λ_ h=>aH h aD,by simp[r0],λ_ h=>aH h aD,by simp[r0],λ_ h=>aH h aD,by simp[r0],λ_ h=>aH h aD,by simp[r0]]
def aa6{α:Type}(xs:M α)(j:J)(h0:0<=j)(h1:j<zl xs):∃x,x∈xs/\dj xs (-1-j)=L x:=by
 let#[k,rfl]:=ju h0;have hk:zl xs-1-k<zl xs:=by omega
 refine#[xs[zl xs-1-k],cz _,y9 ?_ (aq hk)];have hk1:=h1;unfold iU;rw[aG (by lia),aF (by lia)];congr 1;omega
theorem afk:T5=.cons sIf (.cons s5 T6):=rfl
def c_5(sc d1 d2 d4:D)(m:J)(ks:M (Str×Str))(rs:M lR)(hl:zl rs<=5)(hr:∀r∈rs,u0 ks r)(f4:bq d4=.lst B (rs.map (bF B))):∃r,u0 ks r/\pS GC 1000 s5 [L sc,L d1,L d2,L (.int m),L d4,S,S]=.nx [L sc,L d1,L d2,L (.int m),L (.lst B (rs.map (bF B))),L (bF B r),S]:=by
 have hs:=szl;generalize hM:(if(zl rs:J)>1 then(zl rs:J)else 1)=abl;have hM0:0<abl/\abl<=(zl rs:J)+1:=by lia
 have b8:=dH (m / 18) hM0.1;let#[d,hd,ea]:=aa6 ((r0::rs).map (bF B)) (m / 18%abl) b8.1 (by rw[aa,cL];omega);let#[r,hm,rfl]:=ck.mp hd;refine#[r,?_,?_]
 .rcases be.mp hm with z|z
  .rw[z];exact afj ks
  .exact hr r z
 .have e0:bq (D.tup [.lst W [],.lst W [],.lst W [],.lst W [],.lst W []])=bF B r0:=rfl;have ea:dj (D.tup [.lst B [],.lst B [],.lst B [],.lst B [],.lst B []]::rs.map (bF B)) (-1-m / 18%abl)=L (bF B r):=ea;have ll:1+zl (rs.map (bF B))<=aj:=by rw[aa];lia
  have ff:=uH B r;have oo:aU (bF B r)=B:=rfl;have fm:bq (.lst B (rs.map (bF B)))=.lst B (rs.map (bF B)):=by show D.lst B (aA _)=_;rw[qJ]
  unfold s5;have lb:nA .Add (.lst W [D.tup [.lst W [],.lst W [],.lst W [],.lst W [],.lst W []]]) (.lst B (rs.map (bF B)))=.ok (.lst W (D.tup [.lst B [],.lst B [],.lst B [],.lst B [],.lst B []]::rs.map (bF B))):=by
   rw[uX (by simpa using ll),qJ];rfl
  have ln:h_ .len [.lst B (rs.map (bF B))]=.ok (.int (zl rs:J)):=by show R.ok (D.int (zl (rs.map (bF B)):J))=_;rw[aa]
  generalize bF B r=rd at ea ff oo ⊢;have ix:iY (.lst W (D.tup [.lst B [],.lst B [],.lst B [],.lst B [],.lst B []]::rs.map (bF B))) (.int (-1-m / 18%abl))=.ok rd:=by
   unfold iY;simp only[ea];show R.ok (bq rd)=_;rw[ff]
  generalize D.lst B (rs.map (bF B))=ld at f4 lb ln fm ⊢;erw[f4,lb,ln,hM,ix,oo,jJ,fm]
def reads(ns:M J)(ks:M (Str×Str))(hk:ze ks)(wa wb wc:M Str)(la:zl wa=3)(lb:zl wb=2)(lc:zl wc=2)(v:Nat)(hv:v<=4):∃rs:M lR,zl rs=v/\(∀r∈rs,u0 ks r) /\
  dS (pG (.name 0)) (λ_=>.ok W) (pE GC (.call 2 (.cons (.var 1) (.cons (.bin .Add (.con (.int 20)) (.bin .Mult (.con (.int 20)) (.var 0))) (.cons (.var 2) (.cons (.var 3) (.cons (.con (.bl B)) .nil))))))) (gx 0 v) [S,L (bB ns),L (.lst W (cG ks)),L (.tup [.lst W (wa.map D.str),.lst W (wb.map D.str),.lst W (wc.map D.str)])]=.ok (rs.map (bF W)):=by
 have q:=ia (g:=pG (.name 0)) (e:=pE GC (.call 2 (.cons (.var 1) (.cons (.bin .Add (.con (.int 20)) (.bin .Mult (.con (.int 20)) (.var 0))) (.cons (.var 2) (.cons (.var 3) (.cons (.con (.bl B)) .nil))))))) (λi:Nat=>D.int (0+(i:J))) (λU=>∃o,U=[o,L (bB ns),L (.lst W (cG ks)),L (.tup [.lst W (wa.map D.str),.lst W (wb.map D.str),.lst W (wc.map D.str)])]) (λy=>∃r,u0 ks r/\y=bF W r) (bM v) [S,L (bB ns),L (.lst W (cG ks)),L (.tup [.lst W (wa.map D.str),.lst W (wb.map D.str),.lst W (wc.map D.str)])] #[_,rfl] (by
  rintro k hkk U ⟨o,rfl⟩;have hkk:=gc.mp hkk;let#[r,hr,qr]:=TQ ns (20+20*(0+(k:J))) (by lia) ks hk.l8 hk.l3 hk.ho wa wb wc la lb lc B;refine#[[L (.int (0+(k:J))),L (bB ns),L (.lst W (cG ks)),L (.tup [.lst W (wa.map D.str),.lst W (wb.map D.str),.lst W (wc.map D.str)])],bF W r,rfl,#[_,rfl],?_,r,hr,rfl];have hm:rC 20 (0+(k:J)):=by unfold rC;lia
  erw[cA,ki,cg,qr])
 let#[ys,y1,y2,y3]:=q;let#[rs,rfl,hrs]:=typed y3;exact#[rs,by simpa using y2,hrs,y1]
def adR(ns:M J):∃(ks:M (Str×Str)) (rs:M lR) (t:Th) (d1 d6:D),ze ks/\(∀r∈rs,u0 ks r)/\zl rs<=5/\D7 ks t/\wY [bB ns]=.ok (.tup [d1,.lst B (rs.map (bF B)),d6])/\bq d1=.lst B (cG ks)/\bq d6=mY t:=by
 have hs:=szl;let#[ks,hk,qk]:=aaU ns;let#[wa,wb,wc,la,lb,lc,_,_,_,qw]:=aaT ns;let#[m,m0,m1,qm]:=nF ns 15 (by lia);have b6:=dH m (b:=6) (by decide);let#[v,v1,v3,ev]:=pick (l:=[2,3,1,3,4,0]) 0 4 b6.1 b6.2 (by decide);have ev:dj [D.int 2,.int 3,.int 1,.int 3,.int 4,.int 0] (m%6)=L (.int v):=ev;let#[rs,l1,hr,qr]:=reads ns ks hk wa wb wc la lb lc v.toNat (by lia);have rg:-(2 ^ 62)<=v/\v.toNat<=aj:=by lia
 have h0:wY [bB ns]=yy (b9 GC 1000 T5 [L (bB ns),L (.lst W (cG ks)),L (.tup [.lst W (wa.map D.str),.lst W (wb.map D.str),.lst W (wc.map D.str)]),L (.int m),L (.lst W (rs.map (bF W))),S,S]):=by
  show yy (b9 GC 1000 (.cons _ (.cons _ (.cons _ (.cons _ T5)))) _)=_;generalize T5=RR;erw[cA,qk,o_ks,qw,kT,qm,ev,qr,afi]
 have h1:∃(d4:D) (rs':M lR),zl rs'<=5/\(∀r∈rs',u0 ks r)/\bq d4=.lst B (rs'.map (bF B))/\pS GC 1000 sIf [L (bB ns),L (.lst W (cG ks)),L (.tup [.lst W (wa.map D.str),.lst W (wb.map D.str),.lst W (wc.map D.str)]),L (.int m),L (.lst W (rs.map (bF W))),S,S]=.nx [L (bB ns),L (.lst W (cG ks)),L (.tup [.lst W (wa.map D.str),.lst W (wb.map D.str),.lst W (wc.map D.str)]),L (.int m),L d4,S,S]:=by
  by_cases c:(m / 6%3==0)=W
  .have ll:zl (rs.map (bF B))+zl ((rs.take 1).map (bF B))<=aj:=by rw[aa,aa,cR];lia
   refine#[.lst W (rs.map (bF B)++(rs.take 1).map (bF B)),rs++rs.take 1,by rw[bf,cR];lia,λr h=>?_,?_,?_]
   .rcases bw.mp h with z|z
    .exact hr r z
    .exact hr r (tY z)
   .rw[<-bE];show D.lst B (aA _)=_;rw[qJ]
   .have ec:cut (rs.map (bF B)) S (L 1)=(rs.take 1).map (bF B):=by rw[aa4];exact jc _ (rM rs 1)
    cases ob:aX (rs.map (bF B)++(rs.take 1).map (bF B))with
    |true=>erw[c,qJ,ec,ob]
    |false=>erw[c,qJ,ec,ob,jJ]
  .rw[dD]at c;refine#[.lst W (rs.map (bF W)),rs,by lia,hr,?_,?_]
   .show D.lst B (aA _)=_;rw[qJ]
   .erw[c]
 let#[d4,rs',l2,hr',f4,q4]:=h1;let#[r,hrr,q5]:=c_5 (bB ns) (.lst W (cG ks)) (.tup [.lst W (wa.map D.str),.lst W (wb.map D.str),.lst W (wc.map D.str)]) d4 m ks rs' l2 hr' f4;let#[d1',d6,t,q6,f1,f6,tok]:=adQ ns ks hk wa wb wc la lb lc m r hrr (.lst W (cG ks)) (.tup [.lst W (wa.map D.str),.lst W (wb.map D.str),.lst W (wc.map D.str)]) (.lst B (rs'.map (bF B))) (bF B r) (by show D.lst B (aA _)=_;rw[ki]) (by show D.tup [.lst B (aA _),.lst B (aA _),.lst B (aA _)]=_;rw[cg,cg,cg]) (uH B r);refine#[ks,rs',t,d1',d6,hk,hr',l2,tok,?_,f1,f6];rw[h0,afk,dY,q4];show yy (b9 GC 1000 _ _)=_;rw[dY,q5];exact q6
noncomputable abbrev uk(ks:M (Str×Str)):M Key:=ks.map λp=>.inr p.1
noncomputable abbrev uv(ks:M (Str×Str)):M D:=ks.map λp=>.str p.2
theorem YT:∀{ks:M (Str×Str)},(ks.map (·.1)).Nodup->∀(j:Nat) (p:Str×Str),ks[j]?=L p->iQ (uk ks) (uv ks) (.inr p.1)=L (.str p.2)
|[],_,j,p,h=>by simp at h
|x::ks,nd,j,p,h=>by
 let#[h1,h2]:=bX.mp (show(x.1::ks.map (·.1)).Nodup from nd);show(if(d9 x.1:Key)=.inr p.1 then L (D.str x.2)else iQ (uk ks) (uv ks) (.inr p.1))=_;cases j with
 |zero=>
  simp at h;rw[h,aF rfl]
 |succ j=>
  have h':ks[j]?=L p:=by simpa using h
  have hm:p.1∈ks.map (·.1):=ck.mpr #[p,fT h',rfl];rw[aG (λz=>h1 (by rw[yO z];exact hm))];exact YT h2 j p h'
theorem TZ:∀{ks:M (Str×Str)}{a:Str},a∉ks.map (·.1)->iQ (uk ks) (uv ks) (.inr a)=S
|[],a,_=>rfl
|x::ks,a,h=>by
 have h:a∉x.1::ks.map (·.1):=h;show(if(d9 x.1:Key)=.inr a then L (D.str x.2)else iQ (uk ks) (uv ks) (.inr a))=_;rw[aG (λz=>h (by rw[yO z];exact aB))];exact TZ λz=>h (ao _ z)
theorem OD:∀ks:M (Str×Str),o7 (cG ks)=L (ks.map λp=>((d9 p.1:Key),D.str p.2))
|[]=>rfl
|p::ks=>by
 show(pairD (AL p)).bind _=_;have:pairD (AL p)=L ((d9 p.1:Key),D.str p.2):=rfl;rw[this];rw[OD ks];rfl
def JQ{l:M Str}(h:l.Nodup):(l.map (d9:Str->Key)).Nodup:=Dy.mpr (h.imp λhne z=>hne (yO z))
def adS{ks:M (Str×Str)}(nd:(ks.map (·.1)).Nodup)(o:Bool):h_ .dict [.lst o (cG ks)]=.ok (.cW W (uk ks) (uv ks)):=by
 show(R.opt (o7 (cG ks))).bind _=_;rw[OD];show R.bV (decide ((ks.map λp=>((d9 p.1:Key),D.str p.2)).map (·.1)).Nodup) _=_;have e:(ks.map λp=>((d9 p.1:Key),D.str p.2)).map (·.1)=(ks.map (·.1)).map d9:=by rw[bK,bK];rfl
 rw[a_ (by rw[e];exact JQ nd)];rw[bK,bK];show R.ok (D.cW W (uk ks) (aA (uv ks)))=_;rw[dR _ (λ_=>rfl)]
def aa7(ks:M (Str×Str))(hk:ze ks)(x y:abM D):∀(i:Nat) (pre:M Str) (a:Str) (fuel:Nat),i<fuel->zl pre+i<=12->(a∈ks.map (·.1)->a∈(ks.map (·.1)).take i)->
  ∃row:M Str,zl row<=13/\vn (pT [] YG) (b9 [] 1000 jz) fuel [x,y,L (.cW W (uk ks) (uv ks)),L (.lst W ((pre++[a]).map D.str))]=.nx [x,y,L (.cW W (uk ks) (uv ks)),L (.lst W (row.map D.str))]:=by
 have hs:=szl;have fzu:aA (uv ks)=uv ks:=dR _ (λ_=>rfl) _;intro i;induction i using Nat.strongRecOn with
 |_ i ih=>
 intro pre a fuel hf hl hm;cases fuel with
 |zero=>lia
 |succ f=>
  have ea:dj ((pre++[a]).map D.str) (-1)=L (.str a):=by rw[bE];exact zM (pre.map D.str) (.str a)
  have stop:uq .get (.cW B (uk ks) (uv ks)) [.str a,.str ""]=.ok (.str "")->∃row:M Str,zl row<=13/\vn (pT [] YG) (b9 [] 1000 jz) (f+1) [x,y,L (.cW W (uk ks) (uv ks)),L (.lst W ((pre++[a]).map D.str))]=.nx [x,y,L (.cW W (uk ks) (uv ks)),L (.lst W (row.map D.str))]:=λeg=>by
   refine#[pre++[a],by simp;lia,?_];have e:(pF ""==pF "")=W:=by simp
   show(pT _ _ _).bA _=_;erw[fzu,cg,ea,eg,e,e_]
  by_cases ha:a∈ks.map (·.1)
  .obtain⟨j,hj,ej⟩:=vY.mp (hm ha);have hj':j<zl ks:=by grind
   have hji:j<i:=by lia
   have hp:=aq hj';have e1:ks[j].1=a:=by rw[<-ej,dc]
   have gu:=YT hk.nd j ks[j] hp;rw[e1]at gu;have gd:=hk.gd j ks[j] hp;generalize ks[j].2=u at gu gd;have eg:uq .get (.cW B (uk ks) (uv ks)) [.str a,.str ""]=.ok (.str u):=by
    show R.ok (bq ((iQ (uk ks) (uv ks) (.inr a)).getD (.str "")))=_;rw[gu];rfl
   by_cases hu:u=""
   .subst hu;exact stop eg
   .have hu':=gd.resolve_left hu;let#[row,r1,r2]:=ih j hji (pre++[a]) u f (by lia) (by simp;lia) (λ_=>hu');refine#[row,r1,?_];have e0:(u==pF "")=B:=by
     rw[fi];exact hu
    have ei:iY (.cW B (uk ks) (uv ks)) (.str a)=.ok (.str u):=by
     have:=Mp (o:=B) (ks:=uk ks) (xs:=uv ks) (k:=.inr a);rw[gu]at this;exact this
    show(pT _ _ _).bA _=_;erw[fzu,cg,ea,eg,e0,eX];show(match b9 [] 1000 jz _ with|.nx σ3=>_|.ct σ3=>_|.bk σ3=>_|.rt d=>_|.bad=>_)=_;rw[<-r2];unfold jz;erw[fzu,cg,ea,ei];rw[jH (xs:=(pre++[a]).map D.str) rfl (by simp;lia) rfl];erw[bE,bJ,gi]
  .exact stop (by
    show R.ok (bq ((iQ (uk ks) (uv ks) (.inr a)).getD (.str "")))=_;rw[TZ ha];rfl)
def o_uv(ks:M (Str×Str)):aX (uv ks)=W:=by
 induction ks with
 |nil=>rfl
 |cons p r ih=>exact ih
def NB(ks:M (Str×Str))(hk:ze ks)(a:Str):∃row:M Str,zl row<=13/\qH [.lst B (cG ks),.str a]=.ok (.lst W (row.map D.str)):=by
 have hs:=szl;have l8:=hk.l8;let#[row,r1,q]:=aa7 ks hk (L (.lst B (cG ks))) (L (.str a)) 8 [] a 1000 (by decide) (by simp) (λh=>by rw[fV (by simp_all)];exact h);refine#[row,r1,?_];have hd:=adS hk.nd B;have q':vn (pT [] YG) (b9 [] 1000 jz) 1000 [L (.lst B (cG ks)),L (.str a),L (.cW W (uk ks) (uv ks)),L (.lst W [.str a])]=_:=q;unfold qH yC;generalize jz=abm at q' ⊢;rw[show B8=[]from rfl];erw[hd,ki,o_uv,q']
def adT{O:M PG}(js:M (M Key)):dS (pG (.name 0)) (λ_=>.ok W) (pE O (.tup (.cons (.var 0) (.cons (.con (.bl W)) .nil)))) (js.map tK) [S]=.ok (js.map λk=>.tup [tK k,.bl W]):=by
 have hs:=szl;refine kB tK (λU=>∃o,U=[o]) (λk=>D.tup [tK k,.bl W]) js _ #[_,rfl] ?_;rintro k _ U ⟨o,rfl⟩;have f:=(pY _ 0 (Ic k 0)).1;refine#[[L (tK k)],rfl,#[_,rfl],?_];erw[f]
def aa8(js:M (M Key)):qD (js.map λk=>.tup [tK k,.bl W])=L (js.map λk=>(k,.bl W)):=by
 induction js with
 |nil=>rfl
 |cons k r ih=>
  show(C3 (.tup [tK k,.bl W])).bind _=_;have e:C3 (.tup [tK k,.bl W])=L (k,.bl W):=by
   show(iP (tK k)).map _=_;rw[aaX];rfl
  rw[e];rw[ih];rfl
theorem EX:∀(ps:M (M Key×D)) (ks:M (M Key)) (xs:M D),zl ks=zl xs->
 (gk ks xs ps).1.length=(gk ks xs ps).2.length/\(gk ks xs ps).1.length<=zl ks+zl ps/\(∀k∈(gk ks xs ps).1,k∈ks\/k∈ps.map (·.1))/\∀d∈(gk ks xs ps).2,d∈xs\/d∈ps.map (·.2)
|[],ks,xs,h=>#[h,by simp[gk],λk hk=>.inl hk,λd hd=>.inl hd]
|p::r,ks,xs,h=>by
 unfold gk;by_cases c:jE ks p.1=W
 .rw[aF c];let#[a1,a2,a3,a4]:=EX r ks (jy ks xs p.1 p.2) (EU h).symm;refine#[a1,by simp;lia,λk hk=>?_,λd hd=>?_]
  .rcases a3 k hk with q|q
   .exact .inl q
   .exact .inr (by simp at q ⊢;exact .inr q)
  .rcases a4 d hd with q|q
   .rcases EV q with z|z
    .exact .inr (by simp[z])
    .exact .inl z
   .exact .inr (by simp at q ⊢;exact .inr q)
 .rw[aG c];let#[a1,a2,a3,a4]:=EX r (ks++[p.1]) (xs++[p.2]) (by simp[h]);refine#[a1,by simp at a2 ⊢;lia,λk hk=>?_,λd hd=>?_]
  .grind
  .grind
def Mk3(k:M Key):Prop:=∃(s w:Str) (i:J),k=[.inr s,.inr w,.inl i]
structure JR (N:Nat) (mk:M (M Key)) (mv:M D):Prop where
 l:zl mk=zl mv
 b:zl mk<=N
 k:∀q∈mk,Mk3 q
 v:∀d∈mv,d=.bl W
def JR.put{N:Nat}{mk:M (M Key)}{mv:M D}(h:JR N mk mv)(hN:N<100)(s w:Str)(i:J):∃mk' mv',JR (N+1) mk' mv'/\putIn (.bS W mk mv) (.bl W) (.tup [.str s,.str w,.int i])=L (.bS W mk' mv'):=by
 have hs:=szl;have hb:=h.b;let#[jk',jv',hput,g1,g2,g3,g4]:=KO (d:=.bl W) (j:=.tup [.str s,.str w,.int i]) h.l (by lia) rfl rfl;refine#[jk',jv',#[g1,by lia,λq hq=>?_,λy hy=>?_],hput]
 .rcases g3 q hq with z|z
  .exact#[s,w,i,z]
  .exact h.k q z
 .rcases g4 y hy with z|z
  .exact z
  .exact h.v y z
noncomputable abbrev mS(a b:D)(mk:M (M Key))(mv:M D)(x y z:abM D):br:=[L a,L b,L (.bS W mk mv),x,y,z]
def OE(js:M J3)(st:M (Str×J))(hj:zl js<=20)(hst:zl st<=20):∃mk mv,JR 60 mk mv/\nD [.lst B (js.map jD),.lst B (st.map sD)]=.ok (.bS W mk mv):=by
 have hs:=szl;let#[σ',h1,mk,mv,x,y,z,l1,rfl]:=K2.lQ (g:=pG (.tup (.cons (.name 3) (.cons (.name 4) (.cons (.name 5) .nil))))) (b:=b9 [] 1000 rm) jD js
  (λpre U=>∃(mk:M (M Key)) (mv:M D) (x y z:abM D),JR (2*zl pre) mk mv/\U=mS (.lst B (js.map jD)) (.lst B (st.map sD)) mk mv x y z) (by
  rintro pre ⟨s,i,j⟩ post e U ⟨mk,mv,x,y,z,l1,rfl⟩;have hpre:zl pre<20:=by rw[e]at hj;simp at hj;lia
  let#[mk1,mv1,l2,q1]:=l1.put (by lia) "from" s i;let#[mk2,mv2,l3,q2]:=l2.put (by lia) "to" s j;refine#[mS (.lst B (js.map jD)) (.lst B (st.map sD)) mk mv (L (.str s)) (L (.int i)) (L (.int j)),mS (.lst B (js.map jD)) (.lst B (st.map sD)) mk2 mv2 (L (.str s)) (L (.int i)) (L (.int j)),rfl,?_,mk2,mv2,_,_,_,#[l3.l,by have:=l3.b;simp;omega,l3.k,l3.v],rfl];unfold rm mS;erw[];rw[iu rfl rfl q1];erw[];rw[iu rfl rfl q2];erw[]) (mS (.lst B (js.map jD)) (.lst B (st.map sD)) [] [] S S S) #[[],[],_,_,_,#[rfl,by simp,λ_ h=>aH h aD,λ_ h=>aH h aD],rfl]
 let#[σ2,h2,mk2,mv2,x2,y2,l2,rfl]:=K2.lQ (g:=pG (.tup (.cons (.name 3) (.cons (.name 4) .nil)))) (b:=b9 [] 1000 q_) sD st
  (λpre U=>∃(mk:M (M Key)) (mv:M D) (x y:abM D),JR (40+zl pre) mk mv/\U=mS (.lst B (js.map jD)) (.lst B (st.map sD)) mk mv x y z) (by
  rintro pre ⟨s,i⟩ post e U ⟨mk,mv,x,y,l1,rfl⟩;have hpre:zl pre<20:=by rw[e]at hst;simp at hst;lia
  let#[mk1,mv1,l2,q1]:=l1.put (by lia) "then" s i;refine#[mS (.lst B (js.map jD)) (.lst B (st.map sD)) mk mv (L (.str s)) (L (.int i)) z,mS (.lst B (js.map jD)) (.lst B (st.map sD)) mk1 mv1 (L (.str s)) (L (.int i)) z,rfl,?_,mk1,mv1,_,_,#[l2.l,by have:=l2.b;simp;omega,l2.k,l2.v],rfl];unfold q_ mS;erw[];rw[iu rfl rfl q1];erw[]) (mS (.lst B (js.map jD)) (.lst B (st.map sD)) mk mv x y z) #[mk,mv,x,y,#[l1.l,by have:=l1.b;lia,l1.k,l1.v],rfl]
 refine#[mk2,mv2,#[l2.l,by have:=l2.b;lia,l2.k,l2.v],?_];unfold nD Af;generalize q_=B1 at h2 ⊢;generalize rm=B2 at h1 ⊢;rw[show B8=[]from rfl];erw[eK];rw[h1];erw[cZ];rw[h2];erw[]
structure Ry where
 sz:M (M WN)
 up:M (M Str)
 jk:M (M Key)
 jv:M D
 st:M (Str×J)
 km:M (M Key)
 vm:M D
noncomputable abbrev nj:M Str:=["sizes","uppers","joins","steps","marks"]
abbrev pe(o:Bool)(l:M WN):D:=.cW o (wk l) (wv l)
noncomputable abbrev qK(o:Bool)(l:M Str):D:=.lst o (l.map D.str)
abbrev d8(r:Ry):D:=.obj B 36 nj [.lst B (r.sz.map (pe B)),.lst B (r.up.map (qK B)),.bS B r.jk r.jv,.lst B (r.st.map sD),.bS B r.km r.vm]
structure tH (r:Ry):Prop where
 l:zl r.sz=zl r.up
 l7:zl r.sz<=7
 u:∀x∈r.up,zl x<=13
 s:zl r.st<=10
 jl:zl r.jk=zl r.jv
 jv:∀d∈r.jv,d=.bl W
 m:JR 60 r.km r.vm
abbrev T3:M PG:=[.jO 36 nj,.fn nD [],.fn qH []]
theorem OF:∀l:M WN,o7 (l.map mD)=L (l.map λp=>((d9 p.1:Key),D.int p.2))
|[]=>rfl
|p::l=>by
 show(pairD (mD p)).bind _=_;have:pairD (mD p)=L ((d9 p.1:Key),D.int p.2):=rfl;rw[this];rw[OF l];rfl
def adU{l:M WN}(nd:u5 l)(o:Bool):h_ .dict [.lst o (l.map mD)]=.ok (pe W l):=by
 show(R.opt (o7 (l.map mD))).bind _=_;rw[OF];show R.bV (decide ((l.map λp=>((d9 p.1:Key),D.int p.2)).map (·.1)).Nodup) _=_;have e:(l.map λp=>((d9 p.1:Key),D.int p.2)).map (·.1)=(l.map (·.1)).map d9:=by rw[bK,bK];rfl
 rw[a_ (by rw[e];exact JQ nd)];rw[bK,bK];show R.ok (D.cW W (wk l) (aA (wv l)))=_;rw[KU]
def aa9(ks:M (Str×Str))(ps:M Pt)(h:∀p∈ps,oq ks p):dS (pG (.tup (.cons (.name 0) (.cons (.name 1) .nil)))) (λ_=>.ok W) (pE T3 (.blt .dict (.cons (.var 1) .nil))) (ps.map (eG B)) [S,S]=.ok ((ps.map (·.2)).map (pe W)):=by
 rw[bK];refine kB (eG B) (λU=>∃a b,U=[a,b]) (λp=>pe W p.2) ps _ #[_,_,rfl] ?_;rintro⟨x,l⟩ hm U ⟨a,b,rfl⟩;refine#[[L (.str x),L (.lst B (l.map mD))],rfl,#[_,_,rfl],?_];have q:=adU (h (x,l) hm).2.1 B;have f:aA (l.map mD)=l.map mD:=dR mD (λ_=>rfl) _;erw[f,q]
def aa_(ks:M (Str×Str))(hk:ze ks)(ps:M Pt):∃up:M (M Str),zl up=zl ps/\(∀x∈up,zl x<=13)/\dS (pG (.tup (.cons (.name 0) (.cons (.name 1) .nil)))) (λ_=>.ok W) (pE T3 (.call 2 (.cons (.var 2) (.cons (.var 0) .nil)))) (ps.map (eG B)) [S,S,L (.lst B (cG ks))]=.ok (up.map (qK W)):=by
 have q:=ia (g:=pG (.tup (.cons (.name 0) (.cons (.name 1) .nil)))) (e:=pE T3 (.call 2 (.cons (.var 2) (.cons (.var 0) .nil)))) (eG B) (λU=>∃a b,U=[a,b,L (.lst B (cG ks))]) (λy=>∃x:M Str,zl x<=13/\y=qK W x) ps [S,S,L (.lst B (cG ks))] #[_,_,rfl] (by
  rintro⟨x,l⟩ hm U ⟨a,b,rfl⟩;let#[row,r1,qr]:=NB ks hk x;refine#[[L (.str x),L (.lst B (l.map mD)),L (.lst B (cG ks))],qK W row,rfl,#[_,_,rfl],?_,row,r1,rfl];erw[ki,qr])
 let#[ys,y1,y2,y3]:=q;let#[up,rfl,hu]:=typed y3;exact#[up,by simpa using y2,hu,y1]
def sf{U:br}{f:Str}{n:M Str}{xs:M D}{d:D}(h:U[0]?=L (L (.obj W 36 n xs)))(hf:f∈nj/\f∉n/\zl n<1000):C5 (L (.jO 36 nj)) 0 f U d=.nx (U.set 0 (L (.obj W 36 (n++[f]) (xs++[d])))):=by
 unfold C5;rw[h];show(if _ then _ else _)=_;rw[aF #[hf.1,rfl,hf.2]]
def o_dc(l:M (M WN)):aX (l.map (pe W))=W:=by
 induction l with
 |nil=>rfl
 |cons x r ih=>
  show((W&&aX (wv x))&&aX (r.map (pe W)))=W;have:aX (wv x)=W:=by
   induction x with
   |nil=>rfl
   |cons y z ih2=>exact ih2
  rw[ih,this];rfl
def o_rw(l:M (M Str)):aX (l.map (qK W))=W:=by
 induction l with
 |nil=>rfl
 |cons x r ih=>
  show((W&&aX (x.map D.str))&&aX (r.map (qK W)))=W;rw[ih,kT];rfl
def GK(o:Bool)(l:M (M WN)):aA (l.map (pe o))=l.map (pe B):=by
 induction l with
 |nil=>rfl
 |cons x r ih=>
  show D.cW B (wk x) (aA (wv x))::aA (r.map (pe o))=_;rw[ih,KU];rfl
def zj(o:Bool)(l:M (M Str)):aA (l.map (qK o))=l.map (qK B):=by
 induction l with
 |nil=>rfl
 |cons x r ih=>
  show D.lst B (aA (x.map D.str))::aA (r.map (qK o))=_;rw[ih,cg];rfl
def r6{l:M D}(h:∀d∈l,d=.bl W):aA l=l:=by
 induction l with
 |nil=>rfl
 |cons x r ih=>
  show bq x::aA r=_;rw[ih λd hd=>h d (ao _ hd),h x aB];rfl
def MP{l:M D}(h:∀d∈l,d=.bl W):aX l=W:=by
 induction l with
 |nil=>rfl
 |cons x r ih=>
  show(aU x&&aX r)=W;rw[ih λd hd=>h d (ao _ hd),h x aB];rfl
theorem th_a(x y z:D):dj [x,y,z] 0=L x:=rfl
def aba(ks:M (Str×Str))(hk:ze ks)(t:Th)(ht:D7 ks t):∃(d:D) (r:Ry),tH r/\uz [.lst B (cG ks),mY t]=.ok d/\bq d=d8 r:=by
 have hs:=szl;have qs:=aa9 ks t.ps ht.p;let#[up,u1,u2,qu]:=aa_ ks hk t.ps;have j6:=ht.j6;have s10:=ht.s10;let#[mk,mv,hm,qm]:=OE t.js t.st (by lia) (by lia);have qj:=adT (O:=T3) (t.js.map jK);rw[zg]at qj;have pj:=aa8 (t.js.map jK);have mi:=EX ((t.js.map jK).map λk=>(k,D.bl W)) [] [] rfl;generalize hM:gk [] [] ((t.js.map jK).map λk=>(k,D.bl W))=abl at mi;let#[jk,jv]:=abl;let#[m1,m2,m3,m4]:=mi;have hjv:∀d∈jv,d=.bl W:=λd hd=>by grind
 have fjv:=r6 hjv;have ojv:=MP hjv;have omv:=MP hm.v;have qd:h_ .dictT [.lst W ((t.js.map jK).map λk=>D.tup [tK k,.bl W])]=.ok (.bS W jk jv):=by
  rw[DN pj,hM];rw[fjv]
 have oj:aX ((t.js.map jK).map λk=>D.tup [tK k,.bl W])=W:=by
  induction t.js with
  |nil=>rfl
  |cons x r ih=>exact ih
 refine#[.obj W 36 nj [.lst W ((t.ps.map (·.2)).map (pe W)),.lst W (up.map (qK W)),.bS W jk jv,.lst B (t.st.map sD),.bS W mk mv],#[t.ps.map (·.2),up,jk,jv,t.st,mk,mv],#[by simp[u1],by simpa using ht.p7,u2,s10,m1,hjv,hm],?_,?_]
 .have ost:aU (.lst B (t.st.map sD))=B:=rfl;have at0:=th_a;unfold uz HX Ow;show Qg (b9 T3 1000 _ [L (.obj W 36 [] []),L (.lst B (cG ks)),L (mY t)])=_;erw[iy,eK,cZ,Gz,qs,o_dc];rw[sf rfl (by decide)];erw[iy,eK,cZ,Gz,ki,qu,o_rw];rw[sf rfl (by decide)];erw[iy,eK,cZ,KP,qj,oj,qd,ojv];rw[sf rfl (by decide)];erw[iy,eK,cZ,KQ,jJ];rw[sf rfl (by decide)];erw[iy,eK,cZ,KP,KQ,qm,omv];rw[sf rfl (by decide)];rfl
 .show D.obj B 36 nj [.lst B (aA _),.lst B (aA _),.bS B jk (aA jv),.lst B (aA _),.bS B mk (aA mv)]=_;rw[GK,zj,fjv,cZ,r6 hm.v]
theorem enum_zip{α:Type}(f:α->D):∀(l:M α) (n:Nat),ir n (l.map f)=(l.zipIdx n).map λp=>D.tup [.int (p.2:J),f p.1]
|[],_=>rfl
|x::l,n=>by
 show D.tup [.int (n:J),f x]::ir (n+1) (l.map f)=_;rw[enum_zip f l (n+1)];rfl
def zm{β:Type}{g:D->br->R br}{b:br->Fl}(enc:β->D)(T:D->Prop)(xs:M β)(I:br->Prop)(h:∀x∈xs,∀U,I U->∃σ2,g (enc x) U=.ok σ2/\((∃σ3,(b σ2=.nx σ3\/b σ2=.ct σ3)/\I σ3)\/∃d,b σ2=.rt d/\T d))(U:br)(h0:I U):(∃σ',forR g b (xs.map enc) U=.nx σ'/\I σ')\/∃d,forR g b (xs.map enc) U=.rt d/\T d:=by
 induction xs generalizing U with
 |nil=>exact .inl #[U,rfl,h0]
 |cons x r ih=>
  let#[σ2,h1,h2]:=h x aB U h0;have e:forR g b ((x::r).map enc) U=(match b σ2 with
   |.nx σ3=>forR g b (r.map enc) σ3
   |.ct σ3=>forR g b (r.map enc) σ3
   |.bk σ3=>.nx σ3
   |.rt d=>.rt d
   |.bad=>.bad):=by
   show(g (enc x) U).bA _=_;rw[h1];rfl
  rw[e];rcases h2 with⟨σ3,h3|h3,h4⟩|⟨d,h3,h4⟩
  .rw[h3];exact ih (λy hy=>h y (ao _ hy)) σ3 h4
  .rw[h3];exact ih (λy hy=>h y (ao _ hy)) σ3 h4
  .rw[h3];exact .inr #[d,rfl,h4]
def Ii(l:M J):jw (l.map D.int)=W:=by
 induction l with
 |nil=>rfl
 |cons x r ih=>exact ih
def adV(told:M Str)(row:M Str):∃ys:M D,dS (pG (.name 0)) (λ_=>.ok W) (pE [] (.cmp .In (.var 0) (.var 1))) (row.map D.str) [S,L (tS told)]=.ok ys/\zl ys=zl row/\∀y∈ys,lK y=W:=by
 refine ia D.str (λU=>∃o,U=[o,L (tS told)]) (λy=>lK y=W) row _ #[_,rfl] ?_;rintro s hs U ⟨o,rfl⟩;refine#[[L (.str s),L (tS told)],.bl (memD (.str s) (told.map D.str)),rfl,#[_,rfl],?_,rfl];have nn:=Ia told;erw[cg];rw[Mm rfl nn]
def OG(up:M (M Str))(hu:zl up<=7)(told:M Str):∃l:M J,(∀i∈l,iZ (zl up) i)/\zl l<=zl up/\jW [.lst B (up.map (qK B)),tS told]=.ok (.lst W (l.map D.int)):=by
 have hs:=szl;let#[ys,y1,y2,y3,y4]:=tG (g:=pG (.tup (.cons (.name 0) (.cons (.name 1) .nil)))) (c:=pT [] (.blt .any (.cons (.comp ["kind"] [2] (.cmp .In (.var 0) (.var 1)) (.name 0) (.seq (.var 1)) .none) .nil))) (e:=pE [] (.var 0)) (λp:M Str×Nat=>D.tup [.int (p.2:J),qK B p.1]) (λU=>∃a b,U=[a,b,L (tS told)]) (λ_ _=>True) (λp=>D.int (p.2:J)) up.zipIdx [S,S,L (tS told)] #[_,_,rfl] (by
  rintro⟨row,i⟩ hm U ⟨a,b,rfl⟩;let#[ys,y1,y2,y3]:=adV told row;have ya:=bz.mpr y3;refine#[[L (.int (i:J)),L (qK B row),L (tS told)],ys.any qX,rfl,#[_,_,rfl],?_,trivial,?_]
  .erw[cg,y1,ya]
  .erw[])
 refine#[ys.map λp=>(p.2:J),λi hi=>?_,by rw[aa];simpa using y3,?_]
 .obtain⟨p,hp,rfl⟩:=ck.mp hi;have:=List.snd_lt_of_mem_zipIdx (y2 p hp);exact#[by lia,by simpa using this]
 .have y1':dS (pG (.tup (.cons (.name 0) (.cons (.name 1) .nil)))) (pT [] (.blt .any (.cons (.comp ["kind"] [2] (.cmp .In (.var 0) (.var 1)) (.name 0) (.seq (.var 1)) .none) .nil))) (pE [] (.var 0)) (ir 0 (up.map (qK B))) [S,S,L (tS told)]=.ok ((ys.map λp=>(p.2:J)).map D.int):=by
   rw[enum_zip,y1,bK];rfl
  unfold jW vp;rw[show B8=[]from rfl];erw[zj,y1',f9]
abbrev fJ(o:Bool)(c:M J×M J):D:=.tup [tI c.1,.lst o (c.2.map D.int)]
def nW(o:Bool)(l:M (M J×M J)):aA (l.map (fJ o))=l.map (fJ B):=by
 induction l with
 |nil=>rfl
 |cons x r ih=>
  show D.tup [.tup (aA _),.lst B (aA _)]::aA (r.map (fJ o))=_;rw[ih,b_,b_];rfl
def adW(iR l:M J):dS (pG (.name 0)) (pT [] (.cmp .NotIn (.var 0) (.var 1))) (pE [] (.var 0)) (l.map D.int) [S,L (.lst B (iR.map D.int))]=.ok ((l.filter λi=>!memD (.int i) (iR.map D.int)).map D.int):=by
 refine sY D.int (λU=>∃o,U=[o,L (.lst B (iR.map D.int))]) (λi=>!memD (.int i) (iR.map D.int)) D.int l _ #[_,rfl] ?_;rintro i _ U ⟨o,rfl⟩;have nn:=Ii iR;refine#[[L (.int i),L (.lst B (iR.map D.int))],rfl,#[_,rfl],?_,?_]
 .have e:gE .NotIn (.int i) (.lst B (iR.map D.int))=.ok (.bl (!memD (.int i) (iR.map D.int))):=qE rfl nn;erw[b_,e]
 .erw[]
def adX(cl:M (M J×M J))(l:M J)(i:J):∃(o:Bool) (l':M J),(∀x∈l',x∈l)/\zl l'<=zl l/\tD [.lst B (cl.map (fJ B)),.lst B (l.map D.int),.int i]=.ok (.lst o (l'.map D.int)):=by
 have hs:=szl;let#[σ',h1,o,l',a,b,g1,g2,rfl]:=K2.lQ (g:=pG (.tup (.cons (.name 3) (.cons (.name 4) .nil)))) (b:=b9 [] 1000 rq) (fJ B) cl
  (λpre U=>∃(o:Bool) (l':M J) (a b:abM D),(∀x∈l',x∈l)/\zl l'<=zl l/\U=[L (.lst B (cl.map (fJ B))),L (.lst o (l'.map D.int)),L (.int i),a,b]) (by
  rintro pre ⟨nums,iR⟩ post e U ⟨o,l',a,b,g1,g2,rfl⟩;have nn:=Ii nums;have e1:gE .NotIn (.int i) (tI nums)=.ok (.bl (!memD (.int i) (nums.map D.int))):=DM rfl nn;have qc:=adW iR l';refine#[[L (.lst B (cl.map (fJ B))),L (.lst o (l'.map D.int)),L (.int i),L (tI nums),L (.lst B (iR.map D.int))],?_];unfold rq;cases c:memD (.int i) (nums.map D.int)with
  |true=>
   refine#[[L (.lst B (cl.map (fJ B))),L (.lst o (l'.map D.int)),L (.int i),L (tI nums),L (.lst B (iR.map D.int))],rfl,?_,o,l',_,_,g1,g2,rfl];rw[c]at e1;erw[b_,e1,e_]
  |false=>
   refine#[[L (.lst B (cl.map (fJ B))),L (.lst W ((l'.filter λi=>!memD (.int i) (iR.map D.int)).map D.int)),L (.int i),L (tI nums),L (.lst B (iR.map D.int))],rfl,?_,W,_,_,_,λx hx=>g1 x (tO.mp hx).1,cH (zG _ _) g2,rfl];rw[c]at e1;erw[b_,e1,eX,qc,f9]) [L (.lst B (cl.map (fJ B))),L (.lst B (l.map D.int)),L (.int i),S,S] #[B,l,_,_,λ_ h=>h,aK _,rfl]
 refine#[o,l',g1,g2,?_];unfold tD Ag;generalize rq=abm at h1 ⊢;rw[show B8=[]from rfl];erw[nW];rw[h1];erw[]
abbrev GO:M PG:=[.jO 36 nj]
def tL{r:Ry}(h:tH r):bq (d8 r)=d8 r:=by
 show D.obj B 36 nj [.lst B (aA _),.lst B (aA _),.bS B r.jk (aA r.jv),.lst B (aA _),.bS B r.km (aA r.vm)]=_;rw[GK,zj,r6 h.jv,cZ,r6 h.m.v]
def YU{O:M PG}{g:Nat}(hg:O[g]?=L (.jO 36 nj))(r:Ry):rG O g "sizes" (d8 r)=.ok (.lst B (r.sz.map (pe B))):=by
 unfold rG;rw[hg];show R.bV (decide ((36:Addr)=36)&&decide (("sizes":Str)∈nj)) (R.ok (bq (.lst B (r.sz.map (pe B)))))=_;rw[show(decide ((36:Addr)=36)&&decide (("sizes":Str)∈nj))=W from by decide];show R.ok (D.lst B (aA _))=_;rw[GK]
def YV{O:M PG}{g:Nat}(hg:O[g]?=L (.jO 36 nj))(r:Ry):rG O g "uppers" (d8 r)=.ok (.lst B (r.up.map (qK B))):=by
 unfold rG;rw[hg];show R.bV (decide ((36:Addr)=36)&&decide (("uppers":Str)∈nj)) (R.ok (bq (.lst B (r.up.map (qK B)))))=_;rw[show(decide ((36:Addr)=36)&&decide (("uppers":Str)∈nj))=W from by decide];show R.ok (D.lst B (aA _))=_;rw[zj]
def afl{O:M PG}{g:Nat}(hg:O[g]?=L (.jO 36 nj)){r:Ry}(h:tH r):rG O g "joins" (d8 r)=.ok (.bS B r.jk r.jv):=by
 unfold rG;rw[hg];show R.bV (decide ((36:Addr)=36)&&decide (("joins":Str)∈nj)) (R.ok (bq (.bS B r.jk r.jv)))=_;rw[show(decide ((36:Addr)=36)&&decide (("joins":Str)∈nj))=W from by decide];show R.ok (D.bS B r.jk (aA _))=_;rw[r6 h.jv]
def afm{O:M PG}{g:Nat}(hg:O[g]?=L (.jO 36 nj))(r:Ry):rG O g "steps" (d8 r)=.ok (.lst B (r.st.map sD)):=by
 unfold rG;rw[hg];show R.bV (decide ((36:Addr)=36)&&decide (("steps":Str)∈nj)) (R.ok (bq (.lst B (r.st.map sD))))=_;rw[show(decide ((36:Addr)=36)&&decide (("steps":Str)∈nj))=W from by decide];show R.ok (D.lst B (aA _))=_;rw[cZ]
def afn{O:M PG}{g:Nat}(hg:O[g]?=L (.jO 36 nj)){r:Ry}(h:tH r):rG O g "marks" (d8 r)=.ok (.bS B r.km r.vm):=by
 unfold rG;rw[hg];show R.bV (decide ((36:Addr)=36)&&decide (("marks":Str)∈nj)) (R.ok (bq (.bS B r.km r.vm)))=_;rw[show(decide ((36:Addr)=36)&&decide (("marks":Str)∈nj))=W from by decide];show R.ok (D.bS B r.km (aA _))=_;rw[r6 h.m.v]
theorem YW:∀(l:M WN) (w:Str),iQ (wk l) (wv l) (.inr w)=S\/∃n,iQ (wk l) (wv l) (.inr w)=L (.int n)
|[],w=>.inl rfl
|p::l,w=>by
 show(if(d9 p.1:Key)=.inr w then L (D.int p.2)else iQ (wk l) (wv l) (.inr w))=S\/∃n,(if(d9 p.1:Key)=.inr w then L (D.int p.2)else iQ (wk l) (wv l) (.inr w))=L (.int n);by_cases c:(d9 p.1:Key)=.inr w
 .rw[aF c];exact .inr #[_,rfl]
 .rw[aG c];exact YW l w
def abb(r:Ry)(hr:tH r)(p:J)(hp:iZ (zl r.sz) p)(bs:M B3):∃b:Bool,qG [d8 r,.int p,.lst B (bs.map bD)]=.ok (.bl b):=by
 have hs:=szl;let#[j,hj,ej,ea]:=j7 (r.sz.map (pe B)) p hp.1 (by rw[aa];exact hp.2);rw[dc]at ea;generalize r.sz[j]'(by simpa using hj)=l at ea;have q:=zm (g:=pG (.tup (.cons (.name 3) (.cons (.name 4) (.cons (.name 5) .nil))))) (b:=b9 GO 1000 mT) bD (λd=>d=.bl B) bs (λU=>∃a b c d,U=[L (d8 r),L (.int p),L (.lst B (bs.map bD)),a,b,c,d]) (by
  rintro⟨w,lo,hi⟩ _ U ⟨a,b,c,d,rfl⟩;refine#[[L (d8 r),L (.int p),L (.lst B (bs.map bD)),L (.str w),L (oD lo),L (oD hi),d],rfl,?_];have fry:=tL hr;have asz:=YU (O:=GO) (g:=0) rfl r;have ix:iY (.lst B (r.sz.map (pe B))) (.int p)=.ok (pe B l):=by
   unfold iY;simp only[ea];show R.ok (D.cW B (wk l) (aA (wv l)))=_;rw[KU]
  generalize hS:D.lst B (r.sz.map (pe B))=sz at asz ix;generalize hR:d8 r=ry at fry asz;generalize D.lst B (bs.map bD)=bn;have one:∀v:D,aU v=W->(pE GO (.mth .get (.ix (.att 0 (.var 0) "sizes") (.var 1)) (.cons (.var 3) .nil)) [L ry,L (.int p),L bn,L (.str w),L (oD lo),L (oD hi),d])=.ok v->pS GO 1000 (.asg (.name 6) (.mth .get (.ix (.att 0 (.var 0) "sizes") (.var 1)) (.cons (.var 3) .nil))) [L ry,L (.int p),L bn,L (.str w),L (oD lo),L (oD hi),d]=.nx [L ry,L (.int p),L bn,L (.str w),L (oD lo),L (oD hi),L v]:=λv ov e=>by
   rw[Mn,e];show Fl.nx _=_;rw[ov];rfl
  rcases YW l w with g0|⟨n,g0⟩
  .refine .inr #[.bl B,?_,rfl];have eg:uq .get (pe B l) [.str w]=.ok .non:=by
    show R.ok (bq ((iQ (wk l) (wv l) (.inr w)).getD .non))=_;rw[g0];rfl
   have s1:=one .non rfl (by erw[fry,asz,ix,eg]);unfold mT;rw[dY,s1];show b9 GO 1000 _ _=_;erw[dm]
  .have eg:uq .get (pe B l) [.str w]=.ok (.int n):=by
    show R.ok (bq ((iQ (wk l) (wv l) (.inr w)).getD .non))=_;rw[g0];rfl
   have s1:=one (.int n) rfl (by erw[fry,asz,ix,eg]);unfold mT;rw[dY,s1];have fin:∀cc:Bool,(b9 GO 1000 (if cc=W then .cons (.ret (.con (.bl B))) .nil else .nil) [L ry,L (.int p),L bn,L (.str w),L (oD lo),L (oD hi),L (.int n)]=if cc=W then .rt (.bl B)else .nx [L ry,L (.int p),L bn,L (.str w),L (oD lo),L (oD hi),L (.int n)]):=λcc=>by cases cc<;>rfl
   have dec:∃cc:Bool,b9 GO 1000 (.cons (.ifs (.or (.cmp .Is (.var 6) (.con .non)) (.or (.and (.cmp .IsNot (.var 4) (.con .non)) (.cmp .Lt (.var 6) (.var 4))) (.and (.cmp .IsNot (.var 5) (.con .non)) (.cmp .Gt (.var 6) (.var 5))))) (.cons (.ret (.con (.bl B))) .nil) .nil) .nil) [L ry,L (.int p),L bn,L (.str w),L (oD lo),L (oD hi),L (.int n)]=if cc=W then .rt (.bl B)else .nx [L ry,L (.int p),L bn,L (.str w),L (oD lo),L (oD hi),L (.int n)]:=by
    cases lo with
    |none=>
     cases hi with
     |none=>
      refine#[B,?_];unfold oD;erw[dm]
     |some h=>
      refine#[decide (h<n),?_];unfold oD;cases e:decide (h<n)<;>erw[dm,e]
    |some lo=>
     cases hi with
     |none=>
      refine#[decide (n<lo),?_];unfold oD;cases e:decide (n<lo)<;>erw[dm,e]
     |some h=>
      refine#[decide (n<lo)||decide (h<n),?_];unfold oD;cases e:decide (n<lo)<;>cases e2:decide (h<n)<;>erw[dm,e,e2,Bool.or_true,AS,M0]
   let#[cc,hcc]:=dec;cases cc with
   |true=>exact .inr #[_,hcc,rfl]
   |false=>exact .inl #[_,.inl hcc,_,_,_,_,rfl]) [L (d8 r),L (.int p),L (.lst B (bs.map bD)),S,S,S,S] #[_,_,_,_,rfl]
 unfold qG yD;generalize mT=abm at q ⊢;rw[show DW=GO from rfl];rcases q with⟨σ',h1,a,b,c,d,rfl⟩|⟨d,h1,rfl⟩
 .refine#[W,?_];generalize d8 r=ry at h1 ⊢;erw[GB];rw[h1];erw[]
 .refine#[B,?_];generalize d8 r=ry at h1 ⊢;erw[GB];rw[h1];erw[]
noncomputable abbrev tM(p:Str×Str):D:=.tup [.str p.1,.str p.2]
def XM(r:Ry)(hr:tH r)(p:J)(ws:M (Str×Str)):∃b:Bool,qF [d8 r,.int p,.lst B (ws.map tM)]=.ok (.bl b):=by
 have hs:=szl;have amk:=afn (O:=GO) (g:=0) rfl hr;have fry:=tL hr;let#[ys,y1,y2,y3]:=ia (g:=pG (.tup (.cons (.name 0) (.cons (.name 1) .nil)))) (e:=pE GO (.cmp .In (.tup (.cons (.var 0) (.cons (.var 1) (.cons (.var 3) .nil)))) (.att 0 (.var 2) "marks"))) tM (λU=>∃a b,U=[a,b,L (d8 r),L (.int p)]) (λy=>lK y=W) ws [S,S,L (d8 r),L (.int p)] #[_,_,rfl] (by
  rintro⟨s,w⟩ _ U ⟨a,b,rfl⟩;refine#[[L (.str s),L (.str w),L (d8 r),L (.int p)],.bl (jE r.km [.inr s,.inr w,.inl p]),rfl,#[_,_,rfl],?_,rfl];have e:gE .In (.tup [.str s,.str w,.int p]) (.bS B r.km r.vm)=.ok (.bl (jE r.km [.inr s,.inr w,.inl p])):=rfl;generalize D.bS B r.km r.vm=mm at amk e;generalize d8 r=ry at amk fry ⊢;erw[fry,amk,e])
 have ya:=bz.mpr y3;refine#[ys.all qX,?_];unfold qF yE;rw[show DV=GO from rfl];have fw:aA (ws.map tM)=ws.map tM:=dR tM (λ_=>rfl) _;generalize d8 r=ry at y1 ⊢;erw[fw,y1,ya]
def MQ{β:Type}{g:D->br->R br}{b:br->Fl}(enc:β->D)(T:D->Prop)(xs:M β)(I:M β->br->Prop)(h:∀pre x post,xs=pre++x::post->∀U,I pre U->∃σ2,g (.tup [.int (zl pre:J),enc x]) U=.ok σ2/\((∃σ3,b σ2=.nx σ3/\I (pre++[x]) σ3)\/∃d,b σ2=.rt d/\T d))(U:br)(h0:I [] U):(∃σ',forR g b (ir 0 (xs.map enc)) U=.nx σ'/\I xs σ')\/∃d,forR g b (ir 0 (xs.map enc)) U=.rt d/\T d:=by
 have go:∀(post pre:M β) (U:br),xs=pre++post->I pre U->(∃σ',forR g b (ir (zl pre) (post.map enc)) U=.nx σ'/\I xs σ')\/∃d,forR g b (ir (zl pre) (post.map enc)) U=.rt d/\T d:=by
  intro post;induction post with
  |nil=>intro pre U e hi;rw[e,d_];exact .inl #[U,rfl,hi]
  |cons x r ih=>
   intro pre U e hi;let#[σ2,h1,h2]:=h pre x r e U hi;have e2:forR g b (ir (zl pre) ((x::r).map enc)) U=(match b σ2 with
    |.nx σ3=>forR g b (ir (zl pre+1) (r.map enc)) σ3
    |.ct σ3=>forR g b (ir (zl pre+1) (r.map enc)) σ3
    |.bk σ3=>.nx σ3
    |.rt d=>.rt d
    |.bad=>.bad):=by
    show(g (.tup [.int (zl pre:J),enc x]) U).bA _=_;rw[h1];rfl
   rw[e2];rcases h2 with⟨σ3,h3,h4⟩|⟨d,h3,h4⟩
   .rw[h3];have:=ih (pre++[x]) σ3 (by rw[e,dF];rfl) h4;rw[bf,f_]at this;exact this
   .rw[h3];exact .inr #[d,rfl,h4]
 exact go xs [] U rfl h0
theorem T4(i:J):∀{mk:M (M Key)},(∀k∈mk,Mk3 k)->∃ws:M (Str×Str),HH i mk=ws.map tM
|[],_=>#[[],rfl]
|k::mk,h=>by
 let#[ws,e]:=T4 i λq hq=>h q (ao _ hq);let#[s,w,j,rfl]:=h k aB;unfold HH at e ⊢;by_cases c:(uC j:Key)=.inl i
 .rw[xx (show sP i [.inr s,.inr w,.inl j]=L [.inr s,.inr w]from aF c),bJ,e];exact#[(s,w)::ws,rfl]
 .rw[xy (show sP i [.inr s,.inr w,.inl j]=S from aG c),e];exact#[ws,rfl]
abbrev t9:M PG:=[.fn qF [],.fn qG [],.fn tD [],.fn jW [],.jO 36 nj,.fn nD []]
abbrev cC(o:Bool)(c:M J):D:=.lst o (c.map D.int)
def YX(l:M (M J)):aX (l.map (cC W))=W:=by
 induction l with
 |nil=>rfl
 |cons x r ih=>
  show((W&&aX (x.map D.int))&&aX (r.map (cC W)))=W;rw[ih,f9];rfl
def j9(o:Bool)(l:M (M J)):aA (l.map (cC o))=l.map (cC B):=by
 induction l with
 |nil=>rfl
 |cons x r ih=>
  show D.lst B (aA (x.map D.int))::aA (r.map (cC o))=_;rw[ih,b_];rfl
def bds2(zs:M Z4)(i:J):dS (pG (.tup (.cons (.name 0) (.cons (.name 1) (.cons (.name 2) (.cons (.name 3) .nil)))))) (pT t9 (.cmp .Eq (.var 0) (.var 4))) (pE t9 (.tup (.cons (.var 1) (.cons (.var 2) (.cons (.var 3) .nil))))) (zs.map zD) [S,S,S,S,L (.int i)]=.ok (((zs.filter λz=>z.1==i).map λz=>(z.2.1,z.2.2.1,z.2.2.2)).map bD):=by
 have hs:=szl;rw[bK];refine sY zD (λU=>∃a b c d,U=[a,b,c,d,L (.int i)]) (λz=>z.1==i) (λz=>bD (z.2.1,z.2.2.1,z.2.2.2)) zs _ #[_,_,_,_,rfl] ?_;rintro⟨n,w,lo,hi⟩ _ U ⟨a,b,c,d,rfl⟩;refine#[[L (.int n),L (.str w),L (oD lo),L (oD hi),L (.int i)],rfl,#[_,_,_,_,rfl],?_,?_]
 .erw[]
 .erw[nH]
def adY(y:Ry)(hy:tH y)(bs:M B3)(ws:M (Str×Str))(l:M J)(hl:∀i∈l,iZ (zl y.sz) i):∃c:M J,(∀i∈c,iZ (zl y.sz) i)/\zl c<=zl l/\dS (pG (.name 0)) (pT t9 YH) (pE t9 (.var 0)) (l.map D.int) [S,L (d8 y),L (.lst W (bs.map bD)),L (.lst W (ws.map tM))]=.ok (c.map D.int):=by
 have fry:=tL hy;have fw:aA (ws.map tM)=ws.map tM:=dR tM (λ_=>rfl) _;let#[ys,y1,y2,y3,y4]:=tG (g:=pG (.name 0)) (c:=pT t9 YH) (e:=pE t9 (.var 0)) D.int (λU=>∃o,U=[o,L (d8 y),L (.lst W (bs.map bD)),L (.lst W (ws.map tM))]) (λ_ _=>True) D.int l [S,L (d8 y),L (.lst W (bs.map bD)),L (.lst W (ws.map tM))] #[_,rfl] (by
  rintro i hi U ⟨o,rfl⟩;let#[b1,q1]:=abb y hy i (hl i hi) bs;let#[b2,q2]:=XM y hy i ws;refine#[[L (.int i),L (d8 y),L (.lst W (bs.map bD)),L (.lst W (ws.map tM))],b1&&b2,rfl,#[_,rfl],?_,trivial,?_]
  .generalize d8 y=ry at fry q1 q2 ⊢;cases b1<;>erw[fry,GB,q1,fw,q2,vE,uF]
  .erw[])
 exact#[ys,λi hi=>hl i (y2 i hi),y3,y1]
def T7(c:M J):gE .Eq (.lst B (c.map D.int)) (.lst W [])=.ok (.bl c.isEmpty):=by
 have h:dP (.lst B (c.map D.int))=W:=by
  induction c with
  |nil=>rfl
  |cons x r ih=>exact ih
 rw[y_ h rfl];cases c<;>rfl
abbrev cS(rd ry cl:D)(mk:M (M Key))(mv:M D)(ch:M (M J))(a b c d e:abM D):br:=[L rd,L ry,L cl,L (.bS W mk mv),L (.lst W (ch.map (cC W))),a,b,c,d,e]
def ch_b(r:lR)(y:Ry)(hy:tH y)(cl:M (M J×M J))(mk:M (M Key))(mv:M D)(hm:JR 60 mk mv)(t:M Str)(k:Nat)(ch:M (M J))(hch:zl ch<=4)(c d e:abM D):∃(nc:M J) (c' d' e':abM D),(∀i∈nc,iZ (zl y.sz) i)/\zl nc<=7/\b9 t9 1000 lM (cS (bF B r) (d8 y) (.lst B (cl.map (fJ B))) mk mv ch (L (.int k)) (L (tS t)) c d e)=
   if nc.isEmpty=W then .rt .non else .nx (cS (bF B r) (d8 y) (.lst B (cl.map (fJ B))) mk mv (ch++[nc]) (L (.int k)) (L (tS t)) c' d' e'):=by
 have hs:=szl;have fry:=tL hy;have aup:=YV (O:=t9) (g:=4) rfl y;let#[l,l1,l2,qu]:=OG y.up (by have:=hy.l;have:=hy.l7;lia) t;let#[o,l',g1,g2,qo]:=adX cl l (k:J);have qb:=bds2 r.zs (k:J);let#[ws,ew]:=T4 (k:J) hm.k;generalize((r.zs.filter λz=>z.1==(k:J)).map λz=>(z.2.1,z.2.2.1,z.2.2.2))=bs at qb;let#[nc,n1,n2,qn]:=adY y hy bs ws l' (λi hi=>by rw[hy.l];exact l1 i (g1 i hi));have k3:(decide ((["mark","word","number"]:M Str).length=3)&&mk.all λk=>decide (zl k=3))=W:=by
  rw[show decide ((["mark","word","number"]:M Str).length=3)=W from rfl,vE];exact bz.mpr λq hq=>by let#[s,w,i,rfl]:=hm.k q hq;rfl
 have qd:∀(U:br),HR 9 ["mark","word","number"] U (L (L (.int (k:J)))) (L (L (.bS W mk mv)))=.nx (U.set 9 (L (.lst W (ws.map tM)))):=λU=>by rw[<-ew];exact aF k3
 have cp:=T7 nc;have fch:=j9 W (ch++[nc]);have la:dj ((ch++[nc]).map (cC B)) (-1)=L (cC B nc):=by rw[bE];exact zM _ _
 have l7:=hy.l7;have hl:=hy.l;have fup:=zj B y.up;refine#[nc,L (.lst o (l'.map D.int)),L (.lst W (bs.map bD)),L (.lst W (ws.map tM)),n1,by lia,?_];have fcl:bq (.lst B (cl.map (fJ B)))=.lst B (cl.map (fJ B)):=by show D.lst B (aA _)=_;rw[nW]
 have fu:bq (.lst B (y.up.map (qK B)))=.lst B (y.up.map (qK B)):=by show D.lst B (aA _)=_;rw[fup]
 generalize hC:D.lst B (cl.map (fJ B))=cld at qo fcl ⊢;generalize hU:D.lst B (y.up.map (qK B))=upd at aup qu fu;generalize hY:d8 y=ry at fry aup qn ⊢;have hT:∀σ4:br,σ4=cS (bF B r) ry cld mk mv (ch++[nc]) (L (.int k)) (L (tS t)) (L (.lst o (l'.map D.int))) (L (.lst W (bs.map bD))) (L (.lst W (ws.map tM)))->b9 t9 1000 (.cons (.ifs (.cmp .Eq (.ix (.var 4) (.neg (.con (.int 1)))) (.lst .nil)) (.cons (.ret (.con .non)) .nil) .nil) .nil) σ4=if nc.isEmpty=W then .rt .non else .nx σ4:=by
  rintro σ4 rfl;unfold cS;cases e0:nc.isEmpty with
  |true=>
   rw[e0]at cp;erw[fch,la,b_,cp]
  |false=>
   rw[e0]at cp;erw[fch,la,b_,cp]
 unfold lM;have S1:pS t9 1000 (.asg (.name 7) (.call 2 (.cons (.var 2) (.cons (.call 3 (.cons (.att 4 (.var 1) "uppers") (.cons (.var 6) .nil))) (.cons (.var 5) .nil))))) (cS (bF B r) ry cld mk mv ch (L (.int k)) (L (tS t)) c d e)=.nx (cS (bF B r) ry cld mk mv ch (L (.int k)) (L (tS t)) (L (.lst o (l'.map D.int))) d e):=by
  unfold cS;cases o with
  |true=>erw[fcl,fry,aup,fu,cg,qu,b_,qo,f9]
  |false=>erw[fcl,fry,aup,fu,cg,qu,b_,qo,jJ]
 rw[dY,S1];show b9 t9 1000 _ _=_;have S2:pS t9 1000 (.asg (.name 8) (.comp ["number","word","lo","hi"] [5] (.tup (.cons (.var 1) (.cons (.var 2) (.cons (.var 3) .nil)))) (.tup (.cons (.name 0) (.cons (.name 1) (.cons (.name 2) (.cons (.name 3) .nil))))) (.seq (.ix (.var 0) (.con (.int 3)))) (.some (.cmp .Eq (.var 0) (.var 4))))) (cS (bF B r) ry cld mk mv ch (L (.int k)) (L (tS t)) (L (.lst o (l'.map D.int))) d e)=.nx (cS (bF B r) ry cld mk mv ch (L (.int k)) (L (tS t)) (L (.lst o (l'.map D.int))) (L (.lst W (bs.map bD))) e):=by
  unfold cS;erw[gW,lS,eK,rA,cZ,YQ,qb,adL]
 rw[dY,S2];show b9 t9 1000 _ _=_;rw[dY,Mr];rw[show HR 9 ["mark","word","number"] (cS (bF B r) ry cld mk mv ch (L (.int k)) (L (tS t)) (L (.lst o (l'.map D.int))) (L (.lst W (bs.map bD))) e) (cS (bF B r) ry cld mk mv ch (L (.int k)) (L (tS t)) (L (.lst o (l'.map D.int))) (L (.lst W (bs.map bD))) e)[5]? (cS (bF B r) ry cld mk mv ch (L (.int k)) (L (tS t)) (L (.lst o (l'.map D.int))) (L (.lst W (bs.map bD))) e)[3]?=.nx (cS (bF B r) ry cld mk mv ch (L (.int k)) (L (tS t)) (L (.lst o (l'.map D.int))) (L (.lst W (bs.map bD))) (L (.lst W (ws.map tM))))from qd _];show b9 t9 1000 _ _=_;have S4:pS t9 1000 (.expr (.mth .append (.var 4) (.cons (.comp ["part"] [1,8,9] (.var 0) (.name 0) (.seq (.var 7)) (.some YH)) .nil))) (cS (bF B r) ry cld mk mv ch (L (.int k)) (L (tS t)) (L (.lst o (l'.map D.int))) (L (.lst W (bs.map bD))) (L (.lst W (ws.map tM))))=.nx (cS (bF B r) ry cld mk mv (ch++[nc]) (L (.int k)) (L (tS t)) (L (.lst o (l'.map D.int))) (L (.lst W (bs.map bD))) (L (.lst W (ws.map tM)))):=by
  unfold cS;erw[b_,qn];rw[jH rfl (by rw[hs,aa];lia) (by show((W&&aX _)||_)=W;rw[f9];rfl)];erw[f9,bE,bJ,gi]
 rw[dY,S4];show b9 t9 1000 _ _=_;exact hT _ rfl
def adZ(P:Nat)(c:M J):Prop:=(∀i∈c,iZ P i)/\zl c<=7
def T8(ks:M (Str×Str))(r:lR)(hr:u0 ks r)(y:Ry)(hy:tH y)(cl:M (M J×M J)):mW [bF B r,d8 y,.lst B (cl.map (fJ B))]=.ok .non\/∃chs:M (M J),zl chs=zl r.ps/\(∀c∈chs,adZ (zl y.sz) c)/\mW [bF B r,d8 y,.lst B (cl.map (fJ B))]=.ok (.lst W (chs.map (cC W))):=by
 have hs:=szl;have j4:=hr.j4;have s8:=hr.s8;have p4:=hr.p.1;let#[mk,mv,hm,qm]:=OE r.js r.st (by lia) (by lia);have omv:=MP hm.v;have q:=MQ (g:=pG (.tup (.cons (.name 5) (.cons (.name 6) .nil)))) (b:=b9 t9 1000 lM) tS (λd=>d=.non) r.ps
  (λpre U=>∃(ch:M (M J)) (a b c d e:abM D),zl ch=zl pre/\(∀c∈ch,adZ (zl y.sz) c)/\U=cS (bF B r) (d8 y) (.lst B (cl.map (fJ B))) mk mv ch a b c d e) (by
  rintro pre t post e U ⟨ch,a,b,c,d,e',g1,g2,rfl⟩;have hpre:zl pre<4:=by rw[e]at p4;simp at p4;lia
  let#[nc,c',d',e2,n1,n2,qb]:=ch_b r y hy cl mk mv hm t (zl pre) ch (by lia) c d e';refine#[cS (bF B r) (d8 y) (.lst B (cl.map (fJ B))) mk mv ch (L (.int (zl pre:J))) (L (tS t)) c d e',rfl,?_];rw[qb];cases h0:nc.isEmpty with
  |true=>exact .inr #[.non,rfl,rfl]
  |false=>
   refine .inl #[_,rfl,ch++[nc],_,_,_,_,_,by simp[g1],λx hx=>?_,rfl];rcases bw.mp hx with z|z
   .exact g2 x z
   .rw[aQ.mp z];exact#[n1,n2]) (cS (bF B r) (d8 y) (.lst B (cl.map (fJ B))) mk mv [] S S S S S) #[[],_,_,_,_,_,rfl,λ_ h=>aH h aD,rfl]
 unfold mW wM;generalize lM=abm at q ⊢;rw[show B_=t9 from rfl];unfold cS at q;generalize d8 y=ry at q ⊢;generalize D.lst B (cl.map (fJ B))=cld at q ⊢;rw[gi]at q;rcases q with⟨σ',h1,ch,a,b,c,d,e,g1,g2,rfl⟩|⟨d,h1,rfl⟩
 .refine .inr #[ch,g1,g2,?_];erw[gW,lS,eK,rA,cZ,Dd,De,GH,qm,omv];rw[h1];erw[]
 .refine .inl ?_;erw[gW,lS,eK,rA,cZ,Dd,De,GH,qm,omv];rw[h1];erw[]
def jL(l:M (abM J)):aA (l.map oD)=l.map oD:=dR oD nH l
def QH(l:M (abM J)):aX (l.map oD)=W:=by
 induction l with
 |nil=>rfl
 |cons x r ih=>
  show(aU (oD x)&&aX (r.map oD))=W;rw[ih,EW];rfl
def T9(l:M (abM J)):jw (l.map oD)=W:=by
 show cU (l.map oD) 12=W;induction l with
 |nil=>rfl
 |cons x r ih=>
  show(fU (oD x) 12&&cU (r.map oD) 12)=W;rw[ih];cases x<;>rfl
def KY{n:Nat}{l:M (abM J)}(h:zl l=n){i:J}(hi:iZ n i):∃v,v∈l/\dj (l.map oD) i=L (oD v):=by
 let#[j,hj,ej,ea]:=j7 (l.map oD) i hi.1 (by rw[aa,h];exact hi.2);rw[dc]at ea;exact#[_,cz _,ea]
def abc(n:Nat)(js:M J3)(hj:∀j∈js,OB n j)(jk:M (M Key))(jv:M D)(hv:∀d∈jv,d=.bl W)(fo:M (abM J))(hf:zl fo=n):∃b:Bool,o_ [.lst B (js.map jD),.bS B jk jv,.lst B (fo.map oD)]=.ok (.bl b):=by
 have hs:=szl;have q:=zm (g:=pG (.tup (.cons (.name 3) (.cons (.name 4) (.cons (.name 5) .nil))))) (b:=b9 [] 1000 oO) jD (λd=>d=.bl B) js (λU=>∃a b c,U=[L (.lst B (js.map jD)),L (.bS B jk jv),L (.lst B (fo.map oD)),a,b,c]) (by
  rintro⟨w,i,j⟩ hm U ⟨a,b,c,rfl⟩;let#[h1,h2]:=hj (w,i,j) hm;let#[v1,_,e1]:=KY hf h1;let#[v2,_,e2]:=KY hf h2;refine#[[L (.lst B (js.map jD)),L (.bS B jk jv),L (.lst B (fo.map oD)),L (.str w),L (.int i),L (.int j)],rfl,?_];have fj:=r6 hv;generalize D.lst B (js.map jD)=jd;unfold oO;cases v1 with
  |none=>
   refine .inl #[[L jd,L (.bS B jk jv),L (.lst B (fo.map oD)),L (.str w),L (.int i),L (.int j)],.inl ?_,_,_,_,rfl];have e1:dj (fo.map oD) i=L .non:=e1;erw[jL,e1,dm,e_]
  |some v1=>
   have e1:dj (fo.map oD) i=L (.int v1):=e1;cases v2 with
   |none=>
    refine .inl #[[L jd,L (.bS B jk jv),L (.lst B (fo.map oD)),L (.str w),L (.int i),L (.int j)],.inl ?_,_,_,_,rfl];have e2:dj (fo.map oD) j=L .non:=e2;erw[jL,e1,e2,dm,e_,eX]
   |some v2=>
    have e2:dj (fo.map oD) j=L (.int v2):=e2;have e:gE .NotIn (.tup [.str w,.int v1,.int v2]) (.bS B jk jv)=.ok (.bl (!jE jk [.inr w,.inl v1,.inl v2])):=rfl;have fj':bq (.bS B jk jv)=.bS B jk jv:=by show D.bS B jk (aA jv)=_;rw[fj]
    generalize D.bS B jk jv=jj at e fj' ⊢;cases c:jE jk [.inr w,.inl v1,.inl v2]with
    |true=>
     refine .inl #[[L jd,L jj,L (.lst B (fo.map oD)),L (.str w),L (.int i),L (.int j)],.inl ?_,_,_,_,rfl];rw[c]at e;erw[jL,e1,e2,dm,e_,eX,fj',e]
    |false=>
     refine .inr #[.bl B,?_,rfl];rw[c]at e;erw[jL,e1,e2,dm,e_,eX,fj',e]) [L (.lst B (js.map jD)),L (.bS B jk jv),L (.lst B (fo.map oD)),S,S,S] #[_,_,_,rfl]
 unfold o_ wQ;generalize oO=abm at q ⊢;rw[show B8=[]from rfl];generalize D.bS B jk jv=jj at q ⊢;rcases q with⟨σ',h1,a,b,c,rfl⟩|⟨d,h1,rfl⟩
 .refine#[W,?_];erw[eK];rw[h1];erw[]
 .refine#[B,?_];erw[eK];rw[h1];erw[]
def ad0(pf:M (abM J))(iR:M J):∃ys:M D,dS (pG (.name 0)) (λ_=>.ok W) (pE [] (.cmp .NotIn (.var 0) (.var 1))) (iR.map D.int) [S,L (.lst W (pf.map oD))]=.ok ys/\zl ys=zl iR/\∀y∈ys,lK y=W:=by
 refine ia D.int (λU=>∃o,U=[o,L (.lst W (pf.map oD))]) (λy=>lK y=W) iR _ #[_,rfl] ?_;rintro s hs U ⟨o,rfl⟩;refine#[[L (.int s),L (.lst W (pf.map oD))],.bl (!memD (.int s) (pf.map oD)),rfl,#[_,rfl],?_,rfl];have nn:=T9 pf;have e:gE .NotIn (.int s) (.lst B (pf.map oD))=.ok (.bl (!memD (.int s) (pf.map oD))):=qE rfl nn;erw[jL,e]
def ad1(n:Nat)(fo:M (abM J))(hf:zl fo=n)(nums:M J)(hn:∀i∈nums,iZ n i):∃pf:M (abM J),dS (pG (.name 0)) (λ_=>.ok W) (pE [] (.ix (.var 1) (.var 0))) (nums.map D.int) [S,L (.lst B (fo.map oD))]=.ok (pf.map oD):=by
 let#[ys,y1,y2,y3]:=ia (g:=pG (.name 0)) (e:=pE [] (.ix (.var 1) (.var 0))) D.int (λU=>∃o,U=[o,L (.lst B (fo.map oD))]) (λy=>∃v:abM J,True/\y=oD v) nums [S,L (.lst B (fo.map oD))] #[_,rfl] (by
  rintro i hi U ⟨o,rfl⟩;let#[v,_,e]:=KY hf (hn i hi);refine#[[L (.int i),L (.lst B (fo.map oD))],oD v,rfl,#[_,rfl],?_,v,trivial,rfl];erw[jL,e,nH])
 let#[pf,rfl,_]:=typed y3;exact#[pf,y1]
def ad2(n:Nat)(cl:M (M J×M J))(hc:∀c∈cl,∀i∈c.1,iZ n i)(fo:M (abM J))(hf:zl fo=n):∃b:Bool,kQ [.lst B (cl.map (fJ B)),.lst B (fo.map oD)]=.ok (.bl b):=by
 have hs:=szl;have q:=zm (g:=pG (.tup (.cons (.name 2) (.cons (.name 3) .nil)))) (b:=b9 [] 1000 k9) (fJ B) (λd=>d=.bl B) cl (λU=>∃a b c,U=[L (.lst B (cl.map (fJ B))),L (.lst B (fo.map oD)),a,b,c]) (by
  rintro⟨nums,iR⟩ hm U ⟨a,b,c,rfl⟩;let#[pf,q1]:=ad1 n fo hf nums (hc _ hm);let#[ys,q2,_,y3]:=ad0 pf iR;have ya:=bz.mpr y3;refine#[[L (.lst B (cl.map (fJ B))),L (.lst B (fo.map oD)),L (tI nums),L (.lst B (iR.map D.int)),c],rfl,?_];generalize D.lst B (cl.map (fJ B))=cld;unfold k9;cases cy:ys.any qX with
  |true=>
   refine .inr #[.bl B,?_,rfl];erw[b_,q1,QH,q2,ya,cy]
  |false=>
   refine .inl #[[L cld,L (.lst B (fo.map oD)),L (tI nums),L (.lst B (iR.map D.int)),L (.lst W (pf.map oD))],.inl ?_,_,_,_,rfl];erw[b_,q1,QH,q2,ya,cy]) [L (.lst B (cl.map (fJ B))),L (.lst B (fo.map oD)),S,S,S] #[_,_,_,rfl]
 unfold kQ rK;generalize k9=abm at q ⊢;rw[show B8=[]from rfl];rcases q with⟨σ',h1,a,b,c,rfl⟩|⟨d,h1,rfl⟩
 .refine#[W,?_];erw[nW];rw[h1];erw[]
 .refine#[B,?_];erw[nW];rw[h1];erw[]
abbrev zo(a:D)(st:M (Str×J))(fo:M (abM J))(p:J)(w i:abM D):br:=[L a,L (.lst B (st.map sD)),L (.lst B (fo.map oD)),L (.int p),w,i]
def abd(a:D)(st:M (Str×J))(hst:zl st<=10)(fo:M (abM J))(w:Str)(i v:J)(ev:dj (fo.map oD) i=L (.int v)):∀(m:Nat) (p:Nat) (fuel:Nat),zl st=p+m->m<fuel->
  ∃p':Nat,p'<=zl st/\vn (pT [] whT) (b9 [] 1000 oQ) fuel (zo a st fo p (L (.str w)) (L (.int i)))=.nx (zo a st fo p' (L (.str w)) (L (.int i))):=by
 have hs:=szl;intro m;induction m with
 |zero=>
  intro p fuel h1 h2;cases fuel with
  |zero=>omega
  |succ f=>
   refine#[p,by lia,?_];have e:decide ((p:J)<(zl st:J))=B:=bW (by lia);show(pT _ _ _).bA _=_;erw[cZ,e]
 |succ m ih=>
  intro p fuel h1 h2;cases fuel with
  |zero=>lia
  |succ f=>
   have hp:p<zl st:=by lia
   have e:decide ((p:J)<(zl st:J))=W:=a_ (by lia);have ea:dj (st.map sD) (p:J)=L (sD st[p]):=lC (by rw[bg,aq hp];rfl);generalize st[p]=sp at ea;let#[s,k]:=sp;have ea:dj (st.map sD) (p:J)=L (.tup [.str s,.int k]):=ea;have ec:gE .NotEq (.tup [.str s,.int k]) (.tup [.str w,.int v])=.ok (.bl (!gT (.tup [.str s,.int k]) (.tup [.str w,.int v]))):=rfl;cases c:gT (.tup [.str s,.int k]) (.tup [.str w,.int v])with
   |true=>
    refine#[p,by lia,?_];rw[c]at ec;unfold zo;show(pT _ _ _).bA _=_;erw[cZ,e,ea,jL,ev,ec,e_]
   |false=>
    let#[p',g1,g2]:=ih (p+1) f (by lia) (by lia);refine#[p',g1,?_];rw[c]at ec;unfold zo at g2 ⊢;show(pT _ _ _).bA _=_;erw[cZ,e,ea,jL,ev,ec,eX];have hb:b9 [] 1000 oQ [L a,L (.lst B (st.map sD)),L (.lst B (fo.map oD)),L (.int (p:J)),L (.str w),L (.int i)]=.nx [L a,L (.lst B (st.map sD)),L (.lst B (fo.map oD)),L (.int ((p+1:Nat):J)),L (.str w),L (.int i)]:=by rfl
    rw[hb];exact g2
def abe(n:Nat)(rs:M (Str×J))(hr:∀s∈rs,iZ n s.2)(st:M (Str×J))(hst:zl st<=10)(fo:M (abM J))(hf:zl fo=n):∃b:Bool,o9 [.lst B (rs.map sD),.lst B (st.map sD),.lst B (fo.map oD)]=.ok (.bl b):=by
 have hs:=szl;have q:=zm (g:=pG (.tup (.cons (.name 4) (.cons (.name 5) .nil)))) (b:=b9 [] 1000 oR) sD (λd=>d=.bl B) rs (λU=>∃(p:Nat) (a b:abM D),p<=zl st/\U=zo (.lst B (rs.map sD)) st fo p a b) (by
  rintro⟨w,i⟩ hm U ⟨p,a,b,hp,rfl⟩;let#[v,_,ev]:=KY hf (hr (w,i) hm);refine#[zo (.lst B (rs.map sD)) st fo p (L (.str w)) (L (.int i)),rfl,?_];generalize D.lst B (rs.map sD)=rd;unfold oR;cases v with
  |none=>
   refine .inl #[zo rd st fo p (L (.str w)) (L (.int i)),.inl ?_,p,_,_,hp,rfl];have ev:dj (fo.map oD) i=L .non:=ev;erw[jL,ev,dm,e_]
  |some v=>
   have ev:dj (fo.map oD) i=L (.int v):=ev;let#[p',g1,g2]:=abd rd st hst fo w i v ev (zl st-p) p 1000 (by lia) (by omega);unfold zo at g2;generalize oQ=abm at g2 ⊢;by_cases c:((p':J)==(zl st:J))=W
   .refine .inr #[.bl B,?_,rfl];unfold zo;erw[jL,ev,dm,eX,g2,cZ,c]
   .rw[dD]at c;have hne:p'≠zl st:=λz=>by rw[z]at c;simp at c
    refine .inl #[zo rd st fo (p'+1:Nat) (L (.str w)) (L (.int i)),.inl ?_,p'+1,_,_,by lia,rfl];have ep:((p'+1:Nat):J)=(p':J)+1:=by lia
    unfold zo;erw[jL,ev,dm,eX,g2,cZ,c,ep];rfl) (zo (.lst B (rs.map sD)) st fo 0 S S) #[0,_,_,dg _,rfl]
 unfold o9 wR;unfold zo at q;generalize oR=abm at q ⊢;rw[show B8=[]from rfl];rcases q with⟨σ',h1,p,a,b,_,rfl⟩|⟨d,h1,rfl⟩
 .refine#[W,?_];erw[cZ];rw[h1];erw[]
 .refine#[B,?_];erw[cZ];rw[h1];erw[]
def vt(n:Nat)(x:R D):Prop:=x=.ok .non\/∃l:M J,zl l=n/\x=.ok (.lst W (l.map D.int))
def D8(n:Nat)(od:M J)(fo:M (abM J)):Prop:=zl fo=n/\∀j:Nat,j<n->(j:J)∉od->∃v,fo[j]?=L (L v)
def OH(l:M (abM J)):jF (l.map oD)=W:=by
 induction l with
 |nil=>rfl
 |cons x r ih=>
  show(nC (oD x)&&jF (r.map oD))=W;rw[ih];cases x<;>rfl
def D8.all{n:Nat}{fo:M (abM J)}(h:D8 n [] fo):∃l:M J,zl l=n/\fo.map oD=l.map D.int:=by
 let#[h1,h2]:=h;refine#[fo.map λo=>o.getD 0,by simpa using h1,?_];rw[bK];refine gJ λo ho=>?_;let#[j,hj,e]:=gI ho;let#[v,hv]:=h2 j (by lia) aD;rw[aq hj,e]at hv;have:=cB hv;subst this;rfl
def D8.set{n:Nat}{o:Nat}{tl:M J}{fo:M (abM J)}(h:D8 n ((o:J)::tl) fo)(p:J):D8 n tl (fo.set o (L p)):=by
 refine#[by rw[jS];exact h.1,λj hj hn=>?_];by_cases c:j=o
 .subst c;exact#[p,by rw[qO (by rw[h.1];exact hj)]]
 .rw[fQ (gf c)];refine h.2 j hj λz=>?_;rcases be.mp z with z|z
  .lia
  .exact hn z
abbrev GF(m:M D->R D):M PG:=[.fn o9 [],.jO 36 nj,.fn o_ [],.fm m,.fn kQ []]
abbrev fS(rd ry cl ch od:D)(fo:M (abM J))(a b c:abM D):br:=[L rd,L ry,L cl,L ch,L od,L (.lst W (fo.map oD)),a,b,c]
section
variable(ks:M (Str×Str)) (r:lR) (hr:u0 ks r) (y:Ry) (hy:tH y) (cl:M (M J×M J)) (ch:M (M J)) (n:Nat) (hn:n=zl r.ps)
include hr hy hn
theorem ff_b(m:M D->R D)(o:Nat)(ho:o<n)(tl:M J)(htl:zl tl<=6)(hm:∀fo,D8 n tl fo->vt n (m [bF B r,d8 y,.lst B (cl.map (fJ B)),.lst B (ch.map (cC B)),.lst B (tl.map D.int),.lst W (fo.map oD)]))(fo:M (abM J))(hf:D8 n ((o:J)::tl) fo)(p:J)(b c:abM D):(∃b' c',b9 (GF m) 1000 jf (fS (bF B r) (d8 y) (.lst B (cl.map (fJ B))) (.lst B (ch.map (cC B))) (.lst B (((o:J)::tl).map D.int)) fo (L (.int p)) b c)=.nx (fS (bF B r) (d8 y) (.lst B (cl.map (fJ B))) (.lst B (ch.map (cC B))) (.lst B (((o:J)::tl).map D.int)) fo (L (.int p)) b' c'))
   \/ ∃l:M J,zl l=n/\b9 (GF m) 1000 jf (fS (bF B r) (d8 y) (.lst B (cl.map (fJ B))) (.lst B (ch.map (cC B))) (.lst B (((o:J)::tl).map D.int)) fo (L (.int p)) b c)=.rt (.lst W (l.map D.int)):=by
 have hs:=szl;have fry:=tL hy;have ajo:=afl (O:=GF m) (g:=1) rfl hy;have ast:=afm (O:=GF m) (g:=1) rfl y;have hf2:=hf.set p;let#[b1,q1]:=abc n r.js (λj h=>by rw[hn];exact hr.j j h) y.jk y.jv hy.jv (fo.set o (L p)) hf2.1;let#[b2,q2]:=abe n r.st (λs h=>by rw[hn];exact hr.s s h) y.st hy.s (fo.set o (L p)) hf2.1;have hm2:=hm _ hf2;have fjo:bq (.bS B y.jk y.jv)=.bS B y.jk y.jv:=by show D.bS B y.jk (aA _)=_;rw[r6 hy.jv]
 have ff:=uH B r;have i2:iY (bF B r) (.int 2)=.ok (.lst B (r.js.map jD)):=by
  unfold iY;simp only[Dd];show R.ok (D.lst B (aA _))=_;rw[eK]
 have i4:iY (bF B r) (.int 4)=.ok (.lst B (r.st.map sD)):=by
  unfold iY;simp only[De];show R.ok (D.lst B (aA _))=_;rw[cZ]
 have fj:bq (.lst B (r.js.map jD))=.lst B (r.js.map jD):=by show D.lst B (aA _)=_;rw[eK]
 have fs:bq (.lst B (r.st.map sD))=.lst B (r.st.map sD):=by show D.lst B (aA _)=_;rw[cZ]
 have fs2:bq (.lst B (y.st.map sD))=.lst B (y.st.map sD):=by show D.lst B (aA _)=_;rw[cZ]
 have fcl:bq (.lst B (cl.map (fJ B)))=.lst B (cl.map (fJ B)):=by show D.lst B (aA _)=_;rw[nW]
 have fch:bq (.lst B (ch.map (cC B)))=.lst B (ch.map (cC B)):=by show D.lst B (aA _)=_;rw[j9]
 have nin:gE .NotIn (.int p) (.lst B (fo.map oD))=.ok (.bl (!memD (.int p) (fo.map oD))):=qE rfl (T9 fo);have o0:dj (((o:J)::tl).map D.int) 0=L (.int (o:J)):=lC (j:=0) rfl;have put:putIn (.lst W (fo.map oD)) (.int p) (.int (o:J))=L (.lst W ((fo.set o (L p)).map oD)):=by
  show(iU (zl (fo.map oD)) (o:J)).map _=_;rw[Ig (by rw[aa,hf.1];exact ho),CQ];rfl
 have ct:cut (D.int (o:J)::tl.map D.int) (L 1) S=tl.map D.int:=rN (((o:J)::tl).map D.int) 1;generalize D.bS B y.jk y.jv=jj at ajo q1 fjo;generalize D.lst B (y.st.map sD)=ys at ast q2 fs2;generalize D.lst B (r.js.map jD)=rj at i2 q1 fj;generalize D.lst B (r.st.map sD)=rs at i4 q2 fs;generalize D.lst B (cl.map (fJ B))=cld at hm2 fcl ⊢;generalize D.lst B (ch.map (cC B))=chd at hm2 fch ⊢;generalize d8 y=ry at fry ajo ast hm2 ⊢;generalize bF B r=rd at ff i2 i4 hm2 ⊢;unfold jf;cases c0:memD (.int p) (fo.map oD)with
 |true=>
  rw[c0]at nin;refine .inl #[b,c,?_];unfold fS;erw[jL,nin,e_]
 |false=>
  rw[c0]at nin;have at0:∀(x:D) (l:M D),dj (x::l) 0=L x:=λx l=>lC (j:=0) rfl;have hP:∀(rr:cF),b9 (GF m) 1000 (.cons (.asg (.name 7) (.blt .list (.cons (.var 5) .nil))) (.cons (.asg (.sub (.var 7) (.ix (.var 4) (.con (.int 0)))) (.var 6)) rr)) (fS rd ry cld chd (.lst B (((o:J)::tl).map D.int)) fo (L (.int p)) b c)=b9 (GF m) 1000 rr (fS rd ry cld chd (.lst B (((o:J)::tl).map D.int)) fo (L (.int p)) (L (.lst W ((fo.set o (L p)).map oD))) c):=λrr=>by
   unfold fS;erw[jL,QH,b_,at0];rw[iu rfl rfl put];erw[]
  have hI:b9 (GF m) 1000 (.cons (.ifs (.cmp .NotIn (.var 6) (.var 5)) (.cons (.asg (.name 7) (.blt .list (.cons (.var 5) .nil))) (.cons (.asg (.sub (.var 7) (.ix (.var 4) (.con (.int 0)))) (.var 6)) Ga)) .nil) .nil) (fS rd ry cld chd (.lst B (((o:J)::tl).map D.int)) fo (L (.int p)) b c)=HV (b9 (GF m) 1000 Ga (fS rd ry cld chd (.lst B (((o:J)::tl).map D.int)) fo (L (.int p)) (L (.lst W ((fo.set o (L p)).map oD))) c)) (b9 (GF m) 1000 .nil):=by
   rw[<-hP Ga];generalize Ga=rr;unfold fS;rw[dY];congr 1;show(pT _ _ _).bA _=_;erw[jL,nin,eX]
  have hQ:b9 (GF m) 1000 (.cons (.ifs (.cmp .NotIn (.var 6) (.var 5)) (.cons (.asg (.name 7) (.blt .list (.cons (.var 5) .nil))) (.cons (.asg (.sub (.var 7) (.ix (.var 4) (.con (.int 0)))) (.var 6)) Ga)) .nil) .nil) (fS rd ry cld chd (.lst B (((o:J)::tl).map D.int)) fo (L (.int p)) b c)=_:=hI;show(∃b' c',b9 (GF m) 1000 (.cons (.ifs (.cmp .NotIn (.var 6) (.var 5)) (.cons (.asg (.name 7) (.blt .list (.cons (.var 5) .nil))) (.cons (.asg (.sub (.var 7) (.ix (.var 4) (.con (.int 0)))) (.var 6)) Ga)) .nil) .nil) (fS rd ry cld chd (.lst B (((o:J)::tl).map D.int)) fo (L (.int p)) b c)=_)\/∃l:M J,zl l=n/\b9 (GF m) 1000 (.cons (.ifs (.cmp .NotIn (.var 6) (.var 5)) (.cons (.asg (.name 7) (.blt .list (.cons (.var 5) .nil))) (.cons (.asg (.sub (.var 7) (.ix (.var 4) (.con (.int 0)))) (.var 6)) Ga)) .nil) .nil) (fS rd ry cld chd (.lst B (((o:J)::tl).map D.int)) fo (L (.int p)) b c)=_;rw[hI];have f7:aA ((fo.set o (L p)).map oD)=(fo.set o (L p)).map oD:=jL _;have fl7:=OH (fo.set o (L p));generalize(fo.set o (L p)).map oD=m7 at q1 q2 hm2 f7 fl7 ⊢;unfold Ga fS;cases b1 with
  |false=>
   refine .inl #[L (.lst W m7),c,?_];erw[ff,i2,fj,fry,ajo,fjo,f7,q1]
  |true=>
   cases b2 with
   |false=>
    refine .inl #[L (.lst W m7),c,?_];erw[ff,i2,i4,fj,fs,fs2,fry,ajo,ast,fjo,f7,q1,q2]
   |true=>
    rcases hm2 with h0|⟨l,l1,h0⟩
    .refine .inl #[S,L .non,?_];erw[ff,i2,i4,fj,fs,fs2,fry,ajo,ast,fjo,f7,q1,q2];rw[Ac (k:=7) (es:=m7) (bs:=.cons (.var 0) (.cons (.var 1) (.cons (.var 2) (.cons (.var 3) (.cons (.sl (.var 4) (.some (.con (.int 1))) .none) .nil))))) rfl rfl fl7];erw[ff,fry,fcl,fch,b_,ct,h0,jJ,dm,e_]
    .refine .inr #[l,l1,?_];erw[ff,i2,i4,fj,fs,fs2,fry,ajo,ast,fjo,f7,q1,q2];rw[Ac (k:=7) (es:=m7) (bs:=.cons (.var 0) (.cons (.var 1) (.cons (.var 2) (.cons (.var 3) (.cons (.sl (.var 4) (.some (.con (.int 1))) .none) .nil))))) rfl rfl fl7];erw[ff,fry,fcl,fch,b_,ct,h0,jJ,dm,eX]
end
section
variable(ks:M (Str×Str)) (r:lR) (hr:u0 ks r) (y:Ry) (hy:tH y) (cl:M (M J×M J)) (hcl:∀c∈cl,∀i∈c.1,iZ (zl r.ps) i) (ch:M (M J)) (hch:zl ch=zl r.ps)
include hr hy hcl hch
theorem T_:∀(k:Nat) (od:M J),zl od<k->(∀i∈od,iZ (zl r.ps) i)->zl od<=6->∀fo:M (abM J),D8 (zl r.ps) od fo->
 vt (zl r.ps) (d7 k [bF B r,d8 y,.lst B (cl.map (fJ B)),.lst B (ch.map (cC B)),.lst B (od.map D.int),.lst W (fo.map oD)])
|0,od,h,_,_,_,_=>aH h (oU _)
|k+1,[],_,_,_,fo,hf=>by
 let#[b,q]:=ad2 (zl r.ps) cl hcl fo hf.1;let#[l,l1,l2]:=hf.all;have fcl:bq (.lst B (cl.map (fJ B)))=.lst B (cl.map (fJ B)):=by show D.lst B (aA _)=_;rw[nW]
 show vt _ (eW (mU (d7 k)) 1000 pR 6 kC _);unfold kC mU;have ce:gE .Eq (.lst B []) (.lst W [])=.ok (.bl W):=rfl;generalize D.lst B (cl.map (fJ B))=cld at q fcl ⊢;generalize D.lst B (ch.map (cC B))=chd;generalize d8 y=ry;generalize bF B r=rd;generalize d7 k=m;rw[gi];cases b with
 |true=>
  refine .inr #[l,l1,?_];rw[<-l2];erw[ce,fcl,jL,q]
 |false=>
  refine .inl ?_;erw[ce,fcl,jL,q]
|k+1,o::tl,h,ho,h6,fo,hf=>by
 let#[o0,o1]:=ho o aB;let#[o,rfl]:=ju o0;have o1:o<zl r.ps:=by have:(o:J)<(zl r.ps:J):=o1;lia
 have hm:∀fo,D8 (zl r.ps) tl fo->vt (zl r.ps) (d7 k [bF B r,d8 y,.lst B (cl.map (fJ B)),.lst B (ch.map (cC B)),.lst B (tl.map D.int),.lst W (fo.map oD)]):=λfo hf=>T_ k tl (by simp at h;omega) (λi hi=>ho i (ao _ hi)) (by simp at h6;omega) fo hf;have hco:o<zl ch:=by lia
 have ea:dj (ch.map (cC B)) (o:J)=L (cC B ch[o]):=lC (by rw[bg,aq hco];rfl);generalize ch[o]=c at ea;have ix:iY (.lst B (ch.map (cC B))) (.int (o:J))=.ok (.lst B (c.map D.int)):=by
  unfold iY;simp only[ea];show R.ok (D.lst B (aA _))=_;rw[b_]
 have q:=zm (g:=pG (.name 6)) (b:=b9 (GF (d7 k)) 1000 jf) D.int (λd=>∃l:M J,zl l=zl r.ps/\d=.lst W (l.map D.int)) c (λU=>∃a b c,U=fS (bF B r) (d8 y) (.lst B (cl.map (fJ B))) (.lst B (ch.map (cC B))) (.lst B (((o:J)::tl).map D.int)) fo a b c) (by
  rintro p _ U ⟨a,b,c',rfl⟩;refine#[fS (bF B r) (d8 y) (.lst B (cl.map (fJ B))) (.lst B (ch.map (cC B))) (.lst B (((o:J)::tl).map D.int)) fo (L (.int p)) b c',rfl,?_];rcases ff_b ks r hr y hy cl ch (zl r.ps) rfl (d7 k) o o1 tl (by simp at h6;omega) hm fo hf p b c' with⟨b',c2,e⟩|⟨l,l1,e⟩
  .exact .inl #[_,.inl e,_,_,_,rfl]
  .exact .inr #[_,e,l,l1,rfl]) (fS (bF B r) (d8 y) (.lst B (cl.map (fJ B))) (.lst B (ch.map (cC B))) (.lst B (((o:J)::tl).map D.int)) fo S S S) #[_,_,_,rfl]
 show vt _ (eW (mU (d7 k)) 1000 pR 6 kC _);unfold kC;rw[show mU (d7 k)=GF (d7 k)from rfl];have fch:bq (.lst B (ch.map (cC B)))=.lst B (ch.map (cC B)):=by show D.lst B (aA _)=_;rw[j9]
 have ce:gE .Eq (.lst B (D.int (o:J)::tl.map D.int)) (.lst W [])=.ok (.bl B):=T7 ((o:J)::tl);have at0:∀(x:D) (l:M D),dj (x::l) 0=L x:=λx l=>lC (j:=0) rfl;unfold fS at q;rw[bJ]at q;show vt _ (eW _ _ _ _ _ [bF B r,d8 y,.lst B (cl.map (fJ B)),.lst B (ch.map (cC B)),.lst B (D.int (o:J)::tl.map D.int),.lst W (fo.map oD)]);generalize jf=abm at q ⊢;generalize D.lst B (cl.map (fJ B))=cld at q ⊢;generalize D.lst B (ch.map (cC B))=chd at q fch ix ⊢;generalize d8 y=ry at q ⊢;generalize bF B r=rd at q ⊢;generalize d7 k=m at q ⊢;rcases q with⟨σ',h1,a,b,c',rfl⟩|⟨d,h1,l,l1,rfl⟩
 .refine .inl ?_;erw[b_,ce,fch,at0,ix];rw[h1];erw[]
 .refine .inr #[l,l1,?_];erw[b_,ce,fch,at0,ix];rw[h1];erw[]
end
def MR{U:br}{k j:Nat}{i:J}{n:Nat}{ws:M J}(h1:U[k]?=L (L (.lst W (ws.map D.int))))(h2:U[j]?=L (L (.int i)))(hl:zl ws=n)(hi:iZ n i):∃ws':M J,zl ws'=n/\HQ k 1 U U[k]? U[j]?=.nx (U.set k (L (.lst W (ws'.map D.int)))):=by
 let#[p,rfl]:=ju hi.1;have hp:p<zl ws:=by have:(p:J)<(n:J):=hi.2;lia
 refine#[ws.set p (ws[p]+1),by rw[jS];exact hl,?_];rw[h1,h2];unfold HQ;simp only[Ig (show p<zl (ws.map D.int) by rw[aa];exact hp),bg,aq hp,Hf,CQ]
abbrev Ci:M PG:=[.lam,.fm pV]
noncomputable abbrev sS(rd ry cl ch:D)(ws:M J)(a b c d:abM D):br:=[L rd,L ry,L cl,L ch,L (.lst W (ws.map D.int)),a,b,c,d]
def so_1(n:Nat)(js:M J3)(hj:∀j∈js,OB n j)(rd ry cl ch:D)(ws:M J)(hw:zl ws=n):∃(ws':M J) (a b c:abM D),zl ws'=n /\
  forR (pG (.tup (.cons (.name 5) (.cons (.name 6) (.cons (.name 7) .nil))))) (b9 Ci 1000 j5) (js.map jD) (sS rd ry cl ch ws S S S S)=.nx (sS rd ry cl ch ws' a b c S):=by
 let#[σ',h1,ws',a,b,c,l1,rfl]:=K2.lQ (g:=pG (.tup (.cons (.name 5) (.cons (.name 6) (.cons (.name 7) .nil))))) (b:=b9 Ci 1000 j5) jD js
  (λpre U=>∃(ws:M J) (a b c:abM D),zl ws=n/\U=sS rd ry cl ch ws a b c S) (by
  rintro pre ⟨s,i,j⟩ post e U ⟨ws,a,b,c,l1,rfl⟩;let#[h1,h2]:=hj (s,i,j) (by rw[e];simp);let#[w1,l2,q1]:=MR (U:=sS rd ry cl ch ws (L (.str s)) (L (.int i)) (L (.int j)) S) (k:=4) (j:=6) rfl rfl l1 h1;let#[w2,l3,q2]:=MR (U:=sS rd ry cl ch w1 (L (.str s)) (L (.int i)) (L (.int j)) S) (k:=4) (j:=7) rfl rfl l2 h2;refine#[sS rd ry cl ch ws (L (.str s)) (L (.int i)) (L (.int j)) S,sS rd ry cl ch w2 (L (.str s)) (L (.int i)) (L (.int j)) S,rfl,?_,w2,_,_,_,l3,rfl];unfold j5;rw[dY,Ab,q1];show b9 Ci 1000 _ (sS rd ry cl ch w1 (L (.str s)) (L (.int i)) (L (.int j)) S)=_;rw[dY,Ab,q2];rfl) _ #[ws,_,_,_,hw,rfl]
 exact#[ws',a,b,c,l1,h1]
def so_2(n:Nat)(st:M (Str×J))(hs:∀s∈st,iZ n s.2)(rd ry cl ch:D)(ws:M J)(hw:zl ws=n)(a b c:abM D):∃(ws':M J) (a' b':abM D),zl ws'=n /\
  forR (pG (.tup (.cons (.name 5) (.cons (.name 6) .nil)))) (b9 Ci 1000 j0) (st.map sD) (sS rd ry cl ch ws a b c S)=.nx (sS rd ry cl ch ws' a' b' c S):=by
 let#[σ',h1,ws',a',b',l1,rfl]:=K2.lQ (g:=pG (.tup (.cons (.name 5) (.cons (.name 6) .nil)))) (b:=b9 Ci 1000 j0) sD st
  (λpre U=>∃(ws:M J) (a b:abM D),zl ws=n/\U=sS rd ry cl ch ws a b c S) (by
  rintro pre ⟨s,i⟩ post e U ⟨ws,a,b,l1,rfl⟩;have h1:=hs (s,i) (by rw[e];simp);let#[w1,l2,q1]:=MR (U:=sS rd ry cl ch ws (L (.str s)) (L (.int i)) c S) (k:=4) (j:=6) rfl rfl l1 h1;refine#[sS rd ry cl ch ws (L (.str s)) (L (.int i)) c S,sS rd ry cl ch w1 (L (.str s)) (L (.int i)) c S,rfl,?_,w1,_,_,l2,rfl];unfold j0;rw[dY,Ab,q1];rfl) _ #[ws,_,_,hw,rfl]
 exact#[ws',a',b',l1,h1]
theorem OJ{m:br->R D}{cs:br}{n:Nat}(h:∀i:Nat,i<n->∃a b:J,m (L (.int (i:J))::cs)=.ok (.tup [.int a,.int b])):∀(k i:Nat),i+k=n->∃kss:M (M Key),zl kss=k/\(∀q∈kss,∃a b:J,q=[.inl a,.inl b])/\xR m cs k i=.ok kss
|0,i,_=>#[[],rfl,λ_ h=>aH h aD,rfl]
|k+1,i,e=>by
 let#[a,b,q]:=h i (by lia);let#[kss,g1,g2,g3]:=OJ h k (i+1) (by lia);refine#[[.inl a,.inl b]::kss,by simp[g1],λx hx=>?_,?_]
 .rcases be.mp hx with z|z
  .exact#[a,b,z]
  .exact g2 x z
 .show(m _).bind _=_;rw[q,o8,(show L3.iP (.tup [.int a,.int b])=L [.inl a,.inl b]from rfl),yz,o8,g3,o8]
def ad3{kss:M (M Key)}:Od (zl kss) ((dX kss).map λ(i:Nat)=>(i:J)):=by
 have hp:=MN (zl kss) (vG kss);refine#[by rw[aa];exact n6 _ _,λi hi=>?_,λk hk=>?_]
 .obtain⟨j,hj,rfl⟩:=ck.mp hi;have:=OC j hj;exact#[by lia,by lia]
 .exact ck.mpr #[k,(hp.mem_iff).mpr (gc.mpr hk),rfl]
section
variable(ks:M (Str×Str)) (r:lR) (hr:u0 ks r) (y:Ry) (hy:tH y) (cl:M (M J×M J)) (hcl:∀c∈cl,∀i∈c.1,iZ (zl r.ps) i) (ch:M (M J)) (hch:zl ch=zl r.ps)
include hr hy hcl hch
theorem ad4:vt (zl r.ps) (mV [bF B r,d8 y,.lst B (cl.map (fJ B)),.lst B (ch.map (cC B))]):=by
 have hs:=szl;have p4:=hr.p.1;have q0:dS (pG (.name 0)) (λ_=>.ok W) (pE Ci (.con (.int 0))) (ch.map (cC B)) [S]=.ok ((aR (zl ch) (0:J)).map D.int):=by
  rw[CT,<-Hg];exact kB (cC B) (λU=>∃o,U=[o]) (λ_=>D.int 0) ch _ #[_,rfl] (by
   rintro c _ U ⟨o,rfl⟩;exact#[[L (cC B c)],rfl,#[_,rfl],rfl])
 have qn:dS (pG (.name 0)) (λ_=>.ok W) (pE Ci (.con .non)) (ch.map (cC B)) [S]=.ok ((aR (zl ch) (S:abM J)).map oD):=by
  rw[CT,<-Hg];exact kB (cC B) (λU=>∃o,U=[o]) (λ_=>D.non) ch _ #[_,rfl] (by
   rintro c _ U ⟨o,rfl⟩;exact#[[L (cC B c)],rfl,#[_,rfl],rfl])
 let#[w1,a1,b1,c1,l1,h1]:=so_1 (zl r.ps) r.js hr.j (bF B r) (d8 y) (.lst B (cl.map (fJ B))) (.lst B (ch.map (cC B))) (aR (zl ch) (0:J)) (by rw[jR];exact hch);let#[w2,a2,b2,l2,h2]:=so_2 (zl r.ps) r.st hr.s (bF B r) (d8 y) (.lst B (cl.map (fJ B))) (.lst B (ch.map (cC B))) w1 l1 a1 b1 c1;let#[kss,k1,k2,k3]:=OJ (m:=pE Ci (.tup (.cons (.blt .min (.cons (.blt .len (.cons (.ix (.var 1) (.var 0)) .nil)) (.cons (.con (.int 2)) .nil))) (.cons (.neg (.ix (.var 2) (.var 0))) .nil)))) (cs:=[L (.lst B (ch.map (cC B))),L (.lst W (w2.map D.int))]) (by
  intro i hi;have ea:dj (ch.map (cC B)) (i:J)=L (cC B ch[i]):=lC (by rw[bg,aq hi];rfl);generalize ch[i]=c at ea;let#[v,_,ev]:=zh (l:=w2) (n:=zl r.ps) l2 (i:=(i:J)) #[by lia,by lia];refine#[if(2:J)<(zl c:J)then 2 else(zl c:J),-v,?_];erw[j9,ea,b_,ev]) (zl ch) 0 (by lia)
 have sk:L2.sortable kss=W:=yG (by lia) λq hq=>by
  let#[a,b,rfl]:=k2 q hq;exact#[by simp,λq' hq'=>by let#[a',b',rfl]:=k2 q' hq';rfl]
 have od:=ad3 (kss:=kss);rw[k1,hch]at od;generalize hO:(dX kss).map (λ(i:Nat)=>(i:J))=ol at od;have eO:(L2.dX kss).map (λ(i:Nat)=>D.int (i:J))=ol.map D.int:=by rw[<-hO,bK];rfl
 have fil:D8 (zl r.ps) ol (aR (zl ch) (S:abM J)):=#[by rw[jR];exact hch,λj hj hn=>aH (od.has j hj) hn];have ff:=T_ ks r hr y hy cl hcl ch hch 7 ol (by rw[od.len];lia) od.sub (by rw[od.len];lia) _ fil;have nat:VC (.int (zl ch:J))=L (zl ch):=by
  show(if 0<=(zl ch:J)/\(zl ch:J)<64 then L (zl ch:J).toNat else S)=_;rw[aF #[by lia,by lia],fE]
 have skl:∀(n:R D),n=.ok (.int (zl ch:J))->HJ Ci 0 n (pE Ci (.tup (.cons (.blt .min (.cons (.blt .len (.cons (.ix (.var 1) (.var 0)) .nil)) (.cons (.con (.int 2)) .nil))) (.cons (.neg (.ix (.var 2) (.var 0))) .nil)))) [L (.lst B (ch.map (cC B))),L (.lst W (w2.map D.int))]=.ok (.lst W (ol.map D.int)):=by
  rintro n rfl;unfold HJ;show((R.ok (D.int (zl ch:J))).bind _)=_;rw[o8,nat,yz,o8,k3,JB,o8,sk,eO];rfl
 have fch:bq (.lst B (ch.map (cC B)))=.lst B (ch.map (cC B)):=by show D.lst B (aA _)=_;rw[j9]
 have fcl:bq (.lst B (cl.map (fJ B)))=.lst B (cl.map (fJ B)):=by show D.lst B (aA _)=_;rw[nW]
 have fry:=tL hy;have frd:bq (bF B r)=bF B r:=uH B r;have i2:iY (bF B r) (.int 2)=.ok (.lst B (r.js.map jD)):=by
  unfold iY;simp only[Dd];show R.ok (D.lst B (aA _))=_;rw[eK]
 have i4:iY (bF B r) (.int 4)=.ok (.lst B (r.st.map sD)):=by
  unfold iY;simp only[De];show R.ok (D.lst B (aA _))=_;rw[cZ]
 have lch:h_ .len [.lst B (ch.map (cC B))]=.ok (.int (zl ch:J)):=by show R.ok (D.int (zl (ch.map (cC B)):J))=_;rw[aa]
 have src:vj (.lst B (ch.map (cC B)))=.ok (ch.map (cC B)):=by show R.ok (aA _)=_;rw[j9]
 have fln:=OH (aR (zl ch) (S:abM J));unfold mV ux;rw[show zb=Ci from rfl];unfold sS at h1 h2;generalize j0=B1 at h2 ⊢;generalize j5=B2 at h1 ⊢;have ff:vt (zl r.ps) (pV [bF B r,d8 y,.lst B (cl.map (fJ B)),.lst B (ch.map (cC B)),.lst B (ol.map D.int),.lst W ((aR (zl ch) (S:abM J)).map oD)]):=ff;have ow0:aX ((aR (zl ch) (0:J)).map D.int)=W:=f9 _;have owl:aX (ol.map D.int)=W:=f9 _;have s2:vj (.lst B (r.js.map jD))=.ok (r.js.map jD):=by show R.ok (aA _)=_;rw[eK]
 have s4:vj (.lst B (r.st.map sD))=.ok (r.st.map sD):=by show R.ok (aA _)=_;rw[cZ]
 generalize hcld:D.lst B (cl.map (fJ B))=cld at h1 h2 fcl ff ⊢;generalize hrd:bF B r=rd at h1 h2 frd i2 i4 ff ⊢;generalize hry:d8 y=ry at h1 h2 fry ff ⊢;generalize hchd:D.lst B (ch.map (cC B))=chd at h1 h2 fch lch src skl ff ⊢;generalize hwn:(aR (zl ch) (S:abM J)).map oD=wn at qn fln ff ⊢;generalize hw0:(aR (zl ch) (0:J)).map D.int=w0 at q0 h1 ow0;generalize ww2:w2.map D.int=v2 at h2 skl;generalize ww1:w1.map D.int=v1 at h1 h2;rcases ff with e|⟨l,l1,e⟩
 .refine .inl ?_;erw[fch,frd,fry,fcl,src,q0,i2,i4,lch,ow0,s2,s4,eK,cZ];rw[h1];erw[fch,frd,fry,fcl,src,q0,i2,i4,lch,ow0,s2,s4,eK,cZ];rw[h2];erw[fch,frd,fry,fcl,src,q0,i2,i4,lch,ow0,s2,s4,eK,cZ];rw[skl _ rfl];erw[owl];rw[Ad (bs:=.cons (.var 0) (.cons (.var 1) (.cons (.var 2) (.cons (.var 3) (.cons (.var 8) .nil))))) (e:=.comp ["choice"] [] (.con .non) (.name 0) (.seq (.var 3)) .none) rfl];erw[fch,frd,fry,fcl,src,qn,owl,b_]
  try rw[Ae fln]
  erw[fch,frd,fry,fcl,b_,e]
 .refine .inr #[l,l1,?_];erw[fch,frd,fry,fcl,src,q0,i2,i4,lch,ow0,s2,s4,eK,cZ];rw[h1];erw[fch,frd,fry,fcl,src,q0,i2,i4,lch,ow0,s2,s4,eK,cZ];rw[h2];erw[fch,frd,fry,fcl,src,q0,i2,i4,lch,ow0,s2,s4,eK,cZ];rw[skl _ rfl];erw[owl];rw[Ad (bs:=.cons (.var 0) (.cons (.var 1) (.cons (.var 2) (.cons (.var 3) (.cons (.var 8) .nil))))) (e:=.comp ["choice"] [] (.con .non) (.name 0) (.seq (.var 3)) .none) rfl];erw[fch,frd,fry,fcl,src,qn,owl,b_]
  try rw[Ae fln]
  erw[fch,frd,fry,fcl,b_,e]
end
def abf{β:Type}{g:D->br->R br}{b:br->Fl}(enc:β->D)(xs:M β)(I:br->Prop)(h:∀x∈xs,∀U,I U->∃σ2 σ3,g (enc x) U=.ok σ2/\(b σ2=.nx σ3\/b σ2=.bk σ3)/\I σ3)(U:br)(h0:I U):∃σ',forR g b (xs.map enc) U=.nx σ'/\I σ':=by
 induction xs generalizing U with
 |nil=>exact#[U,rfl,h0]
 |cons x r ih=>
  let#[σ2,σ3,h1,h2,h3]:=h x aB U h0;have e:forR g b ((x::r).map enc) U=(match b σ2 with
   |.nx σ3=>forR g b (r.map enc) σ3
   |.ct σ3=>forR g b (r.map enc) σ3
   |.bk σ3=>.nx σ3
   |.rt d=>.rt d
   |.bad=>.bad):=by
   show(g (enc x) U).bA _=_;rw[h1];rfl
  rw[e];rcases h2 with h2|h2
  .rw[h2];exact ih (λy hy=>h y (ao _ hy)) σ3 h3
  .rw[h2];exact#[_,rfl,h3]
noncomputable abbrev JS(ms:M D->R D):M PG:=[.fn ms []]
noncomputable abbrev iS(rd ry cl ch:D)(l:M J)(i a p t lo:abM D):br:=[L rd,L ry,L cl,L ch,L (.lst W (l.map D.int)),i,a,p,t,lo]
def o_ch:∀{ch:M (M J)},ch≠[]->aX (ch.map (cC B))=B
|[],h=>aH rfl h
|_::_,_=>rfl
section
variable(n:Nat) (hn:n<=6) (rd ry cld:D) (frd:bq rd=rd) (fry:bq ry=ry) (fcl:bq cld=cld) (ch:M (M J)) (hch:zl ch=n) (ms:M D->R D) (hS:∀ch':M (M J),zl ch'=n->vt n (ms [rd,ry,cld,.lst B (ch'.map (cC B))]))
include hn frd fry fcl hch hS
theorem afo(i:Nat)(hi:i<n)(ah:M J)(ha:zl ah=i)(l:M J)(hl:zl l=n)(o:Bool)(p:J)(t lo:abM D):∃(l':M J) (o':Bool) (t' lo':abM D) ,zl l'=n/\(b9 (JS ms) 1000 iM (iS rd ry cld (.lst B (ch.map (cC B))) l (L (.int (i:J))) (L (.lst o (ah.map D.int))) (L (.int p)) t lo)=.nx (iS rd ry cld (.lst B (ch.map (cC B))) l' (L (.int (i:J))) (L (.lst o' (ah.map D.int))) (L (.int p)) t' lo')
  \/ b9 (JS ms) 1000 iM (iS rd ry cld (.lst B (ch.map (cC B))) l (L (.int (i:J))) (L (.lst o (ah.map D.int))) (L (.int p)) t lo)=.bk (iS rd ry cld (.lst B (ch.map (cC B))) l' (L (.int (i:J))) (L (.lst o' (ah.map D.int))) (L (.int p)) t' lo')):=by
 have hs:=szl;have qc:dS (pG (.name 0)) (λ_=>.ok W) (pE (JS ms) (.lst (.cons (.var 0) .nil))) (ah.map D.int) [S]=.ok ((ah.map λx=>[x]).map (cC W)):=by
  rw[bK];exact kB D.int (λU=>∃o,U=[o]) (λx=>cC W [x]) ah _ #[_,rfl] (by
   rintro x _ U ⟨o,rfl⟩;exact#[[L (.int x)],rfl,#[_,rfl],rfl])
 have fch:bq (.lst B (ch.map (cC B)))=.lst B (ch.map (cC B)):=by show D.lst B (aA _)=_;rw[j9]
 have sl:Jb (.lst B (ch.map (cC B))) (L ((i:J)+1)) S=.ok (.lst W ((ch.drop (i+1)).map (cC B))):=by
  have:=rN (ch.map (cC B)) (i+1);show R.ok (D.lst W (aA (cut _ (L ((i+1:Nat):J)) S)))=_;rw[this,<-lF,j9]
 have b1:nA .Add (.lst W ((ah.map λx=>[x]).map (cC W))) (.lst W [.lst W [.int p]])=.ok (.lst W ((ah.map λx=>[x]).map (cC B)++[cC B [p]])):=by
  rw[uX (by rw[aa,aa];simp;lia),j9];rfl
 have b2:nA .Add (.lst W ((ah.map λx=>[x]).map (cC B)++[cC B [p]])) (.lst W ((ch.drop (i+1)).map (cC B)))=.ok (.lst W ((ah.map (λx=>[x])++[[p]]++ch.drop (i+1)).map (cC B))):=by
  rw[uX (by simp;omega),(show((ah.map λx=>[x]).map (cC B)++[cC B [p]])=(ah.map (λx=>[x])++[[p]]).map (cC B)by rw[bE];rfl),j9,j9,<-bE]
 have hl':zl (ah.map (λx=>[x])++[[p]]++ch.drop (i+1))=n:=by simp;omega
 have hf:=hS _ hl';have ow:aX ((ah.map (λx=>[x])++[[p]]++ch.drop (i+1)).map (cC B))=B:=o_ch (by simp);generalize ah.map (λx=>[x])++[[p]]++ch.drop (i+1)=tr at hf ow b2;have ftr:aA (tr.map (cC B))=tr.map (cC B):=j9 _ _;generalize tr.map (cC B)=td at hf ow b2 ftr;generalize D.lst B (ch.map (cC B))=chd at fch sl ⊢;generalize(ah.map λx=>[x]).map (cC W)=t1 at qc b1;generalize(ah.map λx=>[x]).map (cC B)++[cC B [p]]=t2 at b1 b2;generalize(ch.drop (i+1)).map (cC B)=t3 at sl b2;unfold iM;rcases hf with e|⟨l',l1,e⟩
 .refine#[l,B,L (.lst W td),L .non,hl,.inl ?_];unfold iS;erw[b_,qc,b1,fch,sl,b2,ow,ftr,frd,fry,fcl,e,dm,e_,jJ]
 .refine#[l',B,L (.lst W td),S,l1,.inr ?_];unfold iS;erw[b_,qc,b1,fch,sl,b2,ow,ftr,frd,fry,fcl,e,dm,eX,jJ,f9]
theorem afp(i:Nat)(hi:i<n)(l:M J)(hl:zl l=n)(a p t lo:abM D):∃(l':M J) (a' p' t' lo':abM D),zl l'=n/\b9 (JS ms) 1000 lN (iS rd ry cld (.lst B (ch.map (cC B))) l (L (.int (i:J))) a p t lo)=.nx (iS rd ry cld (.lst B (ch.map (cC B))) l' (L (.int (i:J))) a' p' t' lo'):=by
 have hs:=szl;have fch:bq (.lst B (ch.map (cC B)))=.lst B (ch.map (cC B)):=by show D.lst B (aA _)=_;rw[j9]
 have hco:i<zl ch:=by lia
 have ea:dj (ch.map (cC B)) (i:J)=L (cC B ch[i]):=lC (by rw[bg,aq hco];rfl);generalize ch[i]=c at ea;have ix:iY (.lst B (ch.map (cC B))) (.int (i:J))=.ok (.lst B (c.map D.int)):=by
  unfold iY;simp only[ea];show R.ok (D.lst B (aA _))=_;rw[b_]
 have sl:cut (l.map D.int) S (L (i:J))=(l.take i).map D.int:=by
  rw[rM (l.map D.int) i,lE]
 have hah:zl (l.take i)=i:=by grind
 generalize l.take i=ah at sl hah;let#[v,_,ev]:=zh hl (i:=(i:J)) #[by lia,by lia];let#[ys,y1,y2,y3,y4]:=tG (g:=pG (.name 0)) (c:=pT (JS ms) (.and (.cmp .Lt (.var 0) (.ix (.var 1) (.var 2))) (.cmp .NotIn (.var 0) (.var 3)))) (e:=pE (JS ms) (.var 0)) D.int (λU=>∃o,U=[o,L (.lst W (l.map D.int)),L (.int (i:J)),L (.lst W (ah.map D.int))]) (λ_ _=>True) D.int c [S,L (.lst W (l.map D.int)),L (.int (i:J)),L (.lst W (ah.map D.int))] #[_,rfl] (by
  rintro x _ U ⟨o,rfl⟩;have nn:=Ii ah;have e:gE .NotIn (.int x) (.lst B (ah.map D.int))=.ok (.bl (!memD (.int x) (ah.map D.int))):=qE rfl nn;by_cases h:x<v
  .refine#[[L (.int x),L (.lst W (l.map D.int)),L (.int (i:J)),L (.lst W (ah.map D.int))],!memD (.int x) (ah.map D.int),rfl,#[_,rfl],?_,trivial,?_]
   .erw[b_,ev,h,NS,eF,e]
   .erw[]
  .refine#[[L (.int x),L (.lst W (l.map D.int)),L (.int (i:J)),L (.lst W (ah.map D.int))],B,rfl,#[_,rfl],?_,trivial,?_]
   .erw[b_,ev,h,pJ]
   .erw[])
 let#[σ',h1,l',o',p',t',lo',l1,rfl]:=abf (g:=pG (.name 7)) (b:=b9 (JS ms) 1000 iM) D.int ys
  (λU=>∃(l':M J) (o':Bool) (p' t' lo':abM D),zl l'=n/\U=iS rd ry cld (.lst B (ch.map (cC B))) l' (L (.int (i:J))) (L (.lst o' (ah.map D.int))) p' t' lo') (by
  rintro x _ U ⟨l',o',p',t',lo',l1,rfl⟩;let#[l2,o2,t2,lo2,g1,g2]:=afo n hn rd ry cld frd fry fcl ch hch ms hS i hi ah hah l' l1 o' x t' lo';exact#[_,_,rfl,g2,l2,o2,_,t2,lo2,g1,rfl]) (iS rd ry cld (.lst B (ch.map (cC B))) l (L (.int (i:J))) (L (.lst W (ah.map D.int))) p t lo) #[l,W,p,t,lo,hl,rfl]
 refine#[l',L (.lst o' (ah.map D.int)),p',t',lo',l1,?_];unfold lN;unfold iS at h1 ⊢;generalize iM=abm at h1 ⊢;generalize D.lst B (ch.map (cC B))=chd at fch ix h1 ⊢;erw[b_,sl,f9,fch,ix,y1];rw[h1];erw[]
theorem ad5:vt n (eW (JS ms) 1000 tw 4 oN [rd,ry,cld,.lst B (ch.map (cC B))]):=by
 have hs:=szl;have fch:bq (.lst B (ch.map (cC B)))=.lst B (ch.map (cC B)):=by show D.lst B (aA _)=_;rw[j9]
 have lch:h_ .len [.lst B (ch.map (cC B))]=.ok (.int (zl ch:J)):=by show R.ok (D.int (zl (ch.map (cC B)):J))=_;rw[aa]
 have e0:=hS ch hch;unfold oN;rcases e0 with e|⟨l,l1,e⟩
 .refine .inl ?_;generalize D.lst B (ch.map (cC B))=chd at fch e ⊢;erw[fch,frd,fry,fcl,e,dm]
 .obtain⟨σ',h1,l',i',a',p',t',lo',g1,rfl⟩:=nG (g:=pG (.name 5)) (zl ch)
   (λ_ U=>∃(l':M J) (i' a' p' t' lo':abM D),zl l'=n/\U=iS rd ry cld (.lst B (ch.map (cC B))) l' i' a' p' t' lo') (by
   rintro k hk U ⟨l',i',a',p',t',lo',g1,rfl⟩;let#[l2,a2,p2,t2,lo2,g2,g3]:=afp n hn rd ry cld frd fry fcl ch hch ms hS k (by lia) l' g1 a' p' t' lo';exact#[_,_,rfl,g3,l2,_,a2,p2,t2,lo2,g2,rfl]) (iS rd ry cld (.lst B (ch.map (cC B))) l S S S S S) #[l,S,S,S,S,S,l1,rfl]
  refine .inr #[l',g1,?_];generalize lN=abm at h1 ⊢;generalize D.lst B (ch.map (cC B))=chd at fch lch e h1 ⊢;erw[fch,frd,fry,fcl,e,dm,f9,lch,fE];rw[h1];erw[]
end
def abg(ks:M (Str×Str))(r:lR)(hr:u0 ks r)(y:Ry)(hy:tH y)(cl:M (M J×M J))(hcl:∀c∈cl,∀i∈c.1,iZ (zl r.ps) i)(ch:M (M J))(hch:zl ch=zl r.ps):vt (zl r.ps) (oS [bF B r,d8 y,.lst B (cl.map (fJ B)),.lst B (ch.map (cC B))]):=by
 have fcl:bq (.lst B (cl.map (fJ B)))=.lst B (cl.map (fJ B)):=by show D.lst B (aA _)=_;rw[nW]
 exact ad5 (zl r.ps) (cH hr.p.1 (by lia)) _ _ _ (uH B r) (tL hy) fcl ch hch mV λch' h'=>ad4 ks r hr y hy cl hcl ch' h'
abbrev OL:M PG:=[.fn oS [],.fn mW [],.fn jW [],.jO 36 nj]
def KZ(l:M (M J×M J)):aX (l.map (fJ W))=W:=by
 induction l with
 |nil=>rfl
 |cons x r ih=>
  show((aX (x.1.map D.int)&&((W&&aX (x.2.map D.int))&&W))&&aX (r.map (fJ W)))=W;rw[f9,f9,ih];rfl
section
variable(ks:M (Str×Str)) (r:lR) (hr:u0 ks r) (y:Ry) (hy:tH y)
include hr hy
theorem afq:∃cl:M (M J×M J),(∀c∈cl,∀i∈c.1,iZ (zl r.ps) i)/\zl cl<=3 /\
  dS (pG (.tup (.cons (.name 0) (.cons (.name 1) .nil)))) (λ_=>.ok W) (pE OL (.tup (.cons (.var 1) (.cons (.call 2 (.cons (.att 3 (.var 2) "uppers") (.cons (.var 0) .nil))) .nil)))) (r.cl.map cD) [S,S,L (d8 y)]=.ok (cl.map (fJ W)):=by
 let#[ys,y1,y2,y3]:=ia (g:=pG (.tup (.cons (.name 0) (.cons (.name 1) .nil)))) (e:=pE OL (.tup (.cons (.var 1) (.cons (.call 2 (.cons (.att 3 (.var 2) "uppers") (.cons (.var 0) .nil))) .nil)))) cD (λU=>∃a b,U=[a,b,L (d8 y)]) (λd=>∃c:M J×M J,(∀i∈c.1,iZ (zl r.ps) i)/\d=fJ W c) r.cl [S,S,L (d8 y)] #[_,_,rfl] (by
  rintro⟨told,nums⟩ hm U ⟨a,b,rfl⟩;let#[l,l1,l2,qu]:=OG y.up (by rw[<-hy.l];exact hy.l7) told;refine#[[L (tS told),L (tI nums),L (d8 y)],fJ W (nums,l),rfl,#[_,_,rfl],?_,#[(nums,l),hr.c _ hm,rfl]];have hs:=szl;have au:=YV (O:=OL) (g:=3) rfl y;have fu:aA (y.up.map (qK B))=y.up.map (qK B):=zj _ _;have fry:=tL hy;generalize d8 y=ry at au fry ⊢;erw[fry,au,fu,cg,b_,qu])
 let#[cl,rfl,h]:=typed y3;exact#[cl,h,by rw[aa]at y2;rw[y2];exact hr.c3,y1]
theorem abh:vt (zl r.ps) (gK [bF B r,d8 y]):=by
 have hs:=szl;let#[cl,c1,c2,q1]:=afq ks r hr y hy;let#[bs,b1,b2,b3]:=ia (g:=pG (.tup (.cons (.name 0) (.cons (.name 1) .nil)))) (e:=pE OL (.cmp .Gt (.blt .len (.cons (.var 1) .nil)) (.blt .len (.cons (.var 0) .nil)))) (fJ B) (λU=>∃a b,U=[a,b]) (λd=>lK d=W) cl [S,S] #[_,_,rfl] (by
  rintro⟨nums,iR⟩ _ U ⟨a,b,rfl⟩;refine#[[L (tI nums),L (.lst B (iR.map D.int))],.bl (decide ((zl iR:J)>(zl nums:J))),rfl,#[_,_,rfl],?_,rfl];erw[b_,aa])
 have ba:=bz.mpr b3;have asz:=YU (O:=OL) (g:=3) rfl y;have fry:=tL hy;have frd:=uH B r;have i0:iY (bF B r) (.int 0)=.ok (.lst B (r.ps.map tS)):=by
  unfold iY;simp only[GH];show R.ok (D.lst B (aA _))=_;rw[gW]
 have i1:iY (bF B r) (.int 1)=.ok (.lst B (r.cl.map cD)):=by
  unfold iY;simp only[(show ∀a b c d e:D,dj [a,b,c,d,e] 1=L b from λ_ _ _ _ _=>rfl)];show R.ok (D.lst B (aA _))=_;rw[lS]
 have fsz:bq (.lst B (y.sz.map (pe B)))=.lst B (y.sz.map (pe B)):=by show D.lst B (aA _)=_;rw[GK]
 have lsz:h_ .len [.lst B (y.sz.map (pe B))]=.ok (.int (zl y.sz:J)):=by show R.ok (D.int (zl (y.sz.map (pe B)):J))=_;rw[aa]
 have hch:=T8 ks r hr y hy cl;have hff:=abg ks r hr y hy cl c1;unfold gK tu;rw[show xV=OL from rfl];generalize D.lst B (y.sz.map (pe B))=szd at asz fsz lsz;generalize d8 y=ry at asz fry q1 hch hff ⊢;generalize bF B r=rd at frd i0 i1 hch hff ⊢;by_cases hg:(zl r.ps:J)>(zl y.sz:J)
 .refine .inl ?_;erw[frd,i0,fry,asz,fsz,lsz,aa,hg,NS,eF]
 cases hb:bs.any qX with
 |true=>
  refine .inl ?_;erw[frd,i0,i1,fry,asz,fsz,lsz,aa,hg,pJ,lS,gW,q1,KZ,b1,ba,hb,nW]
 |false=>
  rcases hch with e|⟨ch,h1,h2,e⟩
  .refine .inl ?_;erw[frd,i0,i1,fry,asz,fsz,lsz,aa,hg,pJ,lS,gW,q1,KZ,b1,ba,hb,nW,e,dm]
  .rcases hff ch h1 with e2|⟨l,l1,e2⟩
   .refine .inl ?_;erw[frd,i0,i1,fry,asz,fsz,lsz,aa,hg,pJ,lS,gW,q1,KZ,b1,ba,hb,nW,e,dm,YX,j9,e2]
   .refine .inr #[l,l1,?_];erw[frd,i0,i1,fry,asz,fsz,lsz,aa,hg,pJ,lS,gW,q1,KZ,b1,ba,hb,nW,e,dm,YX,j9,e2]
end
mutual
theorem YY:∀(d:D) (n:Nat),fU d n=W->gT d d=W
|.non,_,_=>rfl
|.bl b,_,_=>by simp[gT]
|.int b,_,_=>by simp[gT]
|.str b,_,_=>by simp[gT]
|.lst _ xs,0,h=>by simp[fU]at h
|.lst _ xs,n+1,h=>by simp[gT];exact GL xs n (by simpa[fU]using h)
|.tup xs,0,h=>by simp[fU]at h
|.tup xs,n+1,h=>by simp[gT];exact GL xs n (by simpa[fU]using h)
|.bS _ _ _,_,h=>by simp[fU]at h
|.obj _ _ _ _,_,h=>by simp[fU]at h
theorem GL:∀(ds:M D) (n:Nat),cU ds n=W->nq ds ds=W
|[],_,_=>rfl
|d::r,n,h=>by
 have h:fU d n=W/\cU r n=W:=by simpa[cU]using h
 simp[nq,YY d n h.1,GL r n h.2]
end
theorem lT{β:Type}(f:β->D)(n:Nat):∀l:M β,(∀x,fU (f x) n=W)->cU (l.map f) n=W
|[],_=>by simp[cU]
|x::r,h=>by simp[cU,h x,lT f n r h]
def OM(l:M Str)(n:Nat):cU (l.map D.str) n=W:=lT _ _ _ λ_=>by simp[fU]
def Ij(l:M J)(n:Nat):cU (l.map D.int) n=W:=lT _ _ _ λ_=>by simp[fU]
def abi(ks:M (Str×Str))(rs:M lR)(t:Th):dP (.tup [.lst B (cG ks),.lst B (rs.map (bF B)),mY t])=W:=by
 have h1:=λn=>lT AL (n+1) ks λ_=>by rfl
 have h2:∀n,cU (rs.map (bF B)) (n+4)=W:=λn=>lT _ _ _ λr=>by
  have a1:cU (r.ps.map tS) (n+2)=W:=lT _ _ _ λx=>by simp[fU,OM]
  have a2:cU (r.cl.map cD) (n+2)=W:=lT _ _ _ λx=>by simp[fU,cU,OM,Ij]
  have a3:cU (r.js.map jD) (n+2)=W:=lT _ _ _ λx=>by rfl
  have a4:cU (r.zs.map zD) (n+2)=W:=lT _ _ _ λx=>by
   let#[a,b,c,d]:=x;cases c<;>cases d<;>simp[fU,cU,zD,oD]
  have a5:cU (r.st.map sD) (n+2)=W:=lT _ _ _ λx=>by rfl
  simp[fU,cU,a1,a2,a3,a4,a5]
 have h3:fU (mY t) 11=W:=by
  have a1:cU (t.ps.map (eG B)) 9=W:=lT _ _ _ λx=>by
   have:cU (x.2.map mD) 7=W:=lT _ _ _ λx=>by rfl
   simp[fU,cU,this]
  have a2:cU (t.js.map jD) 9=W:=lT _ _ _ λx=>by rfl
  have a3:cU (t.st.map sD) 9=W:=lT _ _ _ λx=>by rfl
  simp[fU,cU,a1,a2,a3]
 show fU _ 12=W;have h1:=h1 9;have h2:=h2 6;generalize mY t=td at h3;simp[fU,cU,h1,h2,h3]
noncomputable def ou:M (abM (M J))->Nat->abM (Nat×M J)
|[],_=>S
|some l::_,k=>L (k,l)
|none::r,k=>ou r (k+1)
noncomputable abbrev ON(o:Bool):abM (M J)->D
|none=>.non
|some l=>.lst o (l.map D.int)
noncomputable abbrev vv(o:Bool):abM (Nat×M J)->D
|none=>.non
|some p=>.tup [.int (p.1:J),.lst o (p.2.map D.int)]
theorem Ik:∀(pre:M (abM (M J))) (r:M (abM (M J))) (k:Nat),(∀x∈pre,x=S)->ou (pre++r) k=ou r (k+zl pre)
|[],r,k,_=>rfl
|x::pre,r,k,h=>by
 rw[h x aB];show ou (pre++r) (k+1)=_;rw[Ik pre r (k+1) λy hy=>h y (ao _ hy),cL];congr 1;lia
def GN(o:Bool)(x:abM (Nat×M J)):dP (vv o x)=W:=by
 show fU _ 12=W;cases x with
 |none=>simp[fU]
 |some p=>simp[fU,cU,Ij]
def Ua(o o':Bool)(x:abM (Nat×M J)):gT (vv o x) (vv o' x)=W:=by
 cases x with
 |none=>rfl
 |some p=>simp[gT,nq,GL _ 3 (Ij p.2 3)]
abbrev GCo:M PG:=[.fn gK [],.fn uz []]
section
variable(kd td d:D) (y:Ry) (fk:bq kd=kd) (ft:bq td=td) (qr:uz [kd,td]=.ok d) (fd:bq d=d8 y) (fry:bq (d8 y)=d8 y)
include fk ft qr fd fry
theorem t_in(r:lR)(o:abM (M J))(h:gK [bF B r,d8 y]=.ok (ON W o)):jI [kd,bF B r,td]=.ok (ON W o):=by
 have frd:=uH B r;unfold jI wL;rw[show Ca=GCo from rfl];generalize bF B r=rd at frd h ⊢;generalize d8 y=ry at fd fry h;generalize ON W o=x at h ⊢;erw[frd,fk,ft,qr,fd,fry,h]
theorem XN(rs:M lR)(hrs:zl rs<=5)(f:lR->abM (M J))(h:∀r∈rs,gK [bF B r,d8 y]=.ok (ON W (f r))):rL [kd,.lst B (rs.map (bF B)),td]=.ok (vv W (ou (rs.map f) 0)):=by
 have hs:=szl;have q:=MQ (g:=pG (.tup (.cons (.name 4) (.cons (.name 5) .nil)))) (b:=b9 GCo 1000 uG) (bF B) (λx=>x=vv W (ou (rs.map f) 0)) rs
  (λpre U=>(∀r∈pre,f r=S)/\∃(a b c:abM D),U=[L kd,L (.lst B (rs.map (bF B))),L td,L d,a,b,c]) (by
  rintro pre r post e U ⟨g1,a,b,c,rfl⟩;have hr:=h r (by rw[e];simp);refine#[[L kd,L (.lst B (rs.map (bF B))),L td,L d,L (.int (zl pre:J)),L (bF B r),c],rfl,?_];have frd:=uH B r;unfold uG;generalize bF B r=rd at frd hr ⊢;generalize d8 y=ry at fd fry hr;have e1:ou (rs.map f) 0=ou (f r::post.map f) (zl pre):=by
   rw[e,bE,Ik _ _ _ (λx hx=>by let#[r',hr',rfl]:=ck.mp hx;exact g1 r' hr'),aa,xq];rfl
  rw[e1];cases o:f r with
  |none=>
   rw[o]at hr;refine .inl #[[L kd,L (.lst B (rs.map (bF B))),L td,L d,L (.int (zl pre:J)),L rd,L .non],?_,λr' hr'=>?_,_,_,_,rfl]
   .erw[frd,fd,fry,hr,dm,e_]
   .rcases bw.mp hr' with z|z
    .exact g1 r' z
    .rw[aQ.mp z];exact o
  |some l=>
   rw[o]at hr;refine .inr #[.tup [.int (zl pre:J),.lst W (l.map D.int)],?_,rfl];erw[frd,fd,fry,hr,dm,eX,f9,TX]) [L kd,L (.lst B (rs.map (bF B))),L td,L d,S,S,S] #[λ_ h=>aH h aD,_,_,_,rfl]
 have fr:bq (.lst B (rs.map (bF B)))=.lst B (rs.map (bF B)):=by show D.lst B (aA _)=_;rw[qJ]
 have en:enD (.lst B (rs.map (bF B)))=.ok (B,ir 0 (rs.map (bF B))):=by
  show R.ok (_,ir 0 (aA _))=_;rw[qJ];rfl
 unfold rL ES;rw[show MA=GCo from rfl];generalize uG=abm at q ⊢;generalize hx:vv W (ou (rs.map f) 0)=x at q ⊢;generalize D.lst B (rs.map (bF B))=DH at q fr en ⊢;rcases q with⟨σ',h1,g1,a,b,c,rfl⟩|⟨x',h1,rfl⟩
 .have e1:ou (rs.map f) 0=S:=by
   have:=Ik (rs.map f) [] 0 (λx hx=>by let#[r',hr',rfl]:=ck.mp hx;exact g1 r' hr');rw[d_]at this;rw[this];rfl
  rw[e1]at hx;subst hx;cases o:aU d with
  |true=>
   erw[fk,ft,fr,qr,o,en];rw[h1];erw[]
  |false=>
   erw[fk,ft,fr,qr,o,en,jJ];rw[h1];erw[]
 .cases o:aU d with
  |true=>
   erw[fk,ft,fr,qr,o,en];rw[h1];erw[]
  |false=>
   erw[fk,ft,fr,qr,o,en,jJ];rw[h1];erw[]
end
abbrev YZ:M PG:=[.fn rL [],.fn xW [],.fn jI [],.fn wY []]
noncomputable abbrev wS(sc d1 rl d6 cs fo:D)(due:D)(k t:abM D):br:=[L sc,L d1,L rl,L d6,L cs,L fo,L due,k,t]
theorem abj(i:J):xW [.int i]=.ok (.bl W):=by rfl
section
variable(kd td d1 d6 sc cs fo:D) (fk1:bq d1=kd) (ft6:bq d6=td) (rs:M lR) (f:lR->abM (M J))
 (hin:∀r∈rs,jI [kd,bF B r,td]=.ok (ON W (f r)))
include fk1 ft6 hin
theorem la_b(due:D)(k t:abM D)(i:Nat)(hi:i<zl rs):∃t':abM D,b9 YZ 1000 wV (wS sc d1 (.lst B (rs.map (bF B))) d6 cs fo due (L (.int (i:J))) t)=.nx (wS sc d1 (.lst B (rs.map (bF B))) d6 cs fo (match f rs[i]with|none=>due|some l=>vv B (L (i,l))) (L (.int (i:J))) t'):=by
 have hs:=szl;have hr:=hin rs[i] (cz _);have ea:dj (rs.map (bF B)) (i:J)=L (bF B rs[i]):=lC (by rw[bg,aq hi];rfl);have frd:bq (bF B rs[i])=bF B rs[i]:=uH B _;have ix:iY (.lst B (rs.map (bF B))) (.int (i:J))=.ok (bF B rs[i]):=by
  unfold iY;simp only[ea];show R.ok (bq _)=_;rw[frd]
 have fr:bq (.lst B (rs.map (bF B)))=.lst B (rs.map (bF B)):=by show D.lst B (aA _)=_;rw[qJ]
 generalize bF B rs[i]=rd at hr ix frd;generalize D.lst B (rs.map (bF B))=DH at fr ix ⊢;have fk:bq kd=kd:=by rw[<-fk1,C4]
 have ft:bq td=td:=by rw[<-ft6,C4]
 unfold wV wS;cases o:f rs[i]with
 |none=>
  rw[o]at hr;have hr:jI [kd,rd,td]=.ok .non:=hr;refine#[L .non,?_];erw[fk1,ft6,fk,ft,fr,ix,frd,hr,dm,e_]
 |some l=>
  rw[o]at hr;have hr:jI [kd,rd,td]=.ok (.lst W (l.map D.int)):=hr;refine#[L (.lst B (l.map D.int)),?_];erw[fk1,ft6,fk,ft,fr,ix,frd,hr,dm,eX,f9,b_,jJ]
theorem la_l(k t:abM D):∃k' t':abM D,forR (pG (.name 7)) (b9 YZ 1000 wV) ((bM (zl rs)).map λ(k:Nat)=>D.int ((zl rs:J)-1-k)) (wS sc d1 (.lst B (rs.map (bF B))) d6 cs fo .non k t)=.nx (wS sc d1 (.lst B (rs.map (bF B))) d6 cs fo (vv B (ou (rs.map f) 0)) k' t'):=by
 let#[σ',h1,k',t',rfl]:=K2.lQ (g:=pG (.name 7)) (λ(k:Nat)=>D.int ((zl rs:J)-1-k)) (bM (zl rs))
  (λpre U=>∃k' t':abM D,U=wS sc d1 (.lst B (rs.map (bF B))) d6 cs fo (vv B (ou ((rs.map f).drop (zl rs-zl pre)) (zl rs-zl pre))) k' t') (by
  rintro pre k post e U ⟨k',t',rfl⟩;have hk:k=zl pre/\k<zl rs:=by
   have h:=jc (λl=>l[zl pre]?) e;have hl:zl pre<zl rs:=by have:=jc uK e;simp at this;lia
   simp[hl]at h
   lia
  let#[e1,hk2]:=hk;obtain⟨i,hi⟩:∃i:Nat,zl rs=k+1+i:=#[zl rs-(k+1),by omega];have hil:i<zl rs:=by lia
  let#[t2,q]:=la_b kd td d1 d6 sc cs fo fk1 ft6 rs f hin (vv B (ou ((rs.map f).drop (zl rs-zl pre)) (zl rs-zl pre))) k' t' i hil;have ei:(zl rs:J)-1-(k:J)=(i:J):=by lia
  refine#[wS sc d1 (.lst B (rs.map (bF B))) d6 cs fo (vv B (ou ((rs.map f).drop (zl rs-zl pre)) (zl rs-zl pre))) (L (.int (i:J))) t',_,?_,q,L (.int (i:J)),t2,?_]
  .rw[ei];rfl
  .have e2:zl rs-zl (pre++[k])=i:=by rw[bf];simp;omega
   have e3:zl rs-zl pre=i+1:=by lia
   have e4:(rs.map f).drop i=f rs[i]::(rs.map f).drop (i+1):=by
    rw[iO (by rw[aa];exact hil),dc]
   rw[e2,e3,e4];cases o:f rs[i]<;>rfl) (wS sc d1 (.lst B (rs.map (bF B))) d6 cs fo .non k t) #[k,t,by rw[jU,Nb,jC (by rw[aa];lia)];rfl]
 refine#[k',t',?_];rw[h1,ig,pH];rfl
end
end K3
end
section
namespace K3
open PySem L2 L3 Tr
def ap_1(k:J)(l:M D)(h:zl l<aj)(a0 a1 a2 a3 a4 a6 a7 a8:abM D):Mb YZ (.ix (.var 5) (.con (.int 1))) (.con (.int 0)) [a0,a1,a2,a3,a4,L (.tup [.int k,.lst W l]),a6,a7,a8]=.nx [a0,a1,a2,a3,a4,L (.tup [.int k,.lst W (l++[.int 0])]),a6,a7,a8]:=by
 have e2:mG [1] (.tup [.int k,.lst W l]) (.int 0)=L (.tup [.int k,.lst W (l++[.int 0])]):=by
  show(if zl l<aj then L (D.lst W (l++[.int 0]))else S).map (λy'=>D.tup ([D.int k,D.lst W l].set 1 y'))=_;rw[aF h];rfl
 show(R.opt (mG [1] (.tup [.int k,.lst W l]) (.int 0))).bA (λx'=>Fl.nx ([a0,a1,a2,a3,a4,L (.tup [.int k,.lst W l]),a6,a7,a8].set 5 (L x')))=_;rw[e2];rfl
def afr(ns:M J):KL [bB ns]=.ok (.bl W):=by
 have hs:=szl;let#[ks,rs,t,d1,d6,hk,hr,l5,ht,qc,f1,f6]:=adR ns;let#[d,y,hy,qr,fd]:=aba ks hk t ht;have fk:bq (.lst B (cG ks))=.lst B (cG ks):=by show D.lst B (aA _)=_;rw[ki]
 have ft:bq (mY t)=mY t:=vU B B B B t;have hex:∀r:lR,∃o:abM (M J),r∈rs->(gK [bF B r,d8 y]=.ok (ON W o)/\∀l,o=L l->zl l<=4):=λr=>by
  by_cases h:r∈rs
  .rcases abh ks r (hr r h) y hy with e|⟨l,l1,e⟩
   .exact#[S,λ_=>#[e,λl h=>by cases h]]
   .exact#[L l,λ_=>#[e,λl' h'=>by cases h';rw[l1];exact(hr r h).p.1]]
  .exact#[S,λh'=>aH h' h]
 let#[f,hf]:=Ni hex;have qcov:=XN (.lst B (cG ks)) (mY t) d y fk ft qr fd (tL hy) rs l5 f λr h=>(hf r h).1;have hin:=λr h=>t_in (.lst B (cG ks)) (mY t) d y fk ft qr fd (tL hy) r (f r) (hf r h).1;have nd:=abi ks rs t;have er:=YY _ _ nd;have fr:bq (.lst B (rs.map (bF B)))=.lst B (rs.map (bF B)):=by show D.lst B (aA _)=_;rw[qJ]
 have lrs:h_ .len [.lst B (rs.map (bF B))]=.ok (.int (zl rs:J)):=by show R.ok (D.int (zl (rs.map (bF B)):J))=_;rw[aa]
 have hl:∀k l,ou (rs.map f) 0=L (k,l)->zl l<=4:=by
  have go:∀(xs:M (abM (M J))) (k0 k:Nat) (l:M J),(∀l,L l∈xs->zl l<=4)->ou xs k0=L (k,l)->zl l<=4:=by
   intro xs;induction xs with
   |nil=>intro k0 k l _ h;cases h
   |cons x r ih=>
    intro k0 k l h e;cases x with
    |none=>exact ih (k0+1) k l (λl' h'=>h l' (ao _ h')) e
    |some l'=>cases e;exact h _ aB
  exact λk l=>go _ _ _ _ λl' h'=>by
   let#[r,hr,e]:=ck.mp h';exact(hf r hr).2 l' e
 let#[k',t',hloop]:=la_l (.lst B (cG ks)) (mY t) d1 d6 (bB ns) (.tup [d1,.lst B (rs.map (bF B)),d6]) (vv W (ou (rs.map f) 0)) f1 f6 rs f hin S S;have nc:gE .NotEq (.tup [.lst B (cG ks),.lst B (rs.map (bF B)),mY t]) (.tup [.lst B (cG ks),.lst B (rs.map (bF B)),mY t])=.ok (.bl B):=by
  rw[HU nd nd,er];rfl
 have ec:gE .Eq (.tup [.lst B (cG ks),.lst B (rs.map (bF B)),mY t]) (.tup [.lst B (cG ks),.lst B (rs.map (bF B)),mY t])=.ok (.bl W):=by
  rw[y_ nd nd,er]
 have rr:L0 (.int (zl rs:J))=.ok (W,(bM (zl rs)).map λ(k:Nat)=>D.int ((zl rs:J)-1-k)):=by
  show R.bV (decide (0<=(zl rs:J)/\(zl rs:J).toNat<=aj)) _=_;rw[a_ (by rw[fE];lia),fE];rfl
 have fsc:bq (bB ns)=bB ns:=cA ns;unfold KL Qw;rw[show YL=YZ from rfl];unfold wS at hloop;generalize wV=abm at hloop ⊢;generalize bB ns=sc at qc fsc hloop ⊢;have owr:aU (.lst B (rs.map (bF B)))=B:=rfl;generalize D.lst B (rs.map (bF B))=DH at qc qcov fr lrs hloop nc ec owr;generalize D.lst B (cG ks)=kd at f1 fk qcov nc ec;generalize mY t=td at f6 ft qcov nc ec;have at0:∀a b c:D,dj [a,b,c] 0=L a:=λ_ _ _=>rfl;have at1:∀a b c:D,dj [a,b,c] 1=L b:=λ_ _ _=>rfl;have at2:∀a b c:D,dj [a,b,c] 2=L c:=λ_ _ _=>rfl;cases hx:ou (rs.map f) 0 with
 |none=>
  rw[hx]at qcov hloop;have qcov:rL [kd,DH,td]=.ok .non:=qcov;erw[fsc,qc,f1,f6,fk,ft,fr,at0,at1,at2,qcov,lrs,rr,owr,uF,p8,jJ,f9];rw[hloop];erw[f1,f6,fk,ft,fr,nc,dm]
 |some p=>
  let#[k,l]:=p;have h4:=hl k l hx;rw[hx]at qcov hloop;have qcov:rL [kd,DH,td]=.ok (.tup [.int (k:J),.lst W (l.map D.int)]):=qcov;have hloop:_=Fl.nx [L sc,L d1,L DH,L d6,L (.tup [d1,DH,d6]),L (.tup [.int (k:J),.lst W (l.map D.int)]),L (.tup [.int (k:J),.lst B (l.map D.int)]),k',t']:=hloop;have w1:=abj (k:J);have ne1:gE .NotEq (.tup [.int (k:J),.lst B (l.map D.int)]) (.tup [.int (k:J),.lst B (l.map D.int)])=.ok (.bl B):=by
   rw[HU (GN B (L (k,l))) (GN B (L (k,l))),Ua B B (L (k,l))];rfl
  have eq1:gE .Eq (.tup [.int (k:J),.lst W (l.map D.int)]) (.tup [.int (k:J),.lst B (l.map D.int)])=.ok (.bl W):=by
   rw[y_ (GN W (L (k,l))) (GN B (L (k,l))),Ua W B (L (k,l))]
  have b0:∀a b:D,dj [a,b] 0=L a:=λ_ _=>rfl;erw[fsc,qc,f1,f6,fk,ft,fr,at0,at1,at2,qcov,lrs,rr,owr,uF,p8,jJ,f9];rw[hloop];erw[f1,f6,fk,ft,fr,nc,dm,b_,w1,ne1,b0,yx,sX,e_,eX];rw[ap_1 (k:J) (l.map D.int) (by rw[aa];lia)];erw[f1,f6,fk,ft,fr,at0,at1,at2,qcov,b_,eq1,ec,dm]
end K3
namespace K2
open PySem L2 L3 Tr
def fin(ns:M J)(_:zl ns<=63):KL [bB ns]=.ok (.bl W):=K3.afr ns
end K2
end
namespace Fin
open PySem L2 L3 Tr
section
variable{P:bO}{w:bL}{K:ak}{mg:Str->abM Z}
structure Hy (P:bO) (w:bL) (K:ak) (mg:Str->abM Z):Prop where
 z:∀x∈BN,mg x=S
 D_law:DI K mg xZ
 D_covers:DI K mg ME
 D_finding_ready:DI K mg xY
 D_first_finding:DI K mg xX
 D_some_finding:DL K mg zd 100
 D_finding_from:DI K mg zc
 D_steps_hold:DI K mg Cb
 D_joins_hold:DI K mg Cc
 D_all_shut_found:DI K mg wZ
 D_choices_of:DI K mg Cd
 D_has_marks:DI K mg DZ
 D_has_sizes:DI K mg D0
 D_open_for:DI K mg Gq
 D_parts_under:DI K mg AJ
 D_marks_of:DI K mg Gr
 D_Ready:OI K mg Ox 36
 D_uppers_of:DI K mg D3
 D_l_whole:DI K mg JM
 D_finding_in:DI K mg Ce
 D_l_case:DI K mg MH
 D_l_spoilt:DI K mg Gu
 D_l_mix:DI K mg Oz
 D_l_thing_for:DI K mg AK
 D_l_part_for:DI K mg Cf
 D_l_lowers:DI K mg Gw
 D_l_uppers:DI K mg Gv
 D_l_reading:DI K mg D4
 D_l_bounds:DI K mg Gx
 D_l_groups:DI K mg Gy
 D_l_words:DI K mg JO
 D_l_names:DI K mg JN
 D_l_kinds:DI K mg JP
 L_Ready:AB K 36/\∀f∈(["sizes","uppers","joins","steps","marks"]:M Str),nN K 36 f
variable{base:Heap} (abG:Hy P w K mg)
include abG
theorem Ke:jP P w K mg base 1 "steps_hold" o9:=fD (k:=0) abG.D_steps_hold MB abG.z gN
theorem Kf:jP P w K mg base 1 "joins_hold" o_:=fD (k:=0) abG.D_joins_hold MC abG.z gN
theorem Dm:jP P w K mg base 1 "all_shut_found" kQ:=fD (k:=0) abG.D_all_shut_found ET abG.z gN
theorem w5:∀j,Tw P w K mg base (1+j) "finding_from" (d7 j)
|0=>f0M abG.D_finding_from
|j+1=>fDM (k:=1+j) abG.D_finding_from HZ abG.z (gF (Ke abG) (gO abG.L_Ready (gF (Kf abG) (gM (w5 j) (gF (Dm abG) gN (cH (by decide) (rP 1 j))) (aK _)) (cH (by decide) (rP 1 j)))) (cH (by decide) (rP 1 j)))
theorem GQ:Tw P w K mg base 8 "finding_from" pV:=w5 abG 7
theorem GU:jP P w K mg base 9 "some_finding" mV:=fDL (k:=8) abG.D_some_finding H9 abG.z (gM (GQ abG) gN)
theorem EY:jP P w K mg base 10 "first_finding" oS:=fD (k:=9) abG.D_first_finding Gp abG.z (gF (GU abG) gN)
theorem MS:jP P w K mg base 1 "has_marks" qF:=fD (k:=0) abG.D_has_marks Nt abG.z (gO abG.L_Ready gN)
theorem MT:jP P w K mg base 1 "has_sizes" qG:=fD (k:=0) abG.D_has_sizes Nu abG.z (gO abG.L_Ready gN)
theorem NC:jP P w K mg base 1 "open_for" tD:=fD (k:=0) abG.D_open_for Qy abG.z gN
theorem zp:jP P w K mg base 1 "parts_under" jW:=fD (k:=0) abG.D_parts_under Kc abG.z gN
theorem D9:jP P w K mg base 1 "marks_of" nD:=fD (k:=0) abG.D_marks_of Qz abG.z gN
theorem Kg:jP P w K mg base 2 "choices_of" mW:=fD (k:=1) abG.D_choices_of MD abG.z (gF (MS abG) (gF (MT abG) (gF (NC abG) (gF (zp abG) (gO abG.L_Ready (gF (D9 abG) gN))))))
theorem w6:jP P w K mg base 11 "finding_ready" gK:=fD (k:=10) abG.D_finding_ready Gs abG.z (gF (EY abG) (gF (Kg abG) (gF (zp abG) (gO abG.L_Ready gN))))
theorem MU:jP P w K mg base 1 "uppers_of" qH:=fD (k:=0) abG.D_uppers_of Nv abG.z gN
theorem MV:jP P w K mg base 3 "Ready" uz:=oD (k:=1) abG.D_Ready aaR rfl abG.z (gO abG.L_Ready (gF (D9 abG) (gF (MU abG) gN)))
theorem Ub:jP P w K mg base 12 "covers" rL:=fD (k:=11) abG.D_covers XC abG.z (gF (w6 abG) (gF (MV abG) gN))
theorem QI:jP P w K mg base 1 "_law_whole" xW:=fD (k:=0) abG.D_l_whole TF abG.z gN
theorem Kh:jP P w K mg base 12 "finding_in" jI:=fD (k:=11) abG.D_finding_in MF abG.z (gF (w6 abG) (gF (MV abG) gN))
theorem ph:jP P w K mg base 1 "_law_mix" gY:=fD (k:=0) abG.D_l_mix aaS abG.z gN
theorem ND:jP P w K mg base 2 "_law_spoilt" tE:=fD (k:=1) abG.D_l_spoilt QB abG.z (gF (ph abG) gN)
theorem D_:jP P w K mg base 1 "_law_uppers" lP:=fD (k:=0) abG.D_l_uppers QC abG.z gN
theorem Ea:jP P w K mg base 2 "_law_lowers" nE:=fD (k:=1) abG.D_l_lowers QD abG.z (gF (D_ abG) gN)
theorem Kl:jP P w K mg base 3 "_law_part_for" kR:=fD (k:=2) abG.D_l_part_for MG abG.z (gF (Ea abG) (gF (ph abG) gN))
theorem Im:jP P w K mg base 4 "_law_thing_for" nV:=fD (k:=3) abG.D_l_thing_for Kd abG.z (gF (ph abG) (gF (Kl abG) gN))
theorem NF:jP P w K mg base 1 "_law_bounds" pW:=fD (k:=0) abG.D_l_bounds QE abG.z gN
theorem NG:jP P w K mg base 2 "_law_groups" tF:=fD (k:=1) abG.D_l_groups QF abG.z (gF (ph abG) (gF (D_ abG) gN))
theorem MW:jP P w K mg base 3 "_law_reading" qI:=fD (k:=2) abG.D_l_reading Nx abG.z (gF (Ea abG) (gF (ph abG) (gF (NF abG) (gF (NG abG) gN))))
theorem GV:jP P w K mg base 2 "_law_names" rZ:=fD (k:=1) abG.D_l_names TH abG.z (gF (ph abG) gN)
theorem QJ:jP P w K mg base 3 "_law_words" uY:=fD (k:=2) abG.D_l_words TJ abG.z (gF (GV abG) gN)
theorem QK:jP P w K mg base 3 "_law_kinds" uZ:=fD (k:=2) abG.D_l_kinds TL abG.z (gF (ph abG) (gF (GV abG) gN))
theorem Uc:jP P w K mg base 5 "_law_case" wY:=fD (k:=4) abG.D_l_case XD abG.z (gF (ND abG) (gF (Im abG) (gF (MW abG) (gF (ph abG) (gF (QJ abG) (gF (QK abG) gN))))))
theorem ad7{f:Addr}{fd:fc}(F:vF K "law" "law" xZ.s f fd):g_ P w K mg base (mw P w) 13 f fd xZ.ps (yZ K KL):=fF (d:=xZ) F ae6 abG.z (gF (Ub abG) (gF (QI abG) (gF (Kh abG) (gF (Uc abG) gN))))
end
def walk{l:G5}{q:bO}{loose:M Str}{XP:(Str->abM Z)->Heap->Prop}{YP:bL->Heap->Prop}{d:DefRec}{K:Uo->ak}(hn:l.most=L 63)(hdf:d.params.defaults=[])(hdn:d.name="law")(hY:∀(w:bL) (h:Heap),YP w h->(K w.params).In h)(hT:∀(w:bL) (h:Heap),YP w h->O8 (K w.params) h)(nk:∀p:Uo,((K p).all λx=>!VU x.2.cls)=W)(F:∀(w:bL) (mg:Str->abM Z) (h:Heap),(K w.params).In h->h.Ns eU mg->Hy l.prog w (K w.params) mg)(bd:∀(kV doc pm:Z) (an:abM Addr) (cdv ct:Z) (u:Z),pB (gy "law" "law" (mL xZ.s) (iG xZ.s) (dh xZ.s) .none kV doc pm an cdv ct) #[[u],[]]=pure [(("_law_script":Str),u)]):Kw q loose XP YP l.row.toRowW d [] (λf vs=>G4 f vs):=
 L2.Zv (n:=63) (k:=13) (x:="_law_script") (CX:=λ_=>RD) (sp:=λw=>(λvs H Q E=>∃(a:Addr) (ns:M J),vs=[.ref a]/\Rd H a (.lst (ns.map V.int))/\zl ns<=63/\∀H',Q (.bl W) H')) hn (by decide) hdf #[rfl,by decide,by decide] hY (λw mg fa h X G hfa=>by
  obtain abG:=F w mg h X G;rw[hdn]at hfa;let#[f,fd,abk,hm,hb]:=abG.D_law;have e:=hfa.symm.trans hm;cases e;let#[_,_,kV,doc,pm,an,cdv,ct,_,rfl,_]:=abk.ex;exact#[_,λs v=>.of_eq (bd _ _ _ _ _ _ v),λbase _ _=>adf (ad7 abG abk) K2.fin]) (λw _ a ns hl _ hS=>#[a,ns,rfl,ae5 (nk w.params) hS,hl,λ_=>rfl]) (λ_ _ _ _ _ z=>z) (by decide) hT
end Fin
namespace PySem.W.Fast
def tw18156358904675122345 :=0
def tw15060751060619896836 :=0
def tw14749404049714990831 :=0
def tw9456468671780998148 :=0
def tw6465109149442901520 :=0
def tw4800052178415439650 :=0
def tw13876665901937877676 :=0
def tw4057702118054640220 :=0
def tw14179831256467145664 :=0
def tw17092071442765761407 :=0
def tw512728496714419335 :=0
def tw12455696735884487477 :=0
def tw1855197048665061276 :=0
def tw1487833346101212216 :=0
def tw3439024100834507036 :=0
def tw14473065941779569773 :=0
def tw2988347572070590580 :=0
def tw6183484608395402923 :=0
def tw11757906523445436013 :=0
def tw13516683205106671546 :=0
def tw16808234518171786815 :=0
def tw12562038222834460607 :=0
def tw12915081269474628884 :=0
def tw14110780904515387871 :=0
def tw10705299522594037869 :=0
def tw11174232564941399737 :=0
def tw14509958957178894478 :=0
def tw11017438206340193652 :=0
def tw16923306023483156955 :=0
def tw3642259419979501628 :=0
def tw3582074785937589837 :=0
def tw17556987985430186727 :=0
def tw4518896345916678627 :=0
def tw16779285366920456506 :=0
def tw5433722765575325681 :=0
def tw2686300617337021877 :=0
def tw10962917310115260000 :=0
def tw7260806982020864311 :=0
def tw15847673027307585561 :=0
def tw14272529039883940917 :=0
def tw7926451441451453341 :=0
def tw14792564992927132435 :=0
def tw747380965718475004 :=0
def tw16880957649880890450 :=0
def tw14887082813144516677 :=0
def tw17772900163809177594 :=0
def tw132238503308044975 :=0
def tw13082928508533023748 :=0
def tw12660969261556017312 :=0
def tw12731984389022358854 :=0
def tw17034747202134329868 :=0
def tw3613995503779623973 :=0
def tw3424204205097557408 :=0
def tw9961778640589203922 :=0
def tw13399088127892963779 :=0
def tw15648259363333997176 :=0
def tw2031913080031906140 :=0
def tw14466718528729338721 :=0
def tw12926424113521235635 :=0
end PySem.W.Fast
open PySem PySem.W PyProof.Rows
set_option maxRecDepth 100000 in
set_option maxHeartbeats 0 in
open L3 Tr in
theorem PySem.Challenge.cw_claimwise_k18_the_first_reading_holds : PySem.Challenge.rw_claimwise_k18_the_first_reading.Holds := by
 w_on;o_law;k_head;(case hw=>w_witness2)
 k_fill
 refine Fin.walk (l:=PySem.Challenge.rw_claimwise_k18_the_first_reading) rfl rfl rfl (λw h ahj=>by first|exact PySem.W.kIn_of ahj|exact Fo ahj) ?T ?nk ?F ?b
 case T=>exact λw h ahj=>tbI (Fo ahj) (Uv ahj)
 case nk=>intro p;first|rfl|decide +kernel|k_is|simp[L3.VU]
 case b=>intros;rfl
 case F=>
  intro w mg h KX G;exact#[zI KX G,
   dI KX G,
   dI KX G,
   dI KX G,
   dI KX G,
   dL KX G,
   dI KX G,
   dI KX G,
   dI KX G,
   dI KX G,
   dI KX G,
   dI KX G,
   dI KX G,
   dI KX G,
   dI KX G,
   dI KX G,
   oI KX G,
   dI KX G,
   dI KX G,
   dI KX G,
   dI KX G,
   dI KX G,
   dI KX G,
   dI KX G,
   dI KX G,
   dI KX G,
   dI KX G,
   dI KX G,
   dI KX G,
   dI KX G,
   dI KX G,
   dI KX G,
   dI KX G,
   lI]
