import PyProof.Rows.All
import Wide.All
import OpenK.AllK
import Wide.FinOn
import PySem.Challenge.RW_claimwise_k17_the_first_of_all
open List renaming length_map->aa,getElem?_eq_getElem->ai,mem_cons_of_mem->aq,mem_cons_self->aB,not_mem_nil->aF,getElem?_map->aJ,mem_singleton->aK,replicate->aL,mem_cons->aO,mem_append_right->aR,size_toArray->aS,getD_eq_getElem?_getD->aV,getElem?_eq_some_iff->aW,length_append->aZ,mem_append->bh,map_append->bl,map_cons->bB,all_eq_true->bC,append_assoc->bE,mem_map->bF,map_map->bG,getElem?_append_left->bJ,range->bW,nodup_cons->b9,mem_append_left->cz,getElem_mem->cK,nodup_append->cL,length_take->cM,length_drop->cR,length_cons->cX,getElem?_set_ne->dw,mem_of_getElem?->dz,lookup_cons->dB,getElem_map->dP,map_nil->dZ,append_nil->ee,replicate_succ->eE,getElem_of_mem->eF,getElem?_append_right->eG,any_eq_true->fm,mem_range->fJ,take_of_length_le->fP,map_congr_left->fT,getElem?_replicate->gj,flatten_cons->gH,length_singleton->gQ,nodup_nil->gZ,reverse_cons->ic,length_range->ig,find?_cons->iA,length_replicate->iP,drop_eq_getElem_cons->iT,mem_filter->i9,length_set->jf,eq_nil_of_length_eq_zero->jr,length_pos_iff->jz,drop_of_length_le->jG,length_nil->jT,getElem?_set->j_,pairwise_map->kc,ext_getElem->kT,nil_append->lY,getElem?_set_self->mw,map_reverse->nU,map_take->oh,map_drop->oq,lookup->oG,filterMap_cons->oK,length_reverse->oN,any_map->pZ,any_eq_false->qL,any_cons->rQ,mem_reverse->sA,length_filter_le->sX,mk_mem_zipIdx_iff_getElem?->sY,mem_of_mem_drop->uu,getElem?_range->uB,length->vh,mem_filterMap->vM,map_singleton->vP,pairwise_cons->vQ,getElem?_take->vR,all_cons->wo,getElem?_inj->wK,extract_eq_take_drop->w6,forall_mem_singleton->w9,idxOf_lt_length_iff->ye,filterMap_cons_some->yj,filterMap_cons_none->yk,mem_flatMap->yl,getElem?_cons_succ->yw,of_mem_zip->yZ,foldl_cons->y9,all_append->zg,range'->zM,forall_mem_append->zN,getElem?_of_mem->Bc,range_eq_range'->Bh,mem_of_mem_take->Bj,pairwise_append->Bk,map_eq_nil_iff->BO,flatMap_append->BP,getElem?_drop->Dm,map_set->Dv,map_replicate->Dw,take_sublist->Eh,ext_getElem?->Er,drop_length->FZ,getElem_inj->F8,map_snd_zip->Gh,nodup_range->Gn,range'_succ->Gq,foldl->Ih,range_succ->Im,map_const'->Iu,drop_zero->JJ,all_map->Oi
open PySem renaming sizeLine->aj,wpAny_bind->ak,Shared->az,wpAny_pure->aN,wpAny->a_,model->bf,World->bO,Program->bS,sizeLine_eq->cg,Around->cY,Spec->pinD,mem_of_lookup->dN,cLine->d_,mainGlobals->eV,wpAny_Call_Name_kw->eW,FuncData->fi,tupleKind->fB,Scope->fG,wpAny_holding->fH,cellsFrom->gc,starEach->gp,wpAny_mono->gW,wpAny_truthy_bool->ie,codeAny_builtin->iz,sysModules->iI,NameKind->je,wpAny_newObj_type->jm,wpAny_typeNameOfWhole_keyiter->jq,binaryOp->jC,tupleKind_room_in1->jQ,wpAny_passesOwn->jS,plainId_quiet->jW,assignEach->ki,compareOp->kB,codeAny_mono->kQ,codeAny->lK,foldedSetIterable->mO,call_meets->nO,wpAny_call_entry->nR,IsTupleKey->nS,wpAny_typeOf->pV,builtinsNs->qF,relabel->qI,wpAny_pyIter_list->qK,wpAny_pyNext_list_item->rq,wpAny_newList->rR,bindArgs->sj,wpAny_pyNext_list_end->sP,wpAny_notOrdered_dict->sQ,Arguments->sR,storedH->sV,ItemsOf->sW,backTo->ud,letOwnedTupleGo->ue,call_meetsIn->uf,wpAny_ite_split->uh,callType_codes->u9,recursionLimit->vc,sliceBounds->vj,codeAmong->vK,swapsWith->vL,DictEntry->vN,swapsWithSole->we,wpAny_dictEntries->wH,wpAny_load->wZ,valueAt->xg,callerA->xh,Keyword->xj,bootBuiltins->xY,pyIter->xZ,seqIndex_neg->yd,wpAny_comprehension_free->yg,wpAny_callSpecial?_slot->yu,wpAny_Call_method0_late->yx,wpAny_execs_nil->yV,PassesOwn->yW,atKey->y_,wpAny_dictEpoch->zb,wpAny_specialOf->zd,pushCells_keeps->ze,seqIndex_of->zG,wpAny_getItem_list_neg->zJ,Builtin->Ae,stored->Af,rawInt->Ah,wpAny_seqItems->Ai,holding->Aj,getItem->Ak,pyNext->Al,wpAny_isOneOf_keyiter->Ar,newFunctionEnv->As,typeLookup->A6,wpAny_loadName_local->A7,Operator->A8,wpAny_pyIter_keyiter->Ba,wpAny_pyIter_revIter->Bg,wpAny_standAt->BA,rangeSize_one->BB,behindInMarks->BC,wpAny_attempt->BE,wpAny_loadName_cell->BH,evalArgs_none->BJ,Result->C1,getattributeRaised->C2,TriplesOk->C5,Within->C6,isTrue->C8,assign->C9,inplaceOp->C_,Fin->Dh,call_reversed_list->Dq,BindsTo->D7,bindL->D8,bindC->D9,collect->D_,CmpOp->Ea,IsRange->Eb,wpAny_assign_Name->Eg,slot_list_getitem->Ei,list_append->Ej,wpAny_pyIter_enum->El,subscripted->E4,kt_code_dict_new->F6,wpAny_eqBool_int->F7,noFill_tuple_add->F_,wpAny_Dict_empty->Gf,wpAny_isInstance->Gi,wpAny_rule->H_,wpAny_Name->Ib,wpAny_call->Ic,typeIs_str->Ie,typeIs_int->Ig,call->Ii,wpAny_tryCatch->Jz,setItem->JA,standAt->JB,wpAny_newTuple->JC,wpAny_fieldsOf->JE,wpAny_setField->JF,wpAny_runValue->JG,fitsIndex_both->JI,storeName->K7,small_one->K8,lastMarks->K_,swappedStores->Lu,intBits_le_64->Lv,attributeBase->Lw,seq_tuple_add->Ly,evalPart_none->Lz,call_list_seq->LB,Builtin->offH,truthy->Oc,concat_meets->Of,call_range_1->Ol,interactive->O7,wpAny_of_eq->Pb,wpAny_letGo->Pd,spliced->Qx,getAttr->Qy,entryOfKey->Sj,sliceRange->Sw,closureFor->Sx,IsPart->VO,Params->VS,cellOf->VT
open PySem.W renaming Frag->ao,keepIn->fK,findIn->fZ,fnOf->gz,emptyDict->gD,instObj->iZ,kas_sort->mE,codeIn->nu,kla_obj->o5,hasDictIn->qM,plainGet->se,codeHdIn->su,nsIn->uq,codeHd_of_K->uD,plainOver->wB,takerIn->yX,makesIn->yY,cellsFrom_some->zE,lookIn->Am,mg_of->BF,callWith_K0->BI,callWith_K->Dd,envX->Dr,handedIn->F9,km_in_of->Gr,OpenLaw->Ij,kla_makeFunctionHit->La,WalkO->LC,isFn->Oe,kla_makeFunction->Oo,OpenLaw->Qz,kas_ask->QB,hideAll_size->adf,hideAll_none->adn,looks_findIn->ado,pre_splitW->Sq,kla_callFunE->adp,kla_codeExpr->ad4,hideAll_get->ad5,plainGet_of->ad6,findObj_own->ad7,looks_clsIn->ad9,of_hideAll->fd2,codeRec_of->fdt,ki_setBack->fjo,mg_none_of->fk4,km_tabs_of->fkd,methodObj->fp1,get_value->epD,set_plain->es2,make_core->ev0,osa_open->nin,any_some->qm1,InitBack->qm2,makes_of->qu1,ki_setAt->qu2,kla_eval->rg2
open PySem.Heap renaming get?_push_of_some->aA,lt_size->aQ,get?_push_size->be,size_push->gY,SameBut->jP,get?_update_ne->kY,get?_update_other->mz,get?_update_self->sU
open _root_ renaming of_decide_eq_true->aC,if_neg->aG,if_pos->aH,absurd->aI,decide_eq_true->aU,False->bu,decide_eq_false->bM,beq_eq_false_iff_ne->dM,decide_eq_true_eq->eS,DecidableEq->fE,congrArg->fY,beq_iff_eq->gX,if_false->iN,if_true->kF,decide_false->uo,forall_congr'->wx,bne_self_eq_false->Ek,Inhabited->K9,Decidable->Ld,decide_true->Pf
open False renaming elim->aE
open Nat renaming le_refl->aM,ne_of_lt->bI,lt_of_lt_of_le->bX,le_trans->cu,zero_le->cN,lt_irrefl->cW,le_of_lt->fO,lt_succ_self->iM,ne_of_gt->jc,lt_trans->kR,le_add_right->kU,not_lt_zero->lX,lt_succ_of_lt->qN,le_succ->rA,le_of_eq->x_,sub_self->yh,zero_add->Dp,lt_trichotomy->Ep,min_eq_right->Gk,min_eq_left->Io,mul_succ->Ou,add_comm->Ov
open PySem.Value renaming ref->bU,none->fN,int->C3,str->C4,bool->Ia,isStrOf->Ls,isInt->O4,bytes->O5,float->O6
open Bool renaming false_ne_true->bY,and_eq_true->cG,not_true->dR,not_false->eu,not_eq_true->fq,false_eq_true->gg,not_eq_true'->mQ,false_and->nB,and_eq_true_iff->nT,and_true->n_,or_eq_true_iff->oO,or_false->wg,true_and->wu,eq_false_iff->wJ,eq_iff_iff->zc,and_false->Ao,false_or->BD,true_or->Df,or_eq_true->Il,or_true->Oz
open Option.some renaming inj->cE,injEq->exD
open PyProof.Rows renaming seqObj->cU,callWith_type1->cZ,step_dedup->lF,callWith_builtin1->l5,listUpdate_at->n9,get?_update_seq->oY,AllBare->qG,envOfC->rB,entry_list_sort->za,subscriptTail_builtinR->zH,seqEpoch_at->zL,IntsAre->An,slot_list_sort->Aq,firstMet->Au,failedOf->A_,entry_proto_collect'->Bb,slot_tuple_getitem->De,listItems_at->Di,plain_sorted->Dj,entry_sorted->Dk,kind_sorted->E5,slot_str_getitem->Ga,entry_list_iadd'->Gj,firstMet_length_le->Gs,arrOf->Ik,Call_->Ip,args_list_sort->JD,subscriptTail->LA,boot_reversed->LF,args_sorted1->Og,isTrue_and->Sm,Subscript_->So
open PySem.Obj renaming mapSeq->c8,data_mapFields->Dl
open Sum renaming inr->dg,inl->u_
open PySem.NameKind renaming free->dF,cell->dG
open Array renaming length_toList->eB,getElem?_toList->iQ,getElem?_eq_getElem->kj,toList_append->k8,getElem?_eq_none->rm,toArray_toList->ug,toList_extract->Be,append_assoc->C7,toList_inj->Gg,getD->Su,ext'->Sv
open Int renaming toNat_natCast->eN,eq_ofNat_of_zero_le->lG,toNat->zh,ofNat_inj->BG,zero_add->Du,ofNat_lt->Ox,mul_one->O8
open PySem.Builtin.Str renaming strSliceIndices->fC,tooLong->adA
open PySem.Around renaming under_plainId->fM,frames_deeper->A9
open PySem.Expr.Name renaming elim->f6
open PySem.Calls renaming spliced_cons->f_,spliced_nil->gE,callWith_builtin->rC,Name_function_global->v_,call_function_entry->w5
open Ne renaming symm->gi
open PySem.Str renaming length->iJ,ofString->nA,empty->Dc
open Option renaming map_eq_some_iff->jF,isSome_map->wF,isSome_some->Dg,getD_none->Gb,getD_some->Gp,map_some->Ir,map->SD
open PySem.Expr.Call renaming elim->kG
open PySem.Heap.SameBut renaming update->kZ
open PySem.Builtin.Dict renaming updateFrom->lC,selfAndRest->xX,dictSlotNone->L1,showsAll->H''
open PySem.Builtin.Range renaming rangeSize->lD,small->uC
open PySem.F renaming plain_list_iadd->lE,entry_dict_get->mD,slot_dict_get->ny,plain_proto_collect->vO,args_tuple_add_2->yc,entry_tuple_add->ym,args_dict_get_2->yo,args_dict_get_3->yq,slot_dict_items->yy,slot_tuple_add->zF,args_list_index_2->L4,slot_dict_getitem->L6,plain_extend_loop->L7,args_dict_items_1->L8,entry_list_index->Oh,args_list_init_2->Oq,entry_dict_items->Ot,slot_list_index->OA,typeCall_list_1->OB,entry_list_init->OC,plainAttrs_dict->OD,type_dict_items->OE,called_list->adB
open ForInStep renaming yield->l0
open PySem.Expr.Subscript renaming elim->oQ
open PySem.Builtin.List renaming listTooLong->pW,listFitsIndex->wm,listSameRef->yi,listUpdate->yt,listLengthHint->Lb,listExtendWith->Lc,listItems->Pe
open Eq renaming trans->pY
open True renaming intro->qH
open PySem.Stmt.Assign renaming elim->sy
open List.Nodup renaming length_le_of_subset->uw
open PySem.Builtin.Dict_items renaming ownsTuple->vd
open PySem.W.Looks renaming of_pure->wj,here->fdp
open PySem.SeqAt renaming EqAt->yf,notIn_tupleAt->L5,notIn_listAt->Oj,in_tupleAt->Pc,in_listAt->HdC
open PySem.Expr.Tuple renaming elim->zf
open Sum.inr renaming inj->zK
open PySem.Heap.IsRevIter renaming typeIs->Av
open PySem.Expr.Attribute renaming elim->BK
open PySem.Stmt.AugAssign renaming elim->BL
open PySem.AutoListH renaming list_insert_list_int_val_1->Dn,list___mul___list_int_3->E6
open PySem.Expr.ListComp renaming elim->Dt
open Iff renaming rfl->Ec
open PySem.Expr.UnaryOp renaming elim->Em
open PySem.Expr.Compare renaming elim->En
open List.Sublist renaming refl->Eo,append->adK
open PySem.IsL renaming update->Gc
open PySem.AutoSeq1 renaming list_extend_list_list_0->Ge
open PySem.Expr.BoolOp renaming elim->Gm
open PySem.Heap.DictOf renaming new->H9
open PySem.PassesOwn renaming never->Iq
open Classical renaming byContradiction->L_,axiomOfChoice->OF
open PySem.Builtin.Tuple renaming tupleExact->Om
open List.Pairwise renaming imp_of_mem->Ow,nil->ex'
open PySem.IsRange renaming new->O9
open PyProof renaming noPylong_small->O_
open PySem.Txt renaming mul->QD
open PySem.W.WShape renaming has->Ss
open PySem.SeqAt.EqAt renaming int_str->fch,str_int->fcl
open PySem.Heap.IsSliceOf renaming new->fj'
open PySem.W.WData renaming int->VR
open PySem.Expr.Constant renaming elim->fjv
open PySem.ScopeKind renaming function->fk1
open PySem.Stmt.Continue renaming elim->fk2
open PySem.Within renaming cons->etk
open PySem.Heap.Ns1 renaming of_empty->ew2
open PySem.DictEntry renaming refKey->lt2
open PySem.Heap.DictOfH renaming new->rd'
open PySem.P renaming add_list->reD
open PySem.Stmt.Return renaming elim->rg3
open Array.Perm renaming refl->aag
open PySem.Expr.BinOp renaming elim->aah
open PySem.Expr.IfExp renaming elim->aai
open PySem.Expr.Slice renaming elim->aaj
open PySem.Stmt.Break renaming elim->aak
open List.cons renaming injEq->aal,inj->acz
open PySem.Expr.List renaming elim->acr
open PySem.Expr.Dict renaming elim->acs
open PySem.Stmt.Expr renaming elim->acu
open List renaming length->zl
open Option renaming some->M,none->S
open _root_ renaming List->B,Int->J,Option->LD
open Bool renaming false->W,true->L
open PySem renaming Value->B5
local macro_rules|`(#v[$xs,*])=>do
 let mut r<-`(.nil)
 for x in xs.getElems.reverse do r<-`(.cons $x $r)
 return r
local macro_rules|`(#[$a,$b,*])=>`(⟨$a,$b,*⟩)
def Xi:Nat->Lean.Syntax->Lean.MacroM (Lean.TSyntax `rcasesPat)
|n+1,s=>match s with
 |`(#[$a,*])=>do let p<-a.getElems.mapM λx=>Xi n x.raw;`(rcasesPat|⟨$[$p:rcasesPat],*⟩)
 |`($x:ident)=>`(rcasesPat|$x:ident)
 |_=>`(rcasesPat|_)
|_,_=>`(rcasesPat|_)
def Zq8:Nat->List Lean.Syntax->Lean.Term->Lean.MacroM (Lean.TSyntax `tactic)
|n+1,[s],y=>match s with
 |`(#[$a,*])=>Zq8 n (a.getElems.toList.map (·.raw)) y
 |_=>if s.getId==`rfl then`(tactic|obtain $(⟨s⟩):ident:=$y)else`(tactic|skip)
|n+1,s::r,y=>do
 let g s:=s.isIdent&&!s.getId==`rfl||s.isOfKind `Lean.Parser.Term.hole
 let f s i:Lean.Ident:=⟨if g s then s else Lean.mkIdent (.appendIndexAfter `ζ (2*n+i))⟩
 let a (n:Lean.Name) t:=Lean.Syntax.mkApp (Lean.mkIdent n) #[t]
 let c (l:List Lean.Ident):Lean.MacroM Lean.Term:=do
  let p:=l.tail.foldl (λp _=>(p.1.push (a `And.left p.2),a `And.right p.2)) (#[],y)
  return Lean.Syntax.mkApp (<-`(λ$(l.toArray)*=>?_)) (p.1.push p.2)
 let x:=f s 0
 let z:=match r with|[t]=>f t 1|_=>f .missing 1
 let e<-`(tactic|((first|refine Exists.elim $y λ$x $z=>?_|refine $(<-c [x,z]));clear $y;$(<-Zq8 n [s] x);$(<-Zq8 n r z)))
 if (s::r).all g then`(tactic|first|(refine $(<-c ((s::r).map (⟨·⟩)));clear $y)|($e:tactic))else pure e
|_,_,_=>`(tactic|skip)
local macro_rules|`(tactic|let $p:term:=$e)=>do
 let y:=Lean.mkIdent `ζ
 let q<-Zq8 50 [p.raw] y
 `(tactic|first|(revert $e;intro $y:ident;$q)|(have $y:ident:=$e;$q)|obtain $(<-Xi 50 p):rcasesPat:=$e)
noncomputable section
set_option Elab.async false
set_option linter.all false
set_option maxRecDepth 100000
set_option maxHeartbeats 4000000
set_option bootstrap.genMatcherCode false
set_option compiler.extract_closed false
set_option genSizeOf false
set_option genInjectivity false
set_option tactic.hygienic false
section
namespace PySem
namespace F
def rD:entryFor table "dict.update.loop"=M Ae.«dict.update.loop»:=entryFor_of_fast<|by kernel_rfl
def jn:plainId "dict.update.loop"=L:=by decide +kernel
end F
section
variable{prog:bS}{w:bO}{K:Type} [fE K] {knd:KeyKind prog w K}{A:cY}{s:az}{R:C1->az->Prop}
def zO(knd:KeyKind prog w K)(h:Heap)(items:Array B5)(ps:B<|K×B5):Prop:=
 items.size=zl ps/\∀(i:Nat) (k:K) (v:B5),ps[i]?=M (k,v)->∃t kv,items[i]?=M (.ref t)/\h.IsTuple t (List.toArray [kv,v])/\knd.is k kv=L
def zO.keep(x:zO knd h items ps)(hk:∀t xs,h.IsTuple t xs->h'.IsTuple t xs):zO knd h' items ps:=
 #[x.1,λi k v e=>let⟨t,kv,h1,h2,h3⟩:=x.2 i k v e;#[t,kv,h1,hk t _ h2,h3]]
def rE{h:Heap}(a:h.IsTuple t xs)(b:h.IsListIter it l i):t≠it:=by
 rintro rfl;let#[o,h1,h2,_]:=a;let#[o',h3,h4,_]:=b;rw[h1]at h3;cases h3;rw[h2]at h4;exact aI h4<|by decide
def BQ{h:Heap}(a:h.IsList t xs)(b:h.IsListIter it l i):t≠it:=by
 rintro rfl;let#[o,h1,h2,_]:=a;let#[o',h3,h4,_]:=b;rw[h1]at h3;cases h3;rw[h2]at h4;exact aI h4<|by decide
def Le{h:Heap}(a:h.IsTuple t xs)(b:h.DictOf knd d kvs):t≠d:=by
 rintro rfl;let#[o,h1,h2,n,h5]:=a;let#[o',es,ep,h3,hc,hd,_]:=b;rw[h1]at h3;cases h3;rw[h5]at hd;cases hd
def Ma{h:Heap}(a:h.IsList t xs)(b:h.DictOf knd d kvs):t≠d:=by
 rintro rfl;let#[o,h1,h2,n,h5]:=a;let#[o',es,ep,h3,hc,hd,_]:=b;rw[h1]at h3;cases h3;rw[h5]at hd;cases hd
def xm{h:Heap}(a:h.IsListIter it l i)(b:h.DictOf knd d kvs):it≠d:=by
 rintro rfl;let#[o,h1,h2,h5]:=a;let#[o',es,ep,h3,hc,hd,_]:=b;rw[h1]at h3;cases h3;rw[h5]at hd;cases hd
def IsTuple.sameBut(x:h.IsTuple t xs)(hs:jP b h h')(hn:t≠b):h'.IsTuple t xs:=
 let⟨o,ho,r⟩:=x;#[o,(hs.2 t hn).trans ho,r]
def IsList.sameBut(x:h.IsList t xs)(hs:jP b h h')(hn:t≠b):h'.IsList t xs:=
 let⟨o,ho,r⟩:=x;#[o,(hs.2 t hn).trans ho,r]
def IsListIter.sameBut(x:h.IsListIter t l i)(hs:jP b h h')(hn:t≠b):h'.IsListIter t l i:=
 let⟨o,ho,r⟩:=x;#[o,(hs.2 t hn).trans ho,r]
def DictOf.sameBut'(x:h.DictOf knd d kvs)(hs:jP b h h')(hn:d≠b):h'.DictOf knd d kvs:=
 let⟨o,es,ep,ho,r⟩:=x;#[o,es,ep,(hs.2 d hn).trans ho,r]
noncomputable def JK(acc:B<|K×B5)(ps:B<|K×B5):B (K×B5):=ps.foldl (λa p=>Af a p.1 p.2) acc
def E7(hh:A.in1.handled=S)(res:B5)(hsz:zl ps<=aj):∀(k i:Nat) (s:az) (acc:B<|K×B5),zl ps-i=k->i<=zl ps->zl acc<=i->s.heap.IsListIter it l i->s.heap.IsList l items->zO knd s.heap items ps->s.heap.DictOf knd d acc->
  (∀(h':Heap) (tk:Nat),s.toks<=tk->h'.DictOf knd d (JK acc<|ps.drop i)->(∀b o,b≠d->b≠it->s.heap.get? b=M o->h'.get? b=M o)->R (.ok<|.ret res) { s with heap:=h',toks:=tk })->
  lK (bf prog w) A (.builtin "dict.update.loop" #[[.ref d,.ref it,Ah (i:J),res],[]]) R s:=by
 intro k;induction k with
 |zero=>
  intro i s acc hk hi hacc hit hl hp hd hR;have hin:i=zl ps:=by lia
  subst hin;refine iz F.rD ?_;rw[fM F.jn _];refine ak (sP hh hit hl (by rw[rm];rw[hp.1];exact aM _) λh' hs=>?_);have:=hR h' s.toks (aM _) (by
   rw[FZ];exact hd.extBut hs (xm hit hd).symm) λb o _ hb e=>hs b o hb e
  exact ak<|aN<|aN this
 |succ k ih=>
  intro i s acc hk hi hacc hit hl hp hd hR;have hlt:i<zl ps:=by omega
  let#[t,kv,e1,ht,hkey]:=hp.2 i ps[i].1 ps[i].2<|ai hlt;refine iz F.rD ?_;rw[fM F.jn _];refine ak<|rq hit hl e1 λh' UW hs=>?_;have ht':=IsTuple.sameBut ht hs<|rE ht hit;have hl':=IsList.sameBut hl hs<|BQ hl hit;have hd':=DictOf.sameBut' hd hs (xm hit hd).symm;have Sl:=hp.keep λt xs a=>IsTuple.sameBut a hs<|rE a hit;refine ak<|fH ?_;refine ak<|Jz ?_;let#[o,ho,hc,n,hdat]:=ht';refine ak<|pV #[o,ho,hc] ?_;rw[aH<|by decide];refine ak<|Ai ho hdat<|aN ?_;refine fH ?_;refine wpAny_dictSet_pairs hkey hd' λh2 hd2 hs2=>?_;have Wc:=IsListIter.sameBut UW hs2<|xm UW hd';have hl2:=IsList.sameBut hl' hs2<|Ma hl' hd';have hp2:=Sl.keep λt xs a=>IsTuple.sameBut a hs2<|Le a hd';have hlen:zl (Af acc ps[i].1 ps[i].2)<=i+1:=by
   unfold Af;split
   .rw[aa];lia
   .rw[aZ,gQ];lia
  have q:=ih (i+1) { s with heap:=h2,toks:=s.toks+1 } (Af acc ps[i].1 ps[i].2) (by omega) hlt hlen Wc hl2 hp2 hd2 (λh3 tk htk WZ RT=>by
   refine hR h3 tk (cu (rA _) htk) ?_ ?_
   .rw[iT hlt];exact WZ
   .intro b o hb1 hb2 e;exact RT b o hb1 hb2<|(hs2.2 b hb1).trans<|(hs.2 b hb2).trans e)
  exact aN #[jW F.jn _,q]
end
end PySem
end
section
namespace PySem
namespace F
theorem Mb:A6 (.type "list") "keys"=pure S:=by rfl
end F
section
variable{prog:bS}{w:bO}{A:cY}{E:B5->az->Prop}{s:az}{a:Addr}{o:Obj}
def BR{Q:LD B5->az->Prop}(hx:s.heap.get? a=M o)(hc:o.cls=.type "list")(hdat:o.data=.seq xs k)(hd:o.dict=S)(hA:A.handled=S)(h:∀h' tk,(∀b o,s.heap.get? b=M o->h'.get? b=M o)->Q S { s with heap:=h',toks:=tk }):a_ (bf prog w) A (getAttr? (.ref a) "keys") Q E s:=by
 let#[c,dct,dat,sl]:=o;simp only at hc hdat hd;subst hc hdat hd;let#[mem,sp',dr,cnt,sys]:=s;have Zg:∀c',(⟨mem,sp',dr,c',sys⟩:az).TypeIs (.ref a) "list":=λ_=>#[_,hx,rfl];have lk:=F.Mb;have sub:=sub_AttributeError;have ga:=F.slot_list_getattribute;have gl:=ga.lookup;have gb:=ga.bind<|.ref a;have no:=am_list_getattr_none
 delta getAttr? getAttrBy? getAttrBy
 repeat (any_goals (first|assumption|exact Zg _|((with_reducible show a_ _ _ (call (Value.builtin "list.__getattribute__") _ _) _ _ _);refine nO F.slot_list_getattribute (Zg _) am_entry_list_getattribute (F.args_list_getattribute_2 _ _) (meets_getattribute_miss_list a xs k sl "keys" _ lk (by decide) (by size_fits)) #[hx,hA,λh' tk' e hx'=>?_])|wp_step))
 let#[x1,x2,there]:=hx'.there;change a_ _ _ (C2 _ _ _ _ _ _ _) _ _ _;delta C2
 repeat (any_goals (first|wp_step|assumption))
 exact h _ _ hx'.keeps
end
section
variable{prog:bS}{w:bO}{K:Type} [fE K] {knd:KeyKind prog w K}{A:cY}{E:B5->az->Prop}{s:az}
def IsTuple.keep{h h':Heap}(x:h.IsTuple t xs)(hk:∀b o,h.get? b=M o->h'.get? b=M o):h'.IsTuple t xs:=
 let⟨o,ho,r⟩:=x;#[o,hk _ _ ho,r]
def IsList.keep{h h':Heap}(x:h.IsList t xs)(hk:∀b o,h.get? b=M o->h'.get? b=M o):h'.IsList t xs:=
 let⟨o,ho,r⟩:=x;#[o,hk _ _ ho,r]
def DictOf.keep'{h h':Heap}(x:h.DictOf knd d kvs)(hk:∀b o,h.get? b=M o->h'.get? b=M o):h'.DictOf knd d kvs:=
 let⟨o,es,ep,ho,r⟩:=x;#[o,es,ep,hk _ _ ho,r]
def Gu{l:Addr}{Q:B5->az->Prop}(hA:A.handled=S)(ho:s.heap.get? l=M o)(hc:o.cls=.type "list")(hdat:o.data=.seq items n)(hno:o.dict=S)(hp:zO knd s.heap items ps)(hsz:zl ps<=aj)(h:∀(h':Heap) (tk:Nat),h'.DictOf knd s.heap.objs.size (JK [] ps)->(∀b o,s.heap.get? b=M o->h'.get? b=M o)->Q (.ref s.heap.objs.size) { s with heap:=h',toks:=tk }):a_ (bf prog w) A (call (.type "dict") [.ref l]) Q E s:=by
 refine u9 (Q₁:=λmade st=>made=.ref s.heap.objs.size/\st={ s with heap:=s.heap.push { cls:=.type "dict",data:=.dict #[] } }) F.kt_called_dict (F.kt_typeCall_dict_1 _) F.entry_dict_init (F6 _ #[rfl,rfl]) ?_;rintro made st ⟨rfl,rfl⟩;have void:(s.heap.push { cls:=.type "dict",data:=.dict #[] }).DictOf knd s.heap.objs.size []:=H9 s.heap;have hl1:(s.heap.push { cls:=.type "dict",data:=.dict #[] }).get? l=M o:=aA _ ho;have hT1:({ s with heap:=s.heap.push { cls:=.type "dict",data:=.dict #[] } }:az).TypeIs (.ref l) "list":=#[o,hl1,hc];refine#[void.typeIs,F.args_dict_init_2 _ _,?_]
 delta Ae.«dict.__init__»;refine ak ?_;delta xX
 refine ak<|sQ void.typeIs ?_;change a_ _ _ (pure (s.heap.objs.size,[bU l])) _ _ _;refine aN ?_;show a_ _ _ (lC "dict.__init__" s.heap.objs.size (.ref l) [] .none) _ _ _
 delta lC
 refine ak<|pV hT1 ?_;rw[aH<|by decide];have US:A.in1.in1.handled=S:=hA;refine ak<|BR hl1 hc hdat hno US λh2 ltK2 hk2=>?_;show a_ _ _ (rule _ >>= _) _ _ _;refine ak<|H_ ?_;have hl2:h2.IsList l items:=#[o,hk2 _ _ hl1,hc,n,hdat];refine ak<|qK hl2 ?_;have hk1:∀b o,s.heap.get? b=M o->h2.get? b=M o:=λb o e=>hk2 b o<|aA _ e;have RT:∀b o,h2.get? b=M o->(h2.push { cls:=.type "list_iterator",data:=.fields (List.toArray [.ref l,.int 0 0]) }).get? b=M o:=λb o e=>aA _ e;have hd2:h2.DictOf knd s.heap.objs.size []:=DictOf.keep' void hk2;refine aN #[jW F.jn _,E7 US .none hsz (zl ps) 0 _ [] rfl (cN _) (aM _)
  #[_,be _ rfl,rfl,rfl] (IsList.keep hl2 RT) (hp.keep λt xs a=>IsTuple.keep (IsTuple.keep a hk1) RT) (DictOf.keep' hd2 RT) λh4 XM _ Wa Ti=>?_]
 refine#[rfl,h h4 XM Wa λb o e=>Ti b o ?_ ?_<|RT _ _<|hk1 _ _ e]
 .rintro rfl;exact aI (aQ e)<|cW _
 .rintro rfl;exact aI (aQ<|hk1 _ _ e)<|cW _
end
end PySem
end
section
namespace L2
open PySem PySem.Spec PyProof.Rows
abbrev Key:=Sum J Str
noncomputable def Dy:Key->B5->Bool
|.inl k,v=>O4 k v
|.inr x,v=>Ls x v
noncomputable def te'(w:bO):Key->J
|.inl k=>hashInt k
|.inr x=>hashStr w x
def iV:∀{k:Key}{v:B5},Dy k v=L->(∃i t,k=u_ i/\v=C3 i t)\/(∃x t,k=dg x/\v=C4 x t)
|.inl i,v,h=>by
 let#[t,e]:=Value.isInt_shape (k:=i) (v:=v) h;exact .inl #[i,t,rfl,e]
|.inr x,v,h=>by
 let#[t,e]:=Value.isStrOf_shape (x:=x) (v:=v) h;exact .inr #[x,t,rfl,e]
def adO(i:J)(t:Tok):Dy (.inl i) (.int i t)=L:=by simp[Dy,O4]
def adP(x:Str)(t:Tok):Dy (.inr x) (.str x t)=L:=by simp[Dy,Ls]
def acA(a b:J):decide ((u_ a:Key)=u_ b)=(a==b):=by lia
def acB(a b:Str):decide ((dg a:Key)=dg b)=decide (a=b):=by simp
def acC(a:J)(b:Str):decide ((u_ a:Key)=dg b)=W:=bM λq=>nomatch q
def acD(a:Str)(b:J):decide ((dg a:Key)=u_ b)=W:=bM λq=>nomatch q
def fy(prog:bS)(w:bO):PySem.KeyKind prog w Key where
 is:=Dy
 hash:=te' w
 inj:=λv a b ha hb=>by
  rcases iV ha with⟨i,t,rfl,rfl⟩|⟨x,t,rfl,rfl⟩
  .rcases iV hb with⟨j,u,rfl,e⟩|⟨y,u,rfl,e⟩
   .injection e with e1 _;rw[e1]
   .exact nomatch e
  .rcases iV hb with⟨j,u,rfl,e⟩|⟨y,u,rfl,e⟩
   .exact nomatch e
   .injection e with e1 _;rw[e1]
 byValue:=λk v h=>by
  rcases iV h with⟨i,t,rfl,rfl⟩|⟨x,t,rfl,rfl⟩<;>rfl
 pyHash:=λhv h=>by
  rcases iV hv with⟨i,t,rfl,rfl⟩|⟨x,t,rfl,rfl⟩
  .exact wpAny_pyHash_int h
  .exact wpAny_pyHash_str h
 eqBool:=λhu hv h=>by
  rcases iV hu with⟨i,t,rfl,rfl⟩|⟨x,t,rfl,rfl⟩
  .rcases iV hv with⟨j,u,rfl,rfl⟩|⟨y,u,rfl,rfl⟩
   .rw[acA]at h;exact F7 h
   .rw[acC]at h;exact fch i t y u _ _ _ _ h
  .rcases iV hv with⟨j,u,rfl,rfl⟩|⟨y,u,rfl,rfl⟩
   .rw[acD]at h;exact fcl x t j u _ _ _ _ h
   .rw[acB]at h;exact wpAny_eqBool_str h
 «strs»:=λk x t v h=>by
  rcases iV h with⟨i,u,rfl,e⟩|⟨y,u,rfl,e⟩
  .exact nomatch e
  .injection e with e1 _;subst e1;cases v<;>rfl
def Es(prog:bS)(w:bO)(i:J)(t:Tok):(fy prog w).is (.inl i) (.int i t)=L:=adO i t
def Et(prog:bS)(w:bO)(x:Str)(t:Tok):(fy prog w).is (.inr x) (.str x t)=L:=adP x t
end L2
namespace L2
open PySem PySem.Spec PyProof.Rows
inductive V where
 |d|c (b:Bool)|b (i:J)|e (x:Str)|h (b:Array UInt8)|g (b:UInt64)|a (a:Addr)|f (n:String)
 deriving fE
def acb:V->B5->Prop
|.d,u=>u=fN
|.c b,u=>u=Ia b
|.b i,u=>∃t,u=C3 i t
|.e x,u=>∃t,u=C4 x t
|.h b,u=>∃t,u=O5 b t
|.g b,u=>∃t,u=O6 b t
|.a a,u=>u=bU a
|.f n,u=>u=Value.type n
abbrev bN:B V->B B5->Prop:=Paired acb
def bN.length{xs:B V}{us:B B5}(r:bN xs us):zl xs=zl us:=Paired.length r
theorem bN.get:∀{xs:B V}{us:B B5}{i:Nat}{x:V},bN xs us->xs[i]?=M x->∃u,us[i]?=M u/\acb x u
|_,_,_,_,.nil,e=>by simp at e
|_,_,0,_,.cons r _,e=>by simp at e;subst e;exact#[_,rfl,r]
|_,_,i+1,x,.cons _ t,e=>by
 let#[u,h1,h2]:=bN.get (i:=i) (x:=x) t (by simpa using e);exact#[u,by simpa using h1,h2]
theorem bN.set(r:acb x u):∀{xs:B V}{us:B B5} (i:Nat),bN xs us->bN (xs.set i x) (us.set i u)
|_,_,_,.nil=>.nil
|_,_,0,.cons _ t=>.cons r t
|_,_,i+1,.cons q t=>.cons q<|bN.set r i t
theorem bN.append:∀{xs ys:B V}{us ws:B B5},bN xs us->bN ys ws->bN (xs++ys) (us++ws)
|_,_,_,_,.nil,s=>s
|_,_,_,_,.cons r t,s=>.cons r<|bN.append t s
theorem bN.take:∀{xs:B V}{us:B B5} (n:Nat),bN xs us->bN (xs.take n) (us.take n)
|_,_,0,_=>.nil
|_,_,_+1,.nil=>.nil
|_,_,n+1,.cons r t=>.cons r<|bN.take n t
theorem bN.drop:∀{xs:B V}{us:B B5} (n:Nat),bN xs us->bN (xs.drop n) (us.drop n)
|_,_,0,r=>r
|_,_,_+1,.nil=>.nil
|_,_,n+1,.cons _ t=>bN.drop n t
def s9:LD V->LD B5->Prop
|some v,M u=>acb v u
|none,S=>True
|_,_=>bu
def KV{κ:Type}:B (κ×V)->B (κ×B5)->Prop:=Paired λ(p:κ×V) (q:κ×B5)=>p.1=q.1/\acb p.2 q.2
noncomputable def kV:Key->V
|.inl i=>.b i
|.inr x=>.e x
inductive HO where
|a (xs:B V)
|b (xs:B V)
|e (kvs:B (Key×V))|c (kvs:B (B Key×V))
|i (Q7:J->Bool) (n:Nat)
|g (C dx:Addr) (fs:B (Str×V))
|d (x:Addr)
|k (fs:B (Str×V))
|m (f x:Addr)
|l (lo hi:J)
|f (o:Obj) (u:HO)
|h (ps:Array B5)
|j (φ:Heap->Prop)
abbrev Hp:=Addr->LD HO
noncomputable def upd(H:Hp)(a:Addr)(o:HO):Hp:=λb=>if b=a then M o else H b
def bZ:upd H a o a=M o:=by unfold upd;rw[aH rfl]
def bg(h:b≠a):upd H a o b=H b:=by unfold upd;rw[aG h]
def QF{H:Hp}(h:H a=M o)(h':H b=M u)(d:o≠u):a≠b:=by lia
def cj{H:Hp}(h:H a=M o)(h':H b=S):a≠b:=by lia
noncomputable def QG(ps:Array B5):Str:=match ps.toList with
|.str q _::_=>q
|_=>""
def Zi(H:Hp)(h:Heap)(a:Addr)(ps:Array B5):Prop:=∃qs,h.get? a=M { cls:=.none,data:=.fields qs }/\C5 qs.toList/\∀pos cv,vK pos qs.toList=M cv->∃c' oc vs tq,cv=.ref c'/\H c'=M (.f oc<|.d a)/\oc.data=.fields vs/\vs[1]?=M (.str (QG ps) tq)
section
variable(P:bS) (w:bO)
def fU(H:Hp)(h:Heap)(a:Addr):HO->Prop
|.a xs=>zl xs<=aj/\∃(its:B B5) (n:Nat),bN xs its/\h.get? a=M { cls:=.type "list",data:=.seq its.toArray n }
|.b xs=>zl xs<=aj/\∃its:B B5,bN xs its/\IsTup h a its.toArray
|.e kvs=>zl kvs<=aj/\(a==iI)=W/\∃vs,KV kvs vs/\h.DictOf (fy P w) a vs
|.c kvs=>zl kvs<=aj/\(a==iI)=W/\∃xs:B<|B Key×Addr×B5,
  Paired (λ(p:B Key×V) (q:B Key×Addr×B5)=>p.1=q.1/\H q.2.1=M (.b<|p.1.map kV)/\acb p.2 q.2.2) kvs xs /\
  ∃o es ep,h.get? a=M o/\o.ExactDict/\o.data=.dict es ep/\es.toList=xs.map (Sj<|fB<|fy P w)/\(xs.map (·.1)).Nodup
|.i Q7 n=>h.SetOf (intKind P w) a Q7 n
|.g C dx fs=>H dx=M (.d a)/\zl fs<=1000/\dx≠a/\h.get? a=M (iZ C dx) /\
  ∃mA,h.Ns1 dx mA/\(∀f,s9 (fs.lookup f)<|mA f)/\C6 mA (fs.map (·.1))
|.d _=>∃o,h.get? a=M o
|.k fs=>∃mA,h.Ns1 a mA/\∀f,s9 (fs.lookup f)<|mA f
|.l lo hi=>∃t u v,h.get? a=M { cls:=.type "range",data:=.fields (List.toArray [.int lo t,.int hi u,.int 1 v]) }
|.f o u=>h.get? a=M o/\fU H h a u
|.h ps=>Zi H h a ps
|.m f x=>h.get? a=M (fp1 (.ref f)<|.ref x)
|.j φ=>φ h/\(∃o,h.get? a=M o)/\∀h1 h2:Heap,φ h1->(∀o,h1.get? a=M o->h2.get? a=M o)->φ h2
def gM(H:Hp)(h:Heap):Prop:=∀a o,H a=M o->fU P w H h a o
end
section
variable{P:bS}{w:bO}{H H':Hp}{h h':Heap}{a:Addr}{o:HO}
def fU.lt(x:fU P w H h a o):a<h.objs.size:=by
 cases o with
 |a xs=>let#[_,_,_,_,e]:=x;exact aQ e
 |b xs=>let#[_,_,_,p]:=x;exact p.lt
 |e kvs=>let#[_,_,_,_,o,_,_,e,_]:=x;exact aQ e
 |c kvs=>let#[_,_,_,_,o,_,_,e,_]:=x;exact aQ e
 |i Q7 n=>let#[o,_,_,_,e,_]:=x;exact aQ e
 |g C dx fs=>let#[_,_,_,e,_]:=x;exact aQ e
 |d y=>let#[_,e]:=x;exact aQ e
 |k fs=>let#[_,#[_,_,_,e,_],_]:=x;exact aQ e
 |l lo hi=>let#[_,_,_,e]:=x;exact aQ e
 |f ob u=>let#[e,_]:=x;exact aQ e
 |h ps=>let#[_,e,_]:=x;exact aQ e
 |m f y=>exact aQ (show h.get? a=M _ from x)
 |j φ=>let#[_,#[_,e],_]:=x;exact aQ e
theorem Paired.Iw{α β:Type}{F G:α->β->Prop}:∀{l₁:B α}{l₂:B β},Paired F l₁ l₂->(∀a b,F a b->G a b)->Paired G l₁ l₂
|_,_,.nil,_=>.nil
|_,_,.cons r t,f=>.cons (f _ _ r)<|Paired.Iw t f
def Paired.imp'{α β:Type}{F G:α->β->Prop}(f:∀a b,F a b->G a b){l₁:B α}{l₂:B β}(r:Paired F l₁ l₂):Paired G l₁ l₂:=Paired.Iw r f
def fU.ab(x:fU P w H h a o)(k:∀b u,(b=a\/H b=M (.d a))->h.get? b=M u->h'.get? b=M u)(ho:∀b,H b=M (.d a)->H' b=M (.d a))(ht:∀b xs,H b=M (.b xs)->H' b=M (.b xs))(hf:∀b o u,H b=M (.f o u)->H' b=M (.f o u)):fU P w H' h' a o:=by
 induction o with
 |a xs=>let#[z,its,n,r,e]:=x;exact#[z,its,n,r,k _ _ (.inl rfl) e]
 |b xs=>let#[z,its,r,ob,e,c]:=x;exact#[z,its,r,ob,k _ _ (.inl rfl) e,c]
 |e kvs=>let#[z,y,vs,r,ob,es,ep,e,c]:=x;exact#[z,y,vs,r,ob,es,ep,k _ _ (.inl rfl) e,c]
 |c kvs=>
  let#[z,y,xs,r,ob,es,ep,e,c]:=x;exact#[z,y,xs,Paired.Iw r λp q z=>#[z.1,ht _ _ z.2.1,z.2.2],ob,es,ep,k _ _ (.inl rfl) e,c]
 |i Q7 n=>let#[ob,es,ep,t,e,c]:=x;exact#[ob,es,ep,t,k _ _ (.inl rfl) e,c]
 |g C dx fs=>
  let#[d,z,ne,e,mA,#[od,es,ep,e2,c],r]:=x;exact#[ho _ d,z,ne,k _ _ (.inl rfl) e,mA,#[od,es,ep,k _ _ (.inr d) e2,c],r]
 |d y=>let#[ob,e]:=x;exact#[ob,k _ _ (.inl rfl) e]
 |k fs=>let#[mA,#[od,es,ep,e,c],r]:=x;exact#[mA,#[od,es,ep,k _ _ (.inl rfl) e,c],r]
 |l lo hi=>let#[t,u,v,e]:=x;exact#[t,u,v,k _ _ (.inl rfl) e]
 |f ob u ih=>let#[e,q]:=x;exact#[k _ _ (.inl rfl) e,ih q]
 |h ps=>
  let#[qs,e,t,c]:=x;refine#[qs,k _ _ (.inl rfl) e,t,λpos cv q=>?_];let#[c',oc,vs,tq,rfl,e2,z]:=c pos cv q;exact#[c',oc,vs,tq,rfl,hf _ _ _ e2,z]
 |m f y=>
  have e:=x;exact k a _ (.inl rfl) e
 |j φ=>let#[p,#[o,e],st]:=x;exact#[st _ _ p λo q=>k _ _ (.inl rfl) q,#[o,k _ _ (.inl rfl) e],st]
def gM.lt(x:gM P w H h)(e:H a=M o):a<h.objs.size:=(x a o e).lt
def gM.fresh(x:gM P w H h)(e:h.objs.size<=a):H a=S:=by
 cases q:H a with
 |none=>rfl
 |some u=>exact aI (bX (x.lt q) e)<|cW _
def gM.ac(x:gM P w H h)(k:∀b u,h.get? b=M u->h'.get? b=M u):gM P w H h':=λa o e=>
 (x a o e).ab (λb u _ q=>k b u q) (λ_ q=>q) (λ_ _ q=>q) λ_ _ _ q=>q
def gM.ad(x:gM P w H h)(k:∀b u,h.get? b=M u->h'.get? b=M u)(hp:h.objs.size<=a)(new:fU P w (upd H a o) h' a o):gM P w (upd H a o) h':=λb u e=>by
 have hn:=x.fresh hp;by_cases hb:b=a
 .subst hb;rw[bZ]at e;cases e;exact new
 .rw[bg hb]at e;exact(x b u e).ab (λc v _ q=>k c v q) (λc q=>by rw[bg<|cj q hn];exact q) (λc xs q=>by rw[bg<|cj q hn];exact q) λc ob xs q=>by rw[bg<|cj q hn];exact q
end
def Rd(H:Hp)(a:Addr)(u:HO):Prop:=H a=M u\/∃o,H a=M (.f o u)
def Rd.ok(r:Rd H a u)(x:gM P w H h):fU P w H h a u:=by
 rcases r with r|⟨o,r⟩
 .exact x a u r
 .let#[_,q]:=x a _ r;exact q
def SQ:LD HO->Prop
|some (.a _)=>True
|some (.e _)=>True
|some (.c _)=>True
|some (.i _ _)=>True
|some (.g _ _ _)=>True
|some (.j _)=>True
|_=>bu
section
variable{P:bS}{w:bO}{H:Hp}{h h':Heap}{x e:Addr}{o':HO}
def gM.ar(ok:gM P w H h)(mu:SQ<|H x)(he:e=x\/H e=M (.d x))(k:∀b u,b≠e->h.get? b=M u->h'.get? b=M u)(TN:∃u,h'.get? e=M u)(new:fU P w (upd H x o') h' x o'):gM P w (upd H x o') h':=λb u q=>by
 have ja:∀c y,H c=M (.d y)->c≠x:=λc y r z=>by subst z;rw[r]at mu;exact mu
 have ww1:∀c xs,H c=M (.b xs)->c≠x:=λc xs r z=>by subst z;rw[r]at mu;exact mu
 by_cases hb:b=x
 .subst hb;rw[bZ]at q;cases q;exact new
 .rw[bg hb]at q;by_cases Te:b=e
  .have q':H b=M (.d x):=by
    rcases he with z|z
    .exact aI (Te.trans z) hb
    .rw[Te];exact z
   rw[q]at q';cases q';let#[v,hv]:=TN;exact#[v,by rw[Te];exact hv]
  .refine(ok b u q).ab (λc v hc r=>k c v ?_ r) (λc r=>by rw[bg<|ja c b r];exact r) (λc xs r=>by rw[bg<|ww1 c xs r];exact r) λc ob xs r=>by rw[bg λz=>by subst z;rw[r]at mu;exact mu];exact r
   rcases hc with rfl|hc
   .exact Te
   .rintro rfl;rcases he with z|z
    .exact ja c b hc z
    .rw[hc]at z;cases z;exact hb rfl
end
structure Un (fs ex:B Addr) (H H':Hp) (h h':Heap):Prop where
 keep:∀b o,h.get? b=M o->H b=S->b∉fs->b∉ex->h'.get? b=M o
 slot:∀b o,h.get? b=M o->H b=S->b∈fs->b∉ex->∃sl,h'.get? b=M { o with slots:=sl }
 free:∀b o,h.get? b=M o->H b=S->b∉ex->H' b=S
 there:∀b o,h.get? b=M o->b∉ex->∃o',h'.get? b=M o'
 tups:∀b xs,H b=M (.b xs)->H' b=M (.b xs)
 aD:∀b o u,H b=M (.f o u)->H' b=M (.f o u)
 tbls:∀b ps,H b=M (.h ps)->∃more,H' b=M (.h (ps++more))
section
variable{fs fs' ex tset:B Addr}{H H1 H2:Hp}{h h1 h2 h':Heap}{a x e:Addr}{o:HO}
def Un.any(u:Un fs ex H H1 h h1)(q:h.get? b=M ob)(n:H b=S)(hx:b∉ex):∃sl,h1.get? b=M { ob with slots:=sl }:=by
 by_cases hb:b∈fs
 .exact u.slot b ob q n hb hx
 .exact#[ob.slots,u.keep b ob q n hb hx]
def Un.ac(k:∀b u,h.get? b=M u->h'.get? b=M u):Un fs ex H H h h':=
 #[λb ob q _ _ _=>k b ob q,λb ob q _ _ _=>#[ob.slots,k b ob q],λ_ _ _ n _=>n,λb ob q _=>#[ob,k b ob q],λ_ _ q=>q,λ_ _ _ q=>q,λ_ ps q=>#[#[],by rw[q];simp]]
def Un.refl:Un fs ex H H h h:=Un.ac λ_ _ q=>q
def Un.ad(k:∀b u,h.get? b=M u->h'.get? b=M u)(hp:h.objs.size<=a)(hn:H a=S):Un fs ex H (upd H a o) h h' where
 keep:=λb u q _ _ _=>k b u q
 slot:=λb u q _ _ _=>#[u.slots,k b u q]
 free:=λb u q n _=>by rw[bg<|bI<|bX (aQ q) hp];exact n
 there:=λb u q _=>#[u,k b u q]
 tups:=λb xs q=>by rw[bg<|cj q hn];exact q
 aD:=λb u xs q=>by rw[bg<|cj q hn];exact q
 tbls:=λb ps q=>#[#[],by rw[bg<|cj q hn,q];simp]
def Un.ar(mu:SQ<|H x)(he:e=x\/H e=M (.d x))(k:∀b u,b≠e->h.get? b=M u->h'.get? b=M u)(TN:∃u,h'.get? e=M u):Un fs ex H (upd H x o) h h':=by
 have hx:∀b,H b=S->b≠x:=λb n z=>by subst z;rw[n]at mu;exact mu
 have hb:∀b,H b=S->b≠e:=λb n z=>by
  subst z;rcases he with r|r
  .exact hx b n r
  .rw[n]at r;cases r
 have hm:∀b u,H b=M u->¬SQ (M u)->b≠x:=λb u q nm z=>by subst z;rw[q]at mu;exact nm mu
 refine#[λb u q n _ _=>k b u (hb b n) q,λb u q n _ _=>#[u.slots,k b u (hb b n) q],λb u q n _=>by rw[bg<|hx b n];exact n,λb u q _=>?_,
  λb xs q=>by rw[bg<|hm b _ q λz=>z];exact q,λb u xs q=>by rw[bg<|hm b _ q λz=>z];exact q,λb ps q=>#[#[],by rw[bg<|hm b _ q λz=>z,q];simp]]
 by_cases Te:b=e
 .subst Te;exact TN
 .exact#[u,k b u Te q]
end
noncomputable def Zj(h:Heap)(H:Hp):B Addr:=(bW h.objs.size).filter λa=>(H a).isSome
def Aw(h:Heap)(H:Hp):Heap:=PySem.W.hideAll h<|Zj h H
def adQ(h:Heap)(H:Hp):(Aw h H).objs.size=h.objs.size:=adf _ _
def fpC(e:h.get? b=M o)(n:H b=S):(Aw h H).get? b=M o:=
 ad5 _ e λhm=>by
  have q:=(i9.mp hm).2;rw[n]at q;simp at q
def aam(e:(Aw h H).get? b=M o):h.get? b=M o/\H b=S:=by
 have e':=fd2 (Zj h H) e;refine#[e',?_];cases q:H b with
 |none=>rfl
 |some x=>
  have hm:b∈Zj h H:=i9.mpr #[fJ.mpr<|aQ e',by simp[q]];have z:(Aw h H).get? b=S:=adn (Zj h H) hm;rw[z]at e;cases e
noncomputable def aan(g h:Heap)(Q9:Addr):B (Addr×Obj):=(bW h.objs.size).filterMap λa=>if a=Q9\/(g.get? a).isSome=L then S else(h.get? a).map λo=>(a,o)
def RJ(g h:Heap)(Q9 d:Addr):B (Addr×Obj):=(aan g h Q9).filter λp=>decide<|p.1≠d
end L2
namespace L2
open PySem PySem.Spec PyProof.Rows
structure Mod (K:ao) (mg:Str->LD B5) (base:Heap):Prop where
 kin:K.In base
 glob:base.Ns eV mg
 ab:∃mb,base.Ns qF mb/\∀x:Str,x≠"__name__"->mb x=xY x
 nolimit:base.NoLimit
 bmain:∃bm o,mg "__builtins__"=M (.ref bm)/\bm≠qF/\base.get? bm=M o/\o.cls=.type "module"/\o.dict=M qF/\o.data=.plain
structure Cx where
 prog:bS
 w:bO
 K:ao
 mg:Str->LD B5
 base:Heap
 A:cY
 N:B Str
 ais:az
 aiD:Hp
 ab:Env
 outer:B Env
 stack:B Env
 ex:B Addr
 fn:Str->Bool
 ac:Bool
 pn:B (Addr×Obj)
 xe:B5->az->Prop
noncomputable def frs(l:B Env):B Addr:=l.filterMap (·.frame)
abbrev Cx.fs(X:Cx):B Addr:=frs X.outer
noncomputable def o6:B (Addr×Str):=[(93,"some_finding.<locals>.<lambda>")]
def Tb(H:Hp):Prop:=∀p∈o6,∃more,H p.1=M (.h<|#[.str p.2 0]++more)
def Tb.ac(t:Tb H)(h:∀b ps,H b=M (.h ps)->∃more,H' b=M (.h<|ps++more)):Tb H':=λp hp=>by
 let#[m,e]:=t p hp;let#[m',e']:=h _ _ e;exact#[m++m',by rw[e',C7]]
def SS(sc:fG)(x:Str):Prop:=sc.names.lookup x=M .local\/sc.names.lookup x=M .cell\/sc.names.lookup x=M .free
def Loc(sc:fG)(x:Str):Prop:=sc.names.lookup x=M .local\/sc.names.lookup x=M .cell
def Look(env:Env)(h:Heap)(m:Str->LD B5)(x:Str)(u:B5):Prop:=
 (env.kindOf x=M .local/\m x=M u)\/((env.kindOf x=M .cell\/env.kindOf x=M .free)/\∃c,env.cells.lookup x=M c/\h.IsCell c (M u))
structure Cx.Ok (X:Cx):Prop where
 mod:Mod X.K X.mg X.base
 kind:X.ab.scope.kind=.function
 glob:X.ab.globals=eV
 ab:X.ab.builtins=qF
 above:X.ais.heap.objs.size<=X.ab.locals
 inj:∀x y c,X.ab.cells.lookup x=M c->X.ab.cells.lookup y=M c->x=y
 has:∀x,(X.ab.kindOf x=M .cell\/X.ab.kindOf x=M .free)->∃c,X.ab.cells.lookup x=M c
 cab:∀x c,X.fn x=L->X.ab.cells.lookup x=M c->X.ais.heap.objs.size<=c
 hd:X.ac=L->X.A.handled=S
 frames:X.A.frames=M X.stack
 stk:X.stack=X.outer\/(X.stack=X.ab::X.outer/\X.ab.frame=M X.ab.locals)
 exf:∀b∈X.ex,b≠X.ab.locals/\∀x c,X.ab.cells.lookup x=M c->c≠b
 bs:∀b o,X.base.get? b=M o->X.ais.heap.get? b=M o/\X.aiD b=S
 bsz:X.base.objs.size<=X.ais.heap.objs.size
 noex:∀b o,X.base.get? b=M o->b∉X.ex
 exfs:∀b∈X.ex,b∉X.fs
 uE:X.ais.heap.FunFrames X.base X.outer
 frf:(∀b∈X.fs,X.aiD b=S)/\Tb X.aiD
structure Inv (X:Cx) (pins:B (Addr×Obj)) (O:B (LD V)) (H:Hp) (s:az):Prop where
 ok:X.Ok
 os:s.os=X.ais.os
 bare:qG s.gens
 base:Un X.fs X.ex X.aiD H X.ais.heap s.heap
 loc:∃m,s.heap.Ns X.ab.locals m/\∀(i:Nat) (x:Str) (v:V),X.N[i]?=M x->O[i]?=M (M v)->SS X.ab.scope x->∃u,acb v u/\Look X.ab s.heap m x u
 cell:∀x c,X.ab.cells.lookup x=M c->∃v,s.heap.IsCell c v
 free:H X.ab.locals=S
 freeC:∀x c,X.ab.cells.lookup x=M c->H c=S
 pin:∀p∈X.pn++pins,s.heap.get? p.1=M p.2/\H p.1=S/\p.1≠X.ab.locals/\p.1∉X.fs/\∀v,p.2.data≠.cell v
 ab:gM X.prog X.w H s.heap
 len:zl O=zl X.N
section
variable{X:Cx}{pins:B (Addr×Obj)}{O:B (LD V)}{H H':Hp}{s:az}{h':Heap}
def Cx.Ok.ac(ok:X.Ok)(e:X.base.get? b=M o):b∉X.fs:=λhb=>by
 have:=(ok.uE.mem hb).1;rw[e]at this;cases this
def Inv.bs(I:Inv X pins O H s):∀b o,X.base.get? b=M o->s.heap.get? b=M o/\H b=S:=λb o e=>
 #[I.base.keep b o (I.ok.bs b o e).1 (I.ok.bs b o e).2 (I.ok.ac e)<|I.ok.noex b o e,I.base.free b o (I.ok.bs b o e).1 (I.ok.bs b o e).2<|I.ok.noex b o e]
def Inv.bk(I:Inv X pins O H s):∀b o,X.base.get? b=M o->s.heap.get? b=M o:=λb o e=>(I.bs b o e).1
def Inv.mod(I:Inv X pins O H s):Mod X.K X.mg X.base:=I.ok.mod
def Inv.xo(I:Inv X pins O H s):X.K.In s.heap:=I.ok.mod.kin.keeps I.bk
def Inv.nolimit(I:Inv X pins O H s):s.heap.NoLimit:=I.ok.mod.nolimit.keeps I.bk
def Inv.lt(I:Inv X pins O H s):X.ab.locals<s.heap.objs.size:=let⟨_,hn,_⟩:=I.loc;hn.lt
def Inv.sz(I:Inv X pins O H s):X.ais.heap.objs.size<=s.heap.objs.size:=cu I.ok.above<|fO I.lt
def Inv.bj(I:Inv X pins O H s)(h:s.heap.objs.size<=a):a∉X.fs:=λhb=>by
 let#[_,o,ho,_]:=I.ok.uE.mem hb;exact aI (bX (aQ ho)<|cu I.sz h)<|cW _
def Inv.Mc(I:Inv X pins O H s):∀x c,X.ab.cells.lookup x=M c->c≠X.ab.locals:=λx c e z=>by
 let#[v,o,ho,hd]:=I.cell x c e;let#[m,#[o',es,ep,ho',hd',_],_]:=I.loc;rw[z,ho']at ho;cases ho;rw[hd']at hd;cases hd
def Inv.uE(I:Inv X pins O H s):s.heap.FunFrames X.base X.outer:=by
 have all:∀(l:B Env),(∀b∈frs l,b∈X.fs)->X.ais.heap.FunFrames X.base l->s.heap.FunFrames X.base l:=by
  intro l;induction l with
  |nil=>intro _ _;trivial
  |cons env r ih=>
   intro hs hl;let#[hk,#[Q9,o,hf,hn,ho,hd],hr]:=hl;have hL:=hs Q9 (by unfold frs;rw[oK,hf];exact aB);let#[sl,e]:=I.base.slot Q9 o ho (I.ok.frf.1 Q9 hL) hL λz=>I.ok.exfs Q9 z hL;exact#[hk,#[Q9,_,hf,hn,e,hd],ih (λb hb=>hs b (by unfold frs;rw[oK,hf];exact aq _ hb)) hr]
 exact all X.outer (λ_ hb=>hb) I.ok.uE
def Inv.stack(I:Inv X pins O H s):s.heap.FunFrames X.base X.stack:=by
 rcases I.ok.stk with e|⟨e,hf⟩
 .rw[e];exact I.uE
 .rw[e];let#[m,hn,_]:=I.loc;refine .cons (by rw[I.ok.kind];decide) hf hn ?_ I.uE;exact Heap.get?_none_of_le<|cu I.ok.bsz I.ok.above
def Inv.BS(I:Inv X pins O H s):∀b∈frs X.stack,b∈X.ab.locals::X.fs:=λb hb=>by
 rcases I.ok.stk with e|⟨e,hf⟩
 .rw[e]at hb;exact aq _ hb
 .rw[e]at hb;unfold frs at hb;rw[oK,hf]at hb;exact hb
def Inv.tb(I:Inv X pins O H s):Tb H:=I.ok.frf.2.ac I.base.tbls
def Inv.Iz(I:Inv X pins O H s):∀b∈frs X.stack,H b=S:=λb hb=>by
 rcases aO.mp (I.BS b hb)with e|hb
 .rw[e];exact I.free
 .let#[_,o,ho,_]:=I.ok.uE.mem hb;exact I.base.free b o ho (I.ok.frf.1 b hb) λz=>I.ok.exfs b z hb
def Inv.step{g':Array GenState}{t':Nat}{d':Drawn}{ch:B Addr}(I:Inv X pins O H s)(hch:∀b∈ch,(b∈X.ex\/X.ais.heap.objs.size<=b)/\b≠X.ab.locals/\(∀x c,X.ab.cells.lookup x=M c->c≠b)/\∀p∈X.pn++pins,p.1≠b)(keep:∀b o,b≠X.ab.locals->b∉X.fs->b∉ch->s.heap.get? b=M o->H b=S->h'.get? b=M o)(slot:∀b o,b≠X.ab.locals->b∈X.fs->b∉ch->s.heap.get? b=M o->H b=S->∃sl,h'.get? b=M { o with slots:=sl })(free:∀b o,b∉ch->s.heap.get? b=M o->H b=S->H' b=S)(there:∀b o,b∉ch->s.heap.get? b=M o->∃o',h'.get? b=M o')(tups:∀b xs,H b=M (.b xs)->H' b=M (.b xs))(aD:∀b o u,H b=M (.f o u)->H' b=M (.f o u))(tbls:∀b ps,H b=M (.h ps)->∃more,H' b=M (.h<|ps++more))(ns:∀m,s.heap.Ns X.ab.locals m->h'.Ns X.ab.locals m)(hok:gM X.prog X.w H' h')(hg:qG g'):Inv X pins O H' { s with heap:=h',gens:=g',drawn:=d',toks:=t' }:=by
 have gn:∀b o,X.ais.heap.get? b=M o->b≠X.ab.locals:=λb o e=>bI<|bX (aQ e) I.ok.above;have VE:∀b o,X.ais.heap.get? b=M o->b∉X.ex->b∉ch:=λb o e hx hb=>by
  rcases(hch b hb).1 with z|z
  .exact hx z
  .exact aI (bX (aQ e) z) (cW _)
 have cellK:∀x c,X.ab.cells.lookup x=M c->∀v,s.heap.IsCell c v->h'.IsCell c v:=λx c e v ⟨o,ho,hd⟩=>by
  have Ua:=λz=>(hch c z).2.2.1 x c e rfl;by_cases hc:c∈X.fs
  .let#[sl,q]:=slot c o (I.Mc x c e) hc Ua ho<|I.freeC x c e;exact#[_,q,hd]
  .exact#[o,keep c o (I.Mc x c e) hc Ua ho<|I.freeC x c e,hd]
 refine#[I.ok,I.os,hg,#[λb o e n hb hx=>?_,λb o e n hb hx=>?_,λb o e n hx=>?_,λb o e hx=>?_,λb xs e=>tups b xs<|I.base.tups b xs e,λb o xs e=>aD b o xs<|I.base.aD b o xs e,λb ps e=>?_],?_,λx c e=>?_,?_,λx c e=>?_,λp hp=>?_,hok,I.len]
 .exact keep b o (gn b o e) hb (VE b o e hx) (I.base.keep b o e n hb hx) (I.base.free b o e n hx)
 .let#[sl,e1]:=I.base.slot b o e n hb hx;let#[if_5,e2]:=slot b _ (gn b o e) hb (VE b o e hx) e1<|I.base.free b o e n hx;exact#[if_5,e2]
 .let#[o',e1]:=I.base.there b o e hx;exact free b o' (VE b o e hx) e1<|I.base.free b o e n hx
 .let#[o',e1]:=I.base.there b o e hx;exact there b o' (VE b o e hx) e1
 .let#[m1,e1]:=I.base.tbls b ps e;let#[m2,e2]:=tbls b _ e1;exact#[m1++m2,by rw[e2,C7]]
 .let#[m,hn,hl]:=I.loc;refine#[m,ns m hn,λi x v e1 e2 e3=>?_];let#[u,r,l]:=hl i x v e1 e2 e3;refine#[u,r,?_];rcases l with l|⟨k,c,e,z⟩
  .exact .inl l
  .exact .inr #[k,c,e,cellK x c e _ z]
 .let#[v,z]:=I.cell x c e;exact#[v,cellK x c e v z]
 .let#[m,#[o,_,_,ho,_],_]:=I.loc;exact free _ o (λz=>(hch _ z).2.1 rfl) ho I.free
 .let#[v,o,ho,hd]:=I.cell x c e;exact free c o (λz=>(hch c z).2.2.1 x c e rfl) ho<|I.freeC x c e
 .let#[e,n,ne,nf,d]:=I.pin p hp;have Ua:=λz=>(hch p.1 z).2.2.2 p hp rfl;exact#[keep p.1 p.2 ne nf Ua e n,free p.1 p.2 Ua e n,ne,nf,d]
def Inv.un{t':Nat}(I:Inv X pins O H s)(u:Un X.fs [] H H' s.heap h')(hok:gM X.prog X.w H' h'):Inv X pins O H' { s with heap:=h',toks:=t' }:=by
 let#[m,#[o,es,ep,ho,r],_]:=id I.loc;let#[sl,hL]:=u.any ho I.free (by simp);exact I.step (g':=s.gens) (d':=s.drawn) (ch:=[]) (λ_ z=>nomatch z) (λb o _ hb _ e n=>u.keep b o e n hb<|by simp) (λb o _ hb _ e n=>u.slot b o e n hb<|by simp) (λb o _ e n=>u.free b o e n<|by simp) (λb o _ e=>u.there b o e<|by simp) u.tups u.aD u.tbls (λm' hm=>by
  let#[o',es',W2,ho',r']:=hm;rw[ho]at ho';cases ho';exact#[_,es',W2,hL,r']) hok I.bare
def Inv.call{g':Array GenState}{t':Nat}{d':Drawn}{ch:B Addr}(I:Inv X pins O H s)(u:Un (frs X.stack) ch H H' s.heap h')(hok:gM X.prog X.w H' h')(hg:qG g')(hch:∀b∈ch,(b∈X.ex\/X.ais.heap.objs.size<=b)/\b≠X.ab.locals/\(∀x c,X.ab.cells.lookup x=M c->c≠b)/\∀p∈X.pn++pins,p.1≠b):Inv X pins O H' { s with heap:=h',gens:=g',drawn:=d',toks:=t' }:=by
 let#[m,#[o,es,ep,ho,r],_]:=id I.loc;let#[sl,hL]:=u.any ho I.free λz=>(hch _ z).2.1 rfl;exact I.step (ch:=ch) hch (λb o hL hb hc e n=>u.keep b o e n (λz=>(aO.mp<|I.BS b z).elim hL hb) hc) (λb o _ _ hc e n=>u.any e n hc) (λb o hc e n=>u.free b o e n hc) (λb o hc e=>u.there b o e hc) u.tups u.aD u.tbls (λm' hm=>by
  let#[o',es',W2,ho',r']:=hm;rw[ho]at ho';cases ho';exact#[_,es',W2,hL,r']) hok hg
def Inv.am{t':Nat}{it:Addr}(I:Inv X pins O H s)(k:∀b o,b≠it->s.heap.get? b=M o->h'.get? b=M o)(hn:H it=S)(hL:it≠X.ab.locals)(h1:it∈X.ex\/X.ais.heap.objs.size<=it)(h2:∀x c,X.ab.cells.lookup x=M c->c≠it)(h3:∀p∈X.pn++pins,p.1≠it):Inv X pins O H { s with heap:=h',toks:=t' }:=by
 have i6:∀b u,H b=M u->b≠it:=λb u e z=>by lia
 refine I.step (g':=s.gens) (d':=s.drawn) (ch:=[it]) (λb hb=>?_) (λb o _ _ hc e _=>k b o (λz=>hc<|by simp[z]) e) (λb o _ _ hc e _=>#[o.slots,k b o (λz=>hc<|by simp[z]) e]) (λ_ _ _ _ n=>n)
  (λb o hc e=>#[o,k b o (λz=>hc<|by simp[z]) e]) (λ_ _ e=>e) (λ_ _ _ e=>e) (λb ps e=>#[#[],by rw[e];simp]) (λm hm=>?_) (λb u e=>?_) I.bare
 .have e:b=it:=by simpa using hb
  subst e;exact#[h1,hL,h2,h3]
 .let#[o,es,ep,ho,r]:=hm;exact#[o,es,ep,k _ o (gi hL) ho,r]
 .refine(I.ab b u e).ab (λc v hc q=>k c v ?_ q) (λ_ q=>q) (λ_ _ q=>q) λ_ _ _ q=>q;rcases hc with z|z
  .rw[z];exact i6 b u e
  .exact i6 c _ z
def Inv.tok(I:Inv X pins O H s)(t:Nat):Inv X pins O H { s with toks:=t }:=I.un (h':=s.heap) (t':=t) Un.refl I.ab
def Inv.ac{t':Nat}(I:Inv X pins O H s)(k:∀b u,s.heap.get? b=M u->h'.get? b=M u):Inv X pins O H { s with heap:=h',toks:=t' }:=I.un (Un.ac k)<|I.ab.ac k
def Inv.ad{t':Nat}(I:Inv X pins O H s)(k:∀b u,s.heap.get? b=M u->h'.get? b=M u)(hp:s.heap.objs.size<=a)(new:fU X.prog X.w (upd H a o) h' a o):Inv X pins O (upd H a o) { s with heap:=h',toks:=t' }:=I.un (Un.ad k hp<|I.ab.fresh hp)<|I.ab.ad k hp new
def Inv.ar{t':Nat}(I:Inv X pins O H s)(mu:SQ<|H x)(he:e=x\/H e=M (.d x))(k:∀b u,b≠e->s.heap.get? b=M u->h'.get? b=M u)(TN:∃u,h'.get? e=M u)(new:fU X.prog X.w (upd H x o) h' x o):Inv X pins O (upd H x o) { s with heap:=h',toks:=t' }:=I.un (Un.ar mu he k TN)<|I.ab.ar mu he k TN new
def Inv.w_(I:Inv X pins O H s)(h:∀p∈X6,s.heap.get? p.1=M p.2/\H p.1=S/\p.1≠X.ab.locals/\p.1∉X.fs/\∀v,p.2.data≠.cell v):Inv X X6 O H s:=
 #[I.ok,I.os,I.bare,I.base,I.loc,I.cell,I.free,I.freeC,λp hp=>(bh.mp hp).elim (λz=>I.pin p<|cz _ z)<|h p,I.ab,I.len]
def Me{N:B Str}(hN:N.Nodup){i j:Nat}{x:Str}(a:N[i]?=M x)(b:N[j]?=M x):i=j:=by
 let#[h1,e1]:=aW.mp a;let#[h2,e2]:=aW.mp b;exact(F8 hN).mp (e1.trans e2.symm)
def JL{R4:Model}{A:cY}{E:B5->az->Prop}{i:Nat}{x:Str}{v:V}{u:B5}{Q:Unit->az->Prop}(I:Inv X pins O H s)(hN:X.N.Nodup)(hi:X.N[i]?=M x)(hx:Loc X.ab.scope x)(r:acb v u)(h:∀s',Inv X pins (O.set i<|M v) H s'->(∃a,jP a s.heap s'.heap/\(a=X.ab.locals\/X.ab.cells.lookup x=M a))->Q () s')(hf:X.fn x=L\/X.ab.scope.names.lookup x=M .local):a_ R4 A (K7 X.ab x u) Q E s:=by
 let#[m,hn,hl]:=id I.loc;have hcls:(X.ab.scope.kind==.class||(X.ab.scope.kind==.module&&X.ab.locals != X.ab.globals))=W:=by rw[I.ok.kind];rfl
 have YR:i<zl O:=by rw[I.len];exact(aW.mp hi).1
 have Mc:=I.Mc;have tracked:∀{a:Addr}{h':Heap},(∃o,s.heap.get? a=M o/\H a=S)->jP a s.heap h'->gM X.prog X.w H h':=λ{a h'} ha hs b ob e=>by
  let#[_,_,hfree]:=ha;refine(I.ab b ob e).ab (λc w' hc q=>(hs.2 c ?_).trans q) (λ_ q=>q) (λ_ _ q=>q) λ_ _ _ q=>q;rintro rfl;rcases hc with rfl|hc
  .rw[hfree]at e;cases e
  .rw[hfree]at hc;cases hc
 rcases hx with hk|hk
 .refine wpAny_storeName_local hk hn (λh' hn' hs=>?_) hcls;let#[oL,_,_,SO,_]:=id hn;refine h _ #[I.ok,I.os,I.bare,#[λb o e n hb hx=>?_,λb o e n hb hx=>?_,I.base.free,λb o e hx=>?_,I.base.tups,I.base.aD,I.base.tbls],#[_,hn',λj y v' e1 e2 e3=>?_],λy c e=>?_,I.free,I.freeC,λp hp=>?_,tracked #[oL,SO,I.free] hs,by simpa using I.len] #[_,hs,.inl rfl]
  .exact(hs.2 b<|bI<|bX (aQ e) I.ok.above).trans (I.base.keep b o e n hb hx)
  .let#[sl,e1]:=I.base.slot b o e n hb hx;exact#[sl,(hs.2 b<|bI<|bX (aQ e) I.ok.above).trans e1]
  .let#[o',e1]:=I.base.there b o e hx;exact#[o',(hs.2 b<|bI<|bX (aQ e) I.ok.above).trans e1]
  .by_cases hj:j=i
   .subst hj;rw[hi]at e1;cases e1;rw[mw YR]at e2;cases e2;exact#[u,r,.inl #[hk,by simp]]
   .rw[dw<|gi hj]at e2;let#[u',r',q]:=hl j y v' e1 e2 e3;refine#[u',r',?_];rcases q with⟨k,e⟩|⟨k,c,e,z⟩
    .refine .inl #[k,?_];have:y≠x:=λe=>hj<|Me hN e1<|e▸hi;simp[this,e]
    .exact .inr #[k,c,e,z.sameBut hs<|Mc y c e]
  .let#[w',z]:=I.cell y c e;exact#[w',z.sameBut hs<|Mc y c e]
  .let#[e,n,ne,nf,d]:=I.pin p hp;exact#[(hs.2 p.1 ne).trans e,n,ne,nf,d]
 .have hfn:X.fn x=L:=by
   rcases hf with z|z
   .exact z
   .rw[z]at hk;cases hk
  let#[c,hc]:=I.ok.has x<|.inl hk;let#[w',z]:=I.cell x c hc;refine wpAny_storeName_cell I.ok.kind hk hc z λh' hc' hs=>?_;let#[oc,hoc,sq6]:=id z;refine h { s with heap:=h' } #[I.ok,I.os,I.bare,#[λb o e n hb hx=>?_,λb o e n hb hx=>?_,I.base.free,λb o e hx=>?_,I.base.tups,I.base.aD,I.base.tbls],#[m,hn.sameBut hs<|gi<|Mc x c hc,λj y v' e1 e2 e3=>?_],λy c' e=>?_,I.free,I.freeC,λp hp=>?_,tracked #[oc,hoc,I.freeC x c hc] hs,by simpa using I.len] #[c,hs,.inr hc]
  .exact(hs.2 b<|bI<|bX (aQ e)<|I.ok.cab x c hfn hc).trans (I.base.keep b o e n hb hx)
  .let#[sl,e1]:=I.base.slot b o e n hb hx;exact#[sl,(hs.2 b<|bI<|bX (aQ e)<|I.ok.cab x c hfn hc).trans e1]
  .let#[o',e1]:=I.base.there b o e hx;exact#[o',(hs.2 b<|bI<|bX (aQ e)<|I.ok.cab x c hfn hc).trans e1]
  .by_cases hj:j=i
   .subst hj;rw[hi]at e1;cases e1;rw[mw YR]at e2;cases e2;exact#[u,r,.inr #[.inl hk,c,hc,hc']]
   .rw[dw<|gi hj]at e2;let#[u',r',q]:=hl j y v' e1 e2 e3;refine#[u',r',?_];rcases q with q|⟨k,c',e,z'⟩
    .exact .inl q
    .refine .inr #[k,c',e,z'.sameBut hs ?_];rintro rfl;exact hj<|Me hN e1<|I.ok.inj _ _ _ e hc▸hi
  .by_cases hcc:c'=c
   .subst hcc;exact#[_,hc']
   .let#[w2,z2]:=I.cell y c' e;exact#[w2,z2.sameBut hs hcc]
  .let#[e,n,ne,nf,d]:=I.pin p hp;refine#[(hs.2 p.1 ?_).trans e,n,ne,nf,d];intro q;rw[q,hoc]at e;have q':=cE e;exact d w' (by rw[<-q'];exact sq6)
def Mf{E:B5->az->Prop}{Q:Unit->az->Prop}(I:Inv X pins O H s)(hN:X.N.Nodup)(hi:X.N[i]?=M x)(hx:Loc X.ab.scope x)(r:acb v u)(h:∀s',Inv X pins (O.set i<|M v) H s'->Q () s')(hf:X.fn x=L\/X.ab.scope.names.lookup x=M .local):a_ R4 A (K7 X.ab x u) Q E s:=
 JL I hN hi hx r (λs' I' _=>h s' I') hf
def Inv.call'(I:Inv X pins O H s)(ho:s'.os=s.os)(u:Un (frs X.stack) ch H H' s.heap s'.heap)(hok:gM X.prog X.w H' s'.heap)(hg:qG s'.gens)(hch:∀b∈ch,(b∈X.ex\/X.ais.heap.objs.size<=b)/\b≠X.ab.locals/\(∀x c,X.ab.cells.lookup x=M c->c≠b)/\∀p∈X.pn++pins,p.1≠b):Inv X pins O H' s':=by
 let#[h',g',d',t',o']:=s';have e:=ho;subst e;exact I.call (g':=g') (t':=t') (d':=d') u hok hg hch
end
abbrev XK:=B5->LD Addr->Hp->Prop
abbrev St:=B<|LD V
abbrev VK:=V->Hp->Prop
abbrev TE:=St->Hp->VK->Prop
abbrev TT:=St->Hp->(Bool->Hp->Prop)->Prop
abbrev TA:=St->Hp->(B V->Hp->Prop)->Prop
structure S3 where
 nx:St->Hp->Prop
 rt:VK
 bk:St->Hp->Prop:=λ_ _=>bu
 a:St->Hp->Prop:=λ_ _=>bu
abbrev TS:=S3->St->Hp->Prop
def EP(X:Cx)(pins:B<|Addr×Obj)(O:St)(Q:VK)(u:B5)(s':az):Prop:=∃v H',Inv X pins O H' s'/\acb v u/\Q v H'
def TP(X:Cx)(pins:B<|Addr×Obj)(O:St)(Q:Bool->Hp->Prop)(b:Bool)(s':az):Prop:=∃H',Inv X pins O H' s'/\Q b H'
def AP(X:Cx)(pins:B<|Addr×Obj)(O:St)(Q:B V->Hp->Prop)(us:B B5)(s':az):Prop:=∃vs H',Inv X pins O H' s'/\bN vs us/\Q vs H'
def SP(X:Cx)(pins:B<|Addr×Obj)(D:S3)(f:Flow)(s':az):Prop:=
 match f with
 |.next=>∃σ' H',Inv X pins σ' H' s'/\D.nx σ' H'
 |.brk=>∃σ' H',Inv X pins σ' H' s'/\D.bk σ' H'
 |.cont=>∃σ' H',Inv X pins σ' H' s'/\D.a σ' H'
 |.ret u=>∃v σ' H',Inv X pins σ' H' s'/\acb v u/\D.rt v H'
def PE(X:Cx)(e:Expr)(t:TE):Prop:=
 ∀(pins:B<|Addr×Obj) (s:az) (O:St) (H:Hp) (Q:VK),Inv X pins O H s->t O H Q->a_ (bf X.prog X.w) X.A (eval e X.ab) (EP X pins O Q) X.xe s
def PT(X:Cx)(e:Expr)(t:TT):Prop:=
 ∀(pins:B<|Addr×Obj) (s:az) (O:St) (H:Hp) (Q:Bool->Hp->Prop),Inv X pins O H s->t O H Q->a_ (bf X.prog X.w) X.A (C8 e X.ab<|eval e X.ab) (TP X pins O Q) X.xe s
def PW(X:Cx)(e:Expr)(t:TT):Prop:=
 ∀(whole:Sem B5) (pins:B<|Addr×Obj) (s:az) (O:St) (H:Hp) (Q:Bool->Hp->Prop),Inv X pins O H s->t O H Q->a_ (bf X.prog X.w) X.A (C8 e X.ab whole) (TP X pins O Q) X.xe s
def PW.pt(h:PW X e t):PT X e t:=h _
def PA(X:Cx)(es:B Expr)(t:TA):Prop:=
 ∀(pos:Pos) (pins:B<|Addr×Obj) (s:az) (O:St) (H:Hp) (Q:B V->Hp->Prop),Inv X pins O H s->t O H Q->a_ (bf X.prog X.w) X.A (Qx<|ud pos<|gp es X.ab) (AP X pins O Q) X.xe s
def PS(X:Cx)(st:Stmt)(t:TS):Prop:=
 ∀(pins:B<|Addr×Obj) (s:az) (O:St) (H:Hp) (D:S3),Inv X pins O H s->t D O H->a_ (bf X.prog X.w) X.A (exec st X.ab) (SP X pins D) X.xe s
def zP(X:Cx)(st:B Stmt)(t:TS):Prop:=
 ∀(pins:B<|Addr×Obj) (s:az) (O:St) (H:Hp) (D:S3),Inv X pins O H s->t D O H->a_ (bf X.prog X.w) X.A (execs st X.ab) (SP X pins D) X.xe s
def bH{α:Type}{t:Sem α}{Q Q':α->az->Prop}{E:B5->az->Prop}(h:a_ R4 A t Q E s)(hQ:∀a s,Q a s->Q' a s):a_ R4 A t Q' E s:=gW h hQ λ_ _ x=>x
end L2
namespace L2
open PySem PySem.Spec PyProof.Rows
section
variable{X:Cx}
def tVar(i:Nat):TE:=λO H Q=>∃v,O[i]?=M (M v)/\Q v H
def tC(v:V):TE:=λ_ H Q=>Q v H
def acE(hN:X.N[i]?=M x)(hv:SS X.ab.scope x)(hd:(x==("__debug__":Str))=W:=by decide)(hcd:(x==("__classdict__":Str))=W:=by decide):PE X (.Name x pos) (tVar i):=by
 intro pins s O H Q I h;let#[v,e,h]:=h;let#[m,hn,hl]:=I.loc;let#[u,r,l]:=hl i x v hN e hv;have fin:EP X pins O Q u s:=#[v,H,I,r,h];rcases l with⟨hk,hm⟩|⟨hk,c,hc,hcell⟩
 .exact Ib (A7 I.ok.kind hk hn hm fin) hd
 .rcases hk with hk|hk
  .exact Ib (BH I.ok.kind hk hc hcell fin) hd
  .exact Ib (wpAny_loadName_free I.ok.kind hk hc hcell fin hcd) hd
def acF{i j pos}:PE X (.Constant (.int i) j pos) (tC<|.b i):=λ_ _ _ H _ I h=>wpAny_Constant_int #[.b i,H,I.tok _,#[_,rfl],h]
def ae8{b j pos}:PE X (.Constant (.bool b) j pos) (tC<|.c b):=λ_ _ _ H _ I h=>Constant_bool #[.c b,H,I,rfl,h]
def acG{j pos}:PE X (.Constant .none j pos) (tC .d):=λ_ _ _ H _ I h=>Constant_none #[.d,H,I,rfl,h]
def acH{x j pos}:PE X (.Constant (.str x) j pos) (tC<|.e x):=λ_ _ _ H _ I h=>Calls.Constant_str #[.e x,H,I.tok _,#[_,rfl],h]
def Gl(X:Cx)(x:Str):Prop:=X.ab.kindOf x=M .globalImplicit
def Dz{E:B5->az->Prop}{Q:B5->az->Prop}(I:Inv X pins O H s)(hg:Gl X x)(hm:X.mg x=M u)(h:Q u s)(hd:(x==("__debug__":Str))=W:=by decide):a_ (bf X.prog X.w) X.A (eval (.Name x pos) X.ab) Q E s:=
 v_ I.ok.kind hg (Calls.loadGlobal_global (by rw[I.ok.glob];exact I.mod.glob.keeps I.bk) hm h) hd
def mR{E:B5->az->Prop}{Q:B5->az->Prop}(I:Inv X pins O H s)(hg:Gl X x)(hm:X.mg x=S)(hv:xY x=M u)(h:Q u s)(hn:x≠"__name__":=by decide)(hd:(x==("__debug__":Str))=W:=by decide):a_ (bf X.prog X.w) X.A (eval (.Name x pos) X.ab) Q E s:=by
 let#[mb,h1,h2]:=I.mod.ab;exact v_ I.ok.kind hg (Calls.loadGlobal_builtin (by rw[I.ok.glob];exact I.mod.glob.keeps I.bk) hm (by rw[I.ok.ab];exact h1.keeps I.bk) ((h2 x hn).trans hv) h) hd
variable{a b:Expr}{ta tb:TE}{pos:Pos}
variable{tA VM:TT}{RJ:B Expr}
def tAnd(t u:TT):TT:=λO H Q=>t O H λc H1=>if c=L then u O H1 Q else Q W H1
def lf_3(t u:TT):TT:=λO H Q=>t O H λc H1=>if c=L then Q L H1 else u O H1 Q
def tNot(t:TT):TT:=λO H Q=>t O H λc H1=>Q (!c) H1
def pw_and1(ha:PT X a tA):PW X (.BoolOp .And [a] pos) tA:=by
 intro wh pins s O H Q I h;refine Sm<|bH (ha pins s O H Q I h) λc s1 e=>?_;cases c with
 |true=>exact isTrue_and_nil e
 |false=>exact e
def pw_or1(ha:PT X a tA):PW X (.BoolOp .Or [a] pos) tA:=by
 intro wh pins s O H Q I h;refine isTrue_or<|bH (ha pins s O H Q I h) λc s1 e=>?_;cases c with
 |false=>exact isTrue_or_nil e
 |true=>exact e
def pw_and(ha:PT X a tA)(hb:PW X (.BoolOp .And (b::RJ) pos) VM):PW X (.BoolOp .And (a::b::RJ) pos) (tAnd tA VM):=by
 intro wh pins s O H Q I h;refine Sm<|bH (ha pins s O H _ I h) λc s1 z0=>?_;let#[H1,I1,q1]:=z0;cases c with
 |true=>exact hb wh pins s1 O H1 Q I1 q1
 |false=>exact#[H1,I1,q1]
def pw_or(ha:PT X a tA)(hb:PW X (.BoolOp .Or (b::RJ) pos) VM):PW X (.BoolOp .Or (a::b::RJ) pos) (lf_3 tA VM):=by
 intro wh pins s O H Q I h;refine isTrue_or<|bH (ha pins s O H _ I h) λc s1 z0=>?_;let#[H1,I1,q1]:=z0;cases c with
 |true=>exact#[H1,I1,q1]
 |false=>exact hb wh pins s1 O H1 Q I1 q1
def acI(ha:PT X a tA):PT X (.UnaryOp .Not a pos) (tNot tA):=by
 intro pins s O H Q I h;exact isTrue_not<|ha pins s O H (λc H1=>Q (!c) H1) I h
def SV{op}(h:PE X a t):PE X (.BoolOp op [a] pos) t:=λpins s O H Q I hw=>BoolOp_one<|h pins s O H Q I hw
def lf_2(t:TT)(ta tb:TE):TE:=λO H Q=>t O H λc H1=>if c=L then ta O H1 Q else tb O H1 Q
def hV0{c:Expr}(hc:PT X c tA)(ha:PE X a ta)(hb:PE X b tb):PE X (.IfExp c a b pos) (lf_2 tA ta tb):=by
 intro pins s O H Q I h;refine wpAny_IfExp<|bH (hc pins s O H _ I h) λd s1 z0=>?_;let#[H1,I1,q1]:=z0;cases d with
 |true=>exact ha pins s1 O H1 Q I1 q1
 |false=>exact hb pins s1 O H1 Q I1 q1
end
end L2
namespace L2
open PySem PySem.Spec PyProof.Rows
def jo(K:ao)(H:Hp)(a:Addr)(xs:B V):Prop:=
 Rd H a (.a xs) \/
  ∃(o:Obj) (its:Array B5) (n:Nat),K.lookup a=M o/\o.cls=.type "list"/\o.dict=S/\o.data=.seq its n/\its.size<=aj/\bN xs its.toList
def ux(K:ao)(H:Hp)(a:Addr)(xs:B V):Prop:=
 Rd H a (.b xs) \/
  ∃(o:Obj) (its:Array B5) (n:Nat),K.lookup a=M o/\o.cls=.type "tuple"/\o.data=.seq its n/\its.size<=aj/\bN xs its.toList
noncomputable def rgq:B5->LD V
|.none=>M .d
|.bool b=>M<|.c b
|.int i _=>M<|.b i
|.str x _=>M<|.e x
|.bytes b _=>M<|.h b
|.float b _=>M<|.g b
|.ref a=>M<|.a a
|.type n=>M<|.f n
|_=>S
def acb.abs(r:acb x u):rgq u=M x:=by
 cases x with
 |d=>cases r;rfl
 |c _=>cases r;rfl
 |b _=>let#[t,rfl]:=r;rfl
 |e _=>let#[t,rfl]:=r;rfl
 |h _=>let#[t,rfl]:=r;rfl
 |g _=>let#[t,rfl]:=r;rfl
 |a _=>cases r;rfl
 |f _=>cases r;rfl
def acb.inj(r:acb x u)(q:acb y u):x=y:=cE<|r.abs.symm.trans q.abs
theorem bN.inj:∀{xs ys:B V}{us:B B5},bN xs us->bN ys us->xs=ys
|_,_,_,.nil,.nil=>rfl
|_,_,_,.cons r t,.cons r' t'=>by rw[r.inj r',bN.inj t t']
section
variable{X:Cx}{pins:B (Addr×Obj)}{O:St}{H:Hp}{s:az}{a:Addr}{xs ys:B V}
def Inv.list(I:Inv X pins O H s)(h:jo X.K H a xs):∃its:B B5,bN xs its/\PlainL s.heap a its.toArray/\xs.length<=aj:=by
 rcases h with h|⟨o,its,n,hk,hc,hd,hs,hz,r⟩
 .let#[z,its,n,r,e]:=h.ok I.ab;exact#[its,r,#[_,n,e,rfl,rfl,rfl],z]
 .refine#[its.toList,r,#[o,n,I.xo a o hk,hc,hd,by simpa using hs],?_];have e:=r.length;simp only[eB]at e
  lia
def Inv.tuple(I:Inv X pins O H s)(h:ux X.K H a xs):∃its:B B5,bN xs its/\IsTup s.heap a its.toArray/\xs.length<=aj:=by
 rcases h with h|⟨o,its,n,hk,hc,hs,hz,r⟩
 .let#[z,its,r,p]:=h.ok I.ab;exact#[its,r,p,z]
 .refine#[its.toList,r,#[o,I.xo a o hk,hc,n,by simpa using hs],?_];have e:=r.length;simp only[eB]at e
  lia
def Inv.Ax(I:Inv X pins O H s)(h:jo X.K H a xs)(h':jo X.K H a ys):xs=ys:=by
 let#[its,r,#[o,n,e,_,_,d],_]:=I.list h;let#[its',r',#[o',n',e',_,_,d'],_]:=I.list h';rw[e]at e';cases e';rw[d]at d';injection d' with d1 _;have:its=its':=by simp_all
 subst this;exact r.inj r'
def Inv.JM(I:Inv X pins O H s)(h:ux X.K H a xs)(h':ux X.K H a ys):xs=ys:=by
 let#[its,r,#[o,e,_,n,d],_]:=I.tuple h;let#[its',r',#[o',e',_,n',d'],_]:=I.tuple h';rw[e]at e';cases e';rw[d]at d';injection d' with d1 _;have:its=its':=by simp_all
 subst this;exact r.inj r'
end
noncomputable abbrev Cx.s_(X:Cx)(E:B5->az->Prop):Cx:={ X with xe:=E }
def Cx.Ok.s_{X:Cx}(ok:X.Ok)(E:B5->az->Prop):(X.s_ E).Ok:=
 #[ok.mod,ok.kind,ok.glob,ok.ab,ok.above,ok.inj,ok.has,ok.cab,ok.hd,ok.frames,ok.stk,ok.exf,ok.bs,ok.bsz,ok.noex,ok.exfs,ok.uE,ok.frf]
def Cx.Ok.vn{X:Cx}{E:B5->az->Prop}(ok:(X.s_ E).Ok):X.Ok:=
 #[ok.mod,ok.kind,ok.glob,ok.ab,ok.above,ok.inj,ok.has,ok.cab,ok.hd,ok.frames,ok.stk,ok.exf,ok.bs,ok.bsz,ok.noex,ok.exfs,ok.uE,ok.frf]
section
variable{X:Cx}{pins:B (Addr×Obj)}{O:St}{H:Hp}{s:az}{E:B5->az->Prop}
def Inv.s_(I:Inv X pins O H s)(E:B5->az->Prop):Inv (X.s_ E) pins O H s:=#[I.ok.s_ E,I.os,I.bare,I.base,I.loc,I.cell,I.free,I.freeC,I.pin,I.ab,I.len]
def Inv.vn(I:Inv (X.s_ E) pins O H s):Inv X pins O H s:=#[I.ok.vn,I.os,I.bare,I.base,I.loc,I.cell,I.free,I.freeC,I.pin,I.ab,I.len]
def SP.vn(h:SP (X.s_ E) pins D f s'):SP X pins D f s':=by
 cases f with
 |next=>let#[σ',H',I,q]:=h;exact#[σ',H',I.vn,q]
 |brk=>let#[σ',H',I,q]:=h;exact#[σ',H',I.vn,q]
 |cont=>let#[σ',H',I,q]:=h;exact#[σ',H',I.vn,q]
 |ret u=>let#[v,σ',H',I,r,q]:=h;exact#[v,σ',H',I.vn,r,q]
end
section
variable{X:Cx}{st:Stmt}{RJ:B Stmt}{t u:TS}{e:Expr}{te:TE}{pos:Pos}
def ae9:TS:=λD O H=>D.nx O H
def tSeq(t u:TS):TS:=λD O H=>t { D with nx:=u D } O H
def aao:zP X [] ae9:=λ_ _ O H _ I h=>yV #[O,H,I,h]
def hah(h1:PS X st t)(h2:zP X RJ u):zP X (st::RJ) (tSeq t u):=by
 intro pins s O H D I h;refine wpAny_execs_cons<|bH (h1 pins s O H { D with nx:=u D } I h) λf s1 q=>?_;cases f with
 |next=>
  let#[σ',H',I',q]:=q;exact h2 pins s1 σ' H' D I' q
 |ret v=>exact q
 |brk=>exact q
 |cont=>exact q
def acJ:TS:=λD O H=>D.bk O H
def ae_:TS:=λD O H=>D.a O H
def hak:PS X (.Break pos) acJ:=λ_ _ O H _ I h=>wpAny_Break #[O,H,I,h]
def OG:PS X (.Continue pos) ae_:=λ_ _ O H _ I h=>wpAny_Continue #[O,H,I,h]
def Inv.quiet(I:Inv X pins O H s):O7 X.ab=W:=by simp[O7,I.ok.kind]
def afa(te:TE):TS:=λD O H=>te O H λ_ H1=>D.nx O H1
def aap(he:PE X e te)(hs:vL e S pos.line X.ab=pure W:=by rfl):PS X (.Expr e pos) (afa te):=by
 intro pins s O H D I h;exact wpAny_Expr_any (bH (he pins s O H _ I h) λv s1 qq=>by let#[x,H1,I1,r1,q1]:=qq;exact#[O,H1,I1,q1]) I.quiet hs
def tRet(te:TE):TS:=λD O H=>te O H D.rt
def acK(he:PE X e te):PS X (.Return (M e) pos) (tRet te):=by
 intro pins s O H D I h;exact wpAny_Return_some (bH (he pins s O H _ I h) λv s1 qq=>by let#[x,H1,I1,r1,q1]:=qq;exact#[x,O,H1,I1,r1,q1])
def tIfS(c:TT)(t u:TS):TS:=λD O H=>c O H λb H1=>if b=L then t D O H1 else u D O H1
def afb{c:Expr}(hc:PT X c tc)(ha:zP X a t)(hb:zP X b u):PS X (.If c a b pos) (tIfS tc t u):=by
 intro pins s O H D I h;refine wpAny_If<|bH (hc pins s O H _ I h) λd s1 z0=>?_;let#[H1,I1,q1]:=z0;cases d with
 |true=>exact ha pins s1 O H1 D I1 q1
 |false=>exact hb pins s1 O H1 D I1 q1
def acL:TS:=λ_ _ _=>bu
def hbb:PS X st acL:=λ_ _ _ _ _ _ h=>h.elim
end
abbrev TG:=V->St->Hp->(St->Hp->Prop)->Prop
abbrev Mg:=B V->St->Hp->(St->Hp->Prop)->Prop
def PG(X:Cx)(target:Expr)(t:TG):Prop:=
 ∀(pins:B<|Addr×Obj) (s:az) (O:St) (H:Hp) (v:V) (u:B5) (Q:St->Hp->Prop),Inv X pins O H s->acb v u->t v O H Q->
  a_ (bf X.prog X.w) X.A (C9 target X.ab u) (λ_ s'=>∃σ' H',Inv X pins σ' H' s'/\Q σ' H') X.xe s
def Gv(X:Cx)(ts:B Expr)(t:Mg):Prop:=
 ∀(pins:B<|Addr×Obj) (s:az) (O:St) (H:Hp) (vs:B V) (us:B B5) (Q:St->Hp->Prop),Inv X pins O H s->bN vs us->t vs O H Q->
  a_ (bf X.prog X.w) X.A (assignInOrder ((ki ts X.ab).map (·.2)) us) (λ_ s'=>∃σ' H',Inv X pins σ' H' s'/\Q σ' H') X.xe s
abbrev We:=V->V->V->Hp->(Hp->Prop)->Prop
def QH(X:Cx)(t:We):Prop:=
 ∀(pins:B<|Addr×Obj) (s:az) (O:St) (H:Hp) (o i v:V) (ov iv u:B5) (Q:Hp->Prop),Inv X pins O H s->acb o ov->acb i iv->acb v u->t o i v H Q->
  a_ (bf X.prog X.w) X.A (JA ov iv u) (λ_ s'=>∃H',Inv X pins O H' s'/\Q H') X.xe s
abbrev Zk:=V->V->Hp->VK->Prop
def VY(X:Cx)(op:A8)(t:Zk):Prop:=
 ∀(pins:B<|Addr×Obj) (s:az) (O:St) (H:Hp) (x y:V) (v u:B5) (Q:VK),Inv X pins O H s->acb x v->acb y u->t x y H Q->
  a_ (bf X.prog X.w) X.A (C_ op v u) (EP X pins O Q) X.xe s
section
variable{X:Cx}{pos:Pos}
def afc(i:Nat):TG:=λv O H Q=>Q (O.set i<|M v) H
def Pg(hN:X.N.Nodup)(hi:X.N[i]?=M x)(hx:Loc X.ab.scope x)(hf:X.fn x=L\/X.ab.scope.names.lookup x=M .local):PG X (.Name x pos) (afc i):=by
 intro pins s O H v u Q I r h;exact Eg<|Mf I hN hi hx r (λs' I'=>#[_,H,I',h]) hf
def skl:Mg:=λvs O H Q=>vs=[]/\Q O H
def afd(t:TG)(u:Mg):Mg:=λvs O H Q=>∃v r,vs=v::r/\t v O H fun σ' H'=>u r σ' H' Q
def aaq:Gv X [] skl:=by
 intro pins s O H vs us Q I r h;let#[e,h]:=h;subst e;cases r;exact assignInOrder_nil #[O,H,I,h]
def hbe{e:Expr}(h1:PG X e t)(h2:Gv X es u)(hs:(ki (e::es) X.ab).map (·.2)=C9 e X.ab::(ki es X.ab).map (·.2):=by rfl):Gv X (e::es) (afd t u):=by
 intro pins s O H vs us Q I r h;let#[v,vr,e1,h]:=h;subst e1;cases r with
 |cons r rr=>
  rw[hs];refine assignInOrder_cons<|bH (h1 pins s O H _ _ _ I r h) λ_ s1 z0=>?_;let#[σ1,H1,I1,q1]:=z0;exact h2 pins s1 σ1 H1 _ _ Q I1 rr q1
def sm2(K:ao)(n:Nat)(t:Mg):TG:=λv O H Q=>∃a xs,v=.a a/\ux K H a xs/\zl xs=n/\t xs O H Q
def acN(hc:X.ac=L)(h:Gv X es t)(hn:(ki es X.ab).length=n:=by rfl)(hst:(ki es X.ab).findIdx? (·.1)=S:=by rfl):PG X (.Tuple es k pos) (sm2 X.K n t):=by
 intro pins s O H v u Q I r hw;let#[a,xs,e1,hq,hl,hw]:=hw;subst e1;cases r;let#[its,rv,ht,hz]:=I.tuple hq;refine assign_Tuple_tuple (I.ok.hd hc) ht (by simp[hn,<-hl,rv.length]) hst λh' hx=>?_;have I1:=I.ac (t':=s.toks) λb o e=>hx b o (bI<|aQ e) e;exact h pins _ O H xs _ Q I1 (by simpa using rv) hw
def sl'(to ti:TE)(t:We):TG:=λv O H Q=>to O H λo H1=>ti O H1 λi H2=>t o i v H2 λH3=>Q O H3
def acO{o i:Expr}(ho:PE X o to)(hi:PE X i ti)(hs:QH X t)(ha:∀v,C9 (.Subscript o i pos) X.ab v=(do
   let ov <-Aj [v] (eval o X.ab)
   let iv <-Aj [v,ov] (eval i X.ab)
   JB pos
   Aj [v,ov,iv] (JA ov iv v)
   release [v,ov,iv] []):=by intro _;rfl):PG X (.Subscript o i pos) (sl' to ti t):=by
 intro pins s O H v u Q I r h;rw[ha];refine ak<|fH<|bH (ho pins s O H _ I h) λov s1 z0=>?_;let#[x,H1,I1,r1,q1]:=z0;refine ak<|fH<|bH (hi pins s1 O H1 _ I1 q1) λiv s2 z0=>?_;let#[y,H2,I2,r2,q2]:=z0;refine ak<|BA<|ak<|fH<|bH (hs pins s2 O H2 x y v ov iv u _ I2 r1 r2 r q2) λ_ s3 z0=>?_;let#[H3,I3,q3]:=z0;exact wpAny_release #[O,H3,I3,q3]
def tAsg(te:TE)(g:TG):TS:=λD O H=>te O H λx H1=>g x O H1 D.nx
def Mh{tg e:Expr}(he:PE X e te)(hg:PG X tg g)(hs:we [tg] e pos.line X.ab=pure W:=by rfl)(hw:Lu [tg] e X.ab=pure S:=by rfl)(h1:(ki [tg] X.ab).map (·.2)=[C9 tg X.ab]:=by rfl):PS X (.Assign [tg] e pos) (tAsg te g):=by
 intro pins s O H D I h;refine wpAny_Assign_stores (bH (he pins s O H _ I h) λv s1 ⟨x,H1,I1,r1,q1⟩=>?_) hs hw;rw[h1];exact bH (hg pins s1 O H1 x v _ I1 r1 q1) λ_ s2 q=>q
def acP(i:Nat)(te:TE)(ti:Zk):TS:=λD O H=>∃x,O[i]?=M (M x)/\te O H λy H1=>ti x y H1 λz H2=>D.nx (O.set i<|M z) H2
def acQ{i:Nat}(hN:X.N.Nodup)(hi:X.N[i]?=M x)(hx:Loc X.ab.scope x)(he:PE X e te)(ho:VY X op ti)(hf:X.fn x=L\/X.ab.scope.names.lookup x=M .local):PS X (.AugAssign (.Name x pos') op e pos) (acP i te ti):=by
 intro pins s O H D I h;let#[v,e1,h]:=h;let#[m,hn,hl]:=I.loc;have vis:SS X.ab.scope x:=by rcases hx with k|k;exact .inl k;exact .inr<|.inl k
 let#[u,r,l]:=hl i x v hi e1 vis;refine wpAny_AugAssign_Name ?_;have go:a_ (bf X.prog X.w) X.A (eval e X.ab) (λw QX=>a_ (bf X.prog X.w) X.A (C_ op u w) (λr Sh=>a_ (bf X.prog X.w) X.A (K7 X.ab x r) (λ_=>SP X pins D .next) X.xe Sh) X.xe QX) X.xe s:=by
  refine bH (he pins s O H _ I h) λw s1 z0=>?_;let#[y,H1,I1,r1,q1]:=z0;refine bH (ho pins s1 O H1 v y u w _ I1 r r1 q1) λz s2 z0=>?_;let#[zv,H2,I2,r2,q2]:=z0;exact Mf I2 hN hi hx r2 (λs3 I3=>#[_,H2,I3,q2]) hf
 rcases l with⟨hk,hm⟩|⟨hk,c,hc,hcell⟩
 .exact A7 I.ok.kind hk hn hm go
 .rcases hk with hk|hk
  .exact BH I.ok.kind hk hc hcell go
  .rcases hx with k|k
   .have:X.ab.scope.names.lookup x=M .free:=hk;rw[k]at this;cases this
   .have:X.ab.scope.names.lookup x=M .free:=hk;rw[k]at this;cases this
def afe(to ti te:TE)(VN:V->V->Hp->VK->Prop)(XJ:Zk)(XO:We):TS:=λD O H=>to O H λo H1=>ti O H1 λi H2=>VN o i H2 λx H3=>te O H3 λy H4=>XJ x y H4 λz H5=>XO o i z H5 λH6=>D.nx O H6
def Xp(X:Cx)(t:V->V->Hp->VK->Prop):Prop:=
 ∀(pins:B<|Addr×Obj) (s:az) (O:St) (H:Hp) (o i:V) (ov iv:B5) (Q:VK),Inv X pins O H s->acb o ov->acb i iv->t o i H Q->
  a_ (bf X.prog X.w) X.A (Ak ov iv) (EP X pins O Q) X.xe s
def aar{o i e:Expr}{VN:V->V->Hp->VK->Prop}(ho:PE X o to)(hi:PE X i ti)(hg:Xp X VN)(he:PE X e te)(hp:VY X op XJ)(hs:QH X XO)(ha:∀ov iv new,augStore i ov iv new=(do Aj [new,ov,iv] (JA ov iv new);release [new,ov,iv] [];pure .next)):PS X (.AugAssign (.Subscript o i tpos) op e pos) (afe to ti te VN XJ XO):=by
 intro pins s O H D I h;refine wpAny_AugAssign_SubscriptAny (bH (ho pins s O H _ I h) λov s1 ⟨x1,H1,I1,r1,q1⟩=>?_) ha;refine bH (hi pins s1 O H1 _ I1 q1) λiv s2 z0=>?_;let#[x2,H2,I2,r2,q2]:=z0;refine bH (hg pins s2 O H2 x1 x2 ov iv _ I2 r1 r2 q2) λold s3 z0=>?_;let#[x3,H3,I3,r3,q3]:=z0;refine bH (he pins s3 O H3 _ I3 q3) λv s4 z0=>?_;let#[x4,H4,I4,r4,q4]:=z0;refine bH (hp pins s4 O H4 x3 x4 old v _ I4 r3 r4 q4) λnew s5 z0=>?_;let#[x5,H5,I5,r5,q5]:=z0;exact bH (hs pins s5 O H5 x1 x2 x5 ov iv new _ I5 r1 r2 r5 q5) λ_ s6 qq=>by let#[H6,I6,q6]:=qq;exact#[O,H6,I6,q6]
noncomputable def ipI(f:J->J->J):Zk:=λx y H Q=>∃i j,x=.b i/\y=.b j/\Q (.b<|f i j) H
def SW:VY X .Add (ipI λi j=>i+j):=by
 intro pins s O H x y v u Q I r1 r2 h;let#[i,j,e1,e2,q]:=h;subst e1;subst e2;let#[t,rfl]:=r1;let#[t',rfl]:=r2;exact iadd_int #[.b _,H,I.tok _,#[_,rfl],q]
end
section
variable{X:Cx}{pos:Pos}
def acT(c:TT)(tb:TS):TS:=λD O H=>∃QI:Nat->St->Hp->Prop,(∃m,QI m O H)/\∀m O H,QI m O H->
 c O H λb H1=>if b=L then ∃N:St->Hp->Prop,(∀σ' H',N σ' H'->∃m',m'<m/\QI m' σ' H')/\tb { D with nx:=N,a:=N,bk:=D.nx } O H1 else D.nx O H1
def hbl{c:Expr}(hp:yW (bf X.prog X.w) X.A X.ab X.xe)(hc:PT X c tc)(hb:zP X body tb):PS X (.While c body [] pos) (acT tc tb):=by
 intro pins s O H D I h;let#[QI,#[m0,w0],turn]:=h;refine wpAny_While<|codeAny_whileLoop (λn s'=>∃σ' H',Inv X pins σ' H' s'/\QI n σ' H') ?_ m0 #[O,H,I,w0];intro n s1 z0;let#[σ1,H1,I1,w1]:=z0;refine jS hp<|bH (hc pins s1 σ1 H1 _ I1<|turn n σ1 H1 w1) λb s2 z0=>?_;let#[H2,I2,q2]:=z0;cases b with
 |true=>
  let#[N,hN,q2]:=q2;rw[aH rfl];refine jS hp<|bH (hb pins s2 σ1 H2 _ I2 q2) λf s3 q3=>?_;cases f with
  |next=>
   let#[σ3,H3,I3,n3]:=q3;let#[m',hm,w3]:=hN σ3 H3 n3;exact#[m',hm,σ3,H3,I3,w3]
  |cont=>
   let#[σ3,H3,I3,n3]:=q3;let#[m',hm,w3]:=hN σ3 H3 n3;exact#[m',hm,σ3,H3,I3,w3]
  |brk=>exact q3
  |ret v=>exact q3
 |false=>
  rw[aG bY];exact yV #[σ1,H2,I2,q2]
end
structure It where
 go:Nat->Hp->Prop
 yld:Nat->Hp->V->Hp->Prop
 stop:Nat->Hp->Prop
def tu(X:Cx)(pins:B<|Addr×Obj)(H:Hp)(b:Addr):Prop:=
 H b=S/\b≠X.ab.locals/\b∉X.fs/\(b∈X.ex\/X.ais.heap.objs.size<=b)/\(∀x c,X.ab.cells.lookup x=M c->c≠b)/\∀p∈X.pn++pins,p.1≠b
def Inv.uF(I:Inv X pins O H s)(hb:s.heap.objs.size<=b)(hn:H' b=S):tu X pins H' b:=by
 refine#[hn,jc<|bX I.lt hb,I.bj hb,.inr<|cu I.sz hb,λx c e z=>?_,λp hp z=>?_]
 .let#[v,q]:=I.cell x c e;exact aI (bX q.lt (by rw[z];exact hb))<|cW _
 .exact aI (bX (aQ (I.pin p hp).1) (by rw[z];exact hb)) (cW _)
structure SN (P:bS) (w:bO) (K:ao) (tg:Expr) (acv:It) (fp:B Addr) (it:Addr) (tn:Nat->Heap->Prop):Prop where
 mem:it∈fp
 obj:∀i h,tn i h->∀b∈fp,∃o,h.get? b=M o/\∀v,o.data≠.cell v
 keep:∀i h h',tn i h->(∀b∈fp,∀o,h.get? b=M o->h'.get? b=M o)->tn i h'
 item:∀(X:Cx),X.prog=P->X.w=w->X.K=K->X.ac=L->∀(i:Nat) (pins:B (Addr×Obj)) (s:az) (O:St) (H:Hp) (E:B5->az->Prop),Inv X pins O H s->(∀b∈fp,tu X pins H b)->tn i s.heap->acv.go i H->
  a_ (bf P w) X.A (Al (.ref it)) (λr s1=>∃u,r=M u /\
   a_ (bf P w) X.A (ue tg (.ref it) u) (λ_ s2=>∃x H',Inv X pins O H' s2/\acb x u/\acv.yld i H x H'/\tn (i+1) s2.heap/\∀b∈fp,H' b=S) E s1) E s
 done:∀(X:Cx),X.prog=P->X.w=w->X.K=K->X.ac=L->∀(i:Nat) (pins:B (Addr×Obj)) (s:az) (O:St) (H:Hp) (E:B5->az->Prop),Inv X pins O H s->(∀b∈fp,tu X pins H b)->tn i s.heap->acv.stop i H->
  a_ (bf P w) X.A (Al (.ref it)) (λr s1=>r=S/\Inv X pins O H s1) E s
 self:∀(A:cY) (i:Nat) (s:az) (Q:B5->az->Prop) (E:B5->az->Prop),tn i s.heap->Q (.ref it) s->a_ (bf P w) A (xZ (.ref it)) Q E s
abbrev TI:=St->Hp->(It->Hp->Prop)->Prop
def X_(X:Cx)(pins:B<|Addr×Obj)(O:St)(tg:Expr)(R:It->Hp->Prop)(itv:B5)(s2:az):Prop:=
 ∃(it:Addr) (fp:B Addr) (tn:Nat->Heap->Prop) (acv:It) (H':Hp),itv=.ref it/\Inv X pins O H' s2/\SN X.prog X.w X.K tg acv fp it tn/\tn 0 s2.heap/\(∀b∈fp,tu X pins H' b)/\R acv H'
def PI(X:Cx)(tg iter:Expr)(wi:TI):Prop:=
 ∀(pins:B<|Addr×Obj) (s:az) (O:St) (H:Hp) (R:It->Hp->Prop),Inv X pins O H s->wi O H R->
  a_ (bf X.prog X.w) X.A (eval iter X.ab) (λv s1=>a_ (bf X.prog X.w) X.A (xZ v) (X_ X pins O tg R) X.xe s1) X.xe s
def DA{E:B5->az->Prop}{Q:Unit->az->Prop}(ho:s.heap.get? it=M o)(hc:o.cls=.type n)(hd:o.data=.fields vs)(hn:["enumerate","zip","dict_itemiterator","dict_reverseitemiterator","odict_iterator","itertools.zip_longest","itertools.pairwise"].contains n=W)(hQ:Q () s):a_ R4 A (ue tg (.ref it) u) Q E s:=by
 cases tg<;>first
  |exact aN hQ
  |(cases u<;>first
    |exact aN hQ
    |(refine ak<|wZ ho ?_
      rw[hc,hd];show a_ R4 A (if(["enumerate","zip","dict_itemiterator","dict_reverseitemiterator","odict_iterator","itertools.zip_longest","itertools.pairwise"].contains n&&vs[0]?==M (Ah _))=L then _ else _) Q E s;rw[aG<|by lia];exact aN hQ))
noncomputable def XT(K:ao)(a:Addr):It:=
 #[λi H=>∃xs x,jo K H a xs/\xs[i]?=M x,λi H x H'=>H'=H/\∀xs,jo K H a xs->xs[i]?=M x,λi H=>∃xs,jo K H a xs/\zl xs<=i]
noncomputable def XU(K:ao)(a:Addr):It:=
 #[λi H=>∃xs x,ux K H a xs/\xs[i]?=M x,λi H x H'=>H'=H/\∀xs,ux K H a xs->xs[i]?=M x,λi H=>∃xs,ux K H a xs/\zl xs<=i]
noncomputable def Zl(lo:J)(n:Nat):It:=#[λi _=>i<n,λi H x H'=>H'=H/\x=.b (lo+i),λi _=>n<=i]
def adS{w:bO}{K:ao}{tg:Expr}(a it:Addr):SN P w K tg (XT K a) [it] it (λi h=>h.IsListIter it a i) where
 mem:=by simp
 obj:=λi h st b hb=>by
  have e:b=it:=by simpa using hb
  subst e;let#[o,e,c,d]:=st;exact#[o,e,λv z=>by rw[d]at z;cases z]
 keep:=λi h h' st k=>st.at λo e=>k it (by simp) o e
 item:=by
  intro X hP hw hK hc i pins s O H E I hf st hg;subst hP hw hK;let#[xs,x,hq,hx]:=hg;let#[its,rv,p,hz]:=I.list hq;let#[u,hu,ru]:=rv.get hx;let#[f0,f1,f2,f3,f4,f5]:=hf it (by simp);refine rq st p.isList (x:=u) (by simpa using hu) λh' st' sb=>?_;have I1:=I.am (t':=s.toks) (λb o hb e=>(sb.2 b hb).trans e) f0 f1 f3 f4 f5;let#[o,e,c,d]:=id st';exact#[u,rfl,DA (s:={ s with heap:=h' }) e c d (by decide) #[x,H,I1,ru,#[rfl,λys hy=>by rw[I.Ax hy hq];exact hx],st',λb hb=>(hf b hb).1]]
 done:=by
  intro X hP hw hK hc i pins s O H E I hf st hg;subst hP hw hK;let#[xs,hq,hx]:=hg;let#[its,rv,p,hz]:=I.list hq;let#[f0,f1,f2,f3,f4,f5]:=hf it (by simp);have hl:=rv.length;exact sP (I.ok.hd hc) st p.isList (by simp;lia) λh' eb=>#[rfl,I.am (t':=s.toks) (λb o hb e=>eb b o hb e) f0 f1 f3 f4 f5]
 self:=λ_ _ _ _ _ st h=>wpAny_pyIter_listiter st h
def I10{w:bO}{K:ao}{tg:Expr}(a it:Addr):SN P w K tg (XU K a) [it] it (λi h=>h.IsTupleIter it a i) where
 mem:=by simp
 obj:=λi h st b hb=>by
  have e:b=it:=by simpa using hb
  subst e;let#[o,e,c,d]:=st;exact#[o,e,λv z=>by rw[d]at z;cases z]
 keep:=λi h h' st k=>st.at λo e=>k it (by simp) o e
 item:=by
  intro X hP hw hK hc i pins s O H E I hf st hg;subst hP hw hK;let#[xs,x,hq,hx]:=hg;let#[its,rv,p,hz]:=I.tuple hq;let#[u,hu,ru]:=rv.get hx;let#[f0,f1,f2,f3,f4,f5]:=hf it (by simp);refine wpAny_pyNext_tuple_item st (show s.heap.IsTuple a its.toArray from p) (x:=u) (by simpa using hu) λh' st' sb=>?_;have I1:=I.am (t':=s.toks) (λb o hb e=>(sb.2 b hb).trans e) f0 f1 f3 f4 f5;let#[o,e,c,d]:=id st';exact#[u,rfl,DA (s:={ s with heap:=h' }) e c d (by decide) #[x,H,I1,ru,#[rfl,λys hy=>by rw[I.JM hy hq];exact hx],st',λb hb=>(hf b hb).1]]
 done:=by
  intro X hP hw hK hc i pins s O H E I hf st hg;subst hP hw hK;let#[xs,hq,hx]:=hg;let#[its,rv,p,hz]:=I.tuple hq;let#[f0,f1,f2,f3,f4,f5]:=hf it (by simp);have hl:=rv.length;exact wpAny_pyNext_tuple_end (I.ok.hd hc) st (show s.heap.IsTuple a its.toArray from p) (by simp;lia) λh' eb=>#[rfl,I.am (t':=s.toks) (λb o hb e=>eb b o hb e) f0 f1 f3 f4 f5]
 self:=λ_ _ _ _ _ st h=>wpAny_pyIter_tupleiter st h
def I5'{w:bO}{K:ao}{tg:Expr}(it:Addr)(lo:J)(n:Nat):SN P w K tg (Zl lo n) [it] it (λi h=>IsRangeIter h it (lo+(i:Nat)*1) ((n:J)-(i:Nat)) 1) where
 mem:=by simp
 obj:=λi h st b hb=>by
  have e:b=it:=by simpa using hb
  subst e;exact#[_,st,λv z=>by
   have z':=z;cases z']
 keep:=λi h h' st k=>k it (by simp) _ st
 item:=by
  intro X hP hw hK hc i pins s O H E I hf st hg;subst hP hw hK;let#[f0,f1,f2,f3,f4,f5]:=hf it (by simp);have QI:=Walks.range (prog:=X.prog) (w:=X.w) (I.ok.hd hc) it lo 1 n;refine QI.item i s _ _ hg st λv h' tk hv st' kk=>?_;let#[t,rfl]:=hv;have I1:Inv X pins O H { s with heap:=h',toks:=tk }:=I.am (λb o hb e=>kk b o (by simpa using hb) e) f0 f1 f3 f4 f5;refine#[_,rfl,DA (s:={ s with heap:=h',toks:=tk }) (n:="range_iterator") st' rfl rfl (by decide) #[.b<|lo+i,H,I1,#[t,?_],#[rfl,rfl],st',λb hb=>(hf b hb).1]];rw[O8]
 done:=by
  intro X hP hw hK hc i pins s O H E I hf st hg;subst hP hw hK;let#[f0,f1,f2,f3,f4,f5]:=hf it (by simp);exact wpAny_pyNext_range_end (I.ok.hd hc) st (by have:n<=i:=hg;lia) λh' eb=>#[rfl,I.am (t':=s.toks) (λb o hb e=>eb b o hb e) f0 f1 f3 f4 f5]
 self:=λ_ _ _ _ _ st h=>wpAny_pyIter_rangeiter st h
end L2
namespace L2
open PySem PySem.Spec PyProof.Rows
section
variable{X:Cx}{tg:Expr}
def hbo{R:It->Hp->Prop}{E:B5->az->Prop}{lo hi:J}{t u v:Tok}{tk:Nat}(I:Inv X pins O H s)(h1:-(2 ^ 62)<=lo)(h2:lo<2 ^ 62)(h3:-(2 ^ 62)<=hi)(h4:hi<2 ^ 62)(q:R (Zl lo (hi-lo).toNat) H):a_ (bf X.prog X.w) X.A (xZ<|.ref s.heap.objs.size) (X_ X pins O tg R) E { s with heap:=s.heap.push { cls:=.type "range",data:=.fields (List.toArray [.int lo t,.int hi u,.int 1 v]) },toks:=tk }:=by
 refine wpAny_pyIter_range (O9 ..) (K8 h1 h2 h3 h4) ?_;have I1:Inv X pins O H { s with heap:=s.heap.push { cls:=.type "range",data:=.fields (List.toArray [.int lo t,.int hi u,.int 1 v]) },toks:=tk }:=I.ac λb o e=>aA _ e;refine#[(s.heap.push { cls:=.type "range",data:=.fields (List.toArray [.int lo t,.int hi u,.int 1 v]) }).objs.size,[(s.heap.push { cls:=.type "range",data:=.fields (List.toArray [.int lo t,.int hi u,.int 1 v]) }).objs.size],_,_,H,rfl,
  I1.ac (t':=tk) λb o e=>aA _ e,I5' _ lo (hi-lo).toNat,?_,λb hb=>?_,q]
 .have e1:lo+((0:Nat):J)*1=lo:=by simp
  have e2:(((hi-lo).toNat:Nat):J)-((0:Nat):J)=lD lo hi 1:=by rw[BB];split<;>lia
  rw[e1,e2];exact be _ rfl
 .have e:b=(s.heap.push { cls:=.type "range",data:=.fields (List.toArray [.int lo t,.int hi u,.int 1 v]) }).objs.size:=by simpa using hb
  subst e;exact I1.uF (aM _)<|I1.ab.fresh<|aM _
def tFor(wi:TI)(g:TG)(tb:TS):TS:=λD O H=>wi O H λacv H1=>∃QI:Nat->Nat->St->Hp->Prop,(∃m,QI 0 m O H1)/\∀i m O H,QI i m O H->
 (acv.stop i H/\D.nx O H)\/(acv.go i H/\∃N:St->Hp->Prop,(∀σ' H',N σ' H'->∃m',m'<m/\QI (i+1) m' σ' H')/\∀x H',acv.yld i H x H'->g x O H' fun σ2 H2=>tb { D with nx:=N,a:=N,bk:=D.nx } σ2 H2)
noncomputable def BU(fp:B Addr)(h:Heap):B (Addr×Obj):=fp.filterMap λb=>(h.get? b).map λo=>(b,o)
def wL(hb:b∈fp)(e:h.get? b=M o):(b,o)∈BU fp h:=vM.mpr #[b,hb,by rw[e];rfl]
def adT(hp:p∈BU fp h):p.1∈fp/\h.get? p.1=M p.2:=by
 let#[b,hb,e]:=vM.mp hp;cases q:h.get? b with
 |none=>rw[q]at e;cases e
 |some o=>
  rw[q]at e;have e':=cE e;subst e';exact#[hb,q]
def Inv.ax(I:Inv X pins O H s)(hf:∀b∈fp,tu X pins H b)(ho:∀b∈fp,∃o,s.heap.get? b=M o/\∀v,o.data≠.cell v):Inv X (pins++BU fp s.heap) O H s:=
 I.w_ λp hp=>(bh.mp hp).elim (λz=>I.pin p<|aR _ z) λz=>by
  let#[hb,e]:=adT z;let#[f0,f1,f2,_]:=hf p.1 hb;let#[o,e',d]:=ho p.1 hb;rw[e]at e';cases e';exact#[e,f0,f1,f2,d]
def Inv.Ay(I:Inv X (pins++pl) O H s):Inv X pins O H s:=I.w_ λp hp=>I.pin p<|aR _<|cz _ hp
def acU(hp:yW (bf X.prog X.w) X.A X.ab X.xe)(hc:X.ac=L)(hi:PI X tg iter wi)(hg:PG X tg g)(hb:zP X body tb)(hs:∀x,mO iter X.ab x=pure x):PS X (.For tg iter body [] pos) (tFor wi g tb):=by
 intro pins s O H D I h;refine wpAny_For (bH (hi pins s O H _ I h) λv s1 h1=>bH h1 λitv s2 h2=>?_) hs;let#[it,fp,tn,acv,H2,e,I2,T,st2,f2,QI,#[m0,w0],turn]:=h2;subst e;have XH:∀{H':Hp},(∀b∈fp,H' b=S)->∀b∈fp,tu X pins H' b:=λhn b hb=>#[hn b hb,(f2 b hb).2];refine codeAny_forLoop_any (λn s'=>∃i σ' H',Inv X pins σ' H' s'/\tn i s'.heap/\(∀b∈fp,H' b=S)/\QI i n σ' H') ?_ m0 #[0,O,H2,I2,st2,λb hb=>(f2 b hb).1,w0];intro n s3 z0;let#[i,σ3,H3,I3,st3,U6,w3]:=z0;rcases turn i n σ3 H3 w3 with⟨stop,qn⟩|⟨go,N,hN,step⟩
 .refine jS hp (bH (T.done X rfl rfl rfl hc i pins s3 σ3 H3 X.xe I3 (XH U6) st3 stop) λr s4 ⟨hr,I4⟩=>?_);subst hr;exact yV #[σ3,H3,I4,qn]
 .refine jS hp (bH (T.item X rfl rfl rfl hc i pins s3 σ3 H3 X.xe I3 (XH U6) st3 go) λr s4 ⟨u,hr,h4⟩=>?_);subst hr;refine jS hp<|bH h4 λ_ s5 z0=>?_;let#[x,H5,I5,r5,y5,U1,WG]:=z0;have VQ:=I5.ax (XH WG)<|T.obj _ _ U1;refine jS hp<|bH (hg _ s5 σ3 H5 x u _ VQ r5<|step x H5 y5) λ_ s6 z0=>?_;let#[SY,H6,I6,q6]:=z0;refine jS hp<|bH (hb _ s6 SY H6 _ I6 q6) λf s7 q7=>?_;have again:∀{SJ:St}{H7:Hp},Inv X (pins++BU fp s5.heap) SJ H7 s7->N SJ H7->∃m,m<n/\∃i σ' H',Inv X pins σ' H' s7/\tn i s7.heap/\(∀b∈fp,H' b=S)/\QI i m σ' H':=λ{SJ H7} I7 n7=>by
   let#[m',hm,o_ks]:=hN SJ H7 n7;refine#[m',hm,i+1,SJ,H7,I7.Ay,T.keep _ _ _ U1 λb hb o e=>(I7.pin (b,o)<|aR _<|aR _<|wL hb e).1,λb hb=>?_,o_ks];let#[o,e,d]:=T.obj _ _ U1 b hb;exact(I7.pin (b,o)<|aR _<|aR _<|wL hb e).2.1
  cases f with
  |next=>let#[SJ,H7,I7,n7]:=q7;exact again I7 n7
  |cont=>let#[SJ,H7,I7,n7]:=q7;exact again I7 n7
  |brk=>let#[SJ,H7,I7,q7]:=q7;exact#[SJ,H7,I7.Ay,q7]
  |ret v=>let#[x7,SJ,H7,I7,r7,q7]:=q7;exact#[x7,SJ,H7,I7.Ay,r7,q7]
end
end L2
namespace L2
open PySem PySem.Spec PyProof.Rows
abbrev R2:=V->V->Hp->VK->Prop
def nC(X:Cx)(f:B5->B5->Sem B5)(r:R2):Prop:=
 ∀(pins:B<|Addr×Obj) (s:az) (O:St) (H:Hp) (x y:V) (v u:B5) (Q:VK),Inv X pins O H s->acb x v->acb y u->r x y H Q->
  a_ (bf X.prog X.w) X.A (f v u) (EP X pins O Q) X.xe s
def Xb(X:Cx)(f:B5->Sem B5)(r:V->Hp->VK->Prop):Prop:=
 ∀(pins:B<|Addr×Obj) (s:az) (O:St) (H:Hp) (x:V) (v:B5) (Q:VK),Inv X pins O H s->acb x v->r x H Q->
  a_ (bf X.prog X.w) X.A (f v) (EP X pins O Q) X.xe s
def mG(X:Cx)(f:B5)(r:B V->Hp->VK->Prop):Prop:=
 ∀(pins:B<|Addr×Obj) (s:az) (O:St) (H:Hp) (xs:B V) (us:B B5) (Q:VK),Inv X pins O H s->bN xs us->r xs H Q->
  a_ (bf X.prog X.w) X.A (call f us) (EP X pins O Q) X.xe s
def aeg(X:Cx)(r:V->Hp->(Bool->Hp->Prop)->Prop):Prop:=
 ∀(pins:B<|Addr×Obj) (s:az) (O:St) (H:Hp) (x:V) (v:B5) (Q:Bool->Hp->Prop),Inv X pins O H s->acb x v->r x H Q->
  a_ (bf X.prog X.w) X.A (Oc v) (TP X pins O Q) X.xe s
def XI(r:R2)(ta tb:TE):TE:=λO H Q=>ta O H λx H1=>tb O H1 λy H2=>r x y H2 Q
noncomputable def rI(C:J->J->Prop)(g:J->J->V):R2:=λx y H Q=>∃i j,x=.b i/\y=.b j/\C i j/\Q (g i j) H
noncomputable def Mi(g:J->J->V):R2:=λx y H Q=>∃i j,x=.b i/\y=.b j/\Q (g i j) H
def rU(g:J->V):V->Hp->VK->Prop:=λx H Q=>∃i,x=.b i/\Q (g i) H
section
variable{X:Cx}{a b c:Expr}{ta tb tc:TE}{pos:Pos}
def Wi(ha:PE X a ta)(hb:PE X b tb){R:V->V->Hp->Prop}(I:Inv X pins O H s)(h:ta O H λx H1=>tb O H1 λy H2=>R x y H2){Q:B5->az->Prop}{f:B5->B5->Sem B5}(hf:∀v u s2 x y H2,Inv X pins O H2 s2->acb x v->acb y u->R x y H2->a_ (bf X.prog X.w) X.A (f v u) Q X.xe s2):a_ (bf X.prog X.w) X.A (eval a X.ab) (λv QE=>a_ (bf X.prog X.w) X.A (eval b X.ab) (λu QX=>a_ (bf X.prog X.w) X.A (f v u) Q X.xe QX) X.xe QE) X.xe s:=by
 refine bH (ha pins s O H _ I h) λv s1 z0=>?_;let#[x,H1,I1,r1,q1]:=z0;refine bH (hb pins s1 O H1 _ I1 q1) λu s2 z0=>?_;let#[y,H2,I2,r2,q2]:=z0;exact hf v u s2 x y H2 I2 r1 r2 q2
def afg(ho:nC X (jC op) r)(ha:PE X a ta)(hb:PE X b tb):PE X (.BinOp a op b pos) (XI r ta tb):=by
 intro pins s O H Q I h;exact wpAny_BinOp<|Wi ha hb I h λv u s2 x y H2 I2 rx ry q=>ho pins s2 O H2 x y v u Q I2 rx ry q
def Mj(ho:nC X (C_ op) r)(I:Inv X pins O H s)(rx:acb x v)(ry:acb y u)(q:r x y H Q):a_ (bf X.prog X.w) X.A (C_ op v u) (EP X pins O Q) X.xe s:=ho pins s O H x y v u Q I rx ry q
def Zm{f:B5->B5->Sem B5}{C:J->J->Prop}{g:J->J->J}(rule:∀(i j:J) (t u:Tok) (s:az) (Q:B5->az->Prop) (E:B5->az->Prop),C i j->Q (.int (g i j) s.toks) { s with toks:=s.toks+1 }->a_ (bf X.prog X.w) X.A (f (.int i t)<|.int j u) Q E s):nC X f (rI C λi j=>.b<|g i j):=by
 intro pins s O H x y v u Q I rx ry h;let#[i,j,rfl,rfl,hc,q]:=h;let#[t,rfl]:=rx;let#[t',rfl]:=ry;exact rule i j t t' s _ _ hc #[.b<|g i j,H,I.tok _,#[_,rfl],q]
def Xq{f:B5->B5->Sem B5}{g:J->J->J}(rule:∀(i j:J) (t u:Tok) (s:az) (Q:B5->az->Prop) (E:B5->az->Prop),Q (.int (g i j) s.toks) { s with toks:=s.toks+1 }->a_ (bf X.prog X.w) X.A (f (.int i t)<|.int j u) Q E s):nC X f (Mi λi j=>.b<|g i j):=by
 intro pins s O H x y v u Q I rx ry h;let#[i,j,rfl,rfl,q]:=h;let#[t,rfl]:=rx;let#[t',rfl]:=ry;exact rule i j t t' s _ _ #[.b<|g i j,H,I.tok _,#[_,rfl],q]
def Wj{f:B5->B5->Sem B5}{g:J->J->Bool}(rule:∀(i j:J) (t u:Tok) (s:az) (Q:B5->az->Prop) (E:B5->az->Prop),Q (.bool<|g i j) s->a_ (bf X.prog X.w) X.A (f (.int i t)<|.int j u) Q E s):nC X f (Mi λi j=>.c<|g i j):=by
 intro pins s O H x y v u Q I rx ry h;let#[i,j,rfl,rfl,q]:=h;let#[t,rfl]:=rx;let#[t',rfl]:=ry;exact rule i j t t' s _ _ #[.c<|g i j,H,I,rfl,q]
abbrev vU(i j:J):Prop:=0<j/\j<1073741824
def xq(i j:J):Prop:=0<=j/\j<=1000000/\i.natAbs<2 ^ 64
abbrev nF(i j:J):Prop:=(-(2 ^ 64)<i/\i<2 ^ 64)\/(-(2 ^ 64)<j/\j<2 ^ 64)
def nF.ok(h:nF i j):IntMulOk i j:=by
 rcases h with⟨h1,h2⟩|⟨h1,h2⟩
 .exact .of_left (Lv h1 h2)
 .exact .of_right (Lv h1 h2)
def acX:nC X (jC .Add) (Mi λi j=>.b<|i+j):=Xq λ_ _ _ _ _ _ _ q=>add_int q
def acY:nC X (jC .Sub) (Mi λi j=>.b<|i-j):=Xq λ_ _ _ _ _ _ _ q=>sub_int q
def acZ:nC X (jC .Mult) (rI nF λi j=>.b<|i*j):=Zm λ_ _ _ _ _ _ _ hc q=>mul_int q hc.ok
def aas:nC X (jC .FloorDiv) (rI vU λi j=>.b<|i / j):=Zm λi j _ _ _ _ _ hc q=>by
 have h1:=hc.1;have h2:=hc.2;exact floordiv_int (by lia) (by rw[Int.fdiv_eq_ediv_of_nonneg i<|by lia];exact q) (.inl (O_<|by omega))
def ac0:nC X (jC .Mod) (rI (λ_ j=>0<j) λi j=>.b<|i%j):=Zm λi j _ _ _ _ _ hc q=>by
 have h1:=hc;exact mod_int' (by lia) (by rw[Int.fmod_eq_emod_of_nonneg i<|by lia];exact q)
def ac1:nC X (jC .Pow) (rI xq λi j=>.b<|i ^ j.toNat):=Zm λ_ _ _ _ _ _ _ hc q=>pow_int_small hc.1 hc.2.1 hc.2.2 q
def noTa{f:B5->Sem B5}{g:J->J}(rule:∀(i:J) (t:Tok) (s:az) (Q:B5->az->Prop) (E:B5->az->Prop),Q (.int (g i) s.toks) { s with toks:=s.toks+1 }->a_ (bf X.prog X.w) X.A (f<|.int i t) Q E s):Xb X f (rU λi=>.b<|g i):=by
 intro pins s O H x v Q I rx h;let#[i,rfl,q]:=h;let#[t,rfl]:=rx;exact rule i t s _ _ #[.b<|g i,H,I.tok _,#[_,rfl],q]
def ac2:Xb X (unaryOp .USub) (rU λi=>.b<|-i):=noTa λ_ _ _ _ _ q=>neg_int q
end
section
variable{X:Cx}{a b c:Expr}{ta tb tc:TE}{pos:Pos}
def S0(I:Inv X pins O H s)(q:Q (.c k) H)(e:k=k'):EP X pins O Q (.bool k') s:=by
 subst e;exact#[.c k,H,I,rfl,q]
def afh:nC X (kB .Lt) (Mi λi j=>.c<|decide<|i<j):=Wj λ_ _ _ _ _ _ _ q=>lt_int q
def afi:nC X (kB .LtE) (Mi λi j=>.c<|decide<|i<=j):=Wj λ_ _ _ _ _ _ _ q=>le_int q
def afj:nC X (kB .Gt) (Mi λi j=>.c<|decide<|j<i):=Wj λ_ _ _ _ _ _ _ q=>gt_int q
def ac3:nC X (kB .Is) (λx y H Q=>y=.d/\Q (.c<|decide<|x=.d) H):=by
 intro pins s O H x y v u Q I rx ry h;let#[rfl,q]:=h;cases ry;refine is_none_gen<|S0 I q ?_;cases x<;>first
  |(cases rx;rfl)
  |(let#[t,rfl]:=rx;rfl)
def aat:nC X (kB .IsNot) (λx y H Q=>y=.d/\Q (.c<|!decide (x=.d)) H):=by
 intro pins s O H x y v u Q I rx ry h;let#[rfl,q]:=h;cases ry;refine isnot_none_gen<|S0 I q ?_;cases x<;>first
  |(cases rx;rfl)
  |(let#[t,rfl]:=rx;rfl)
def aau(ho:nC X (kB op) r)(ha:PE X a ta)(hb:PE X b tb)(hm:BC op b=W):PE X (.Compare a [op] [b] pos) (XI r ta tb):=by
 intro pins s O H Q I h;exact wpAny_Compare1 (Wi ha hb I h λv u s2 x y H2 I2 rx ry q=>ho pins s2 O H2 x y v u Q I2 rx ry q) hm
def xu:(aj:Nat)<2 ^ 63:=by rw[cg];decide
def ItF:nC X (jC .Add) (λx y H Q=>∃i j,x=.e i/\y=.e j/\i.length+j.length<=aj/\Q (.e<|i++j) H):=by
 intro pins s O H x y v u Q I rx ry h;let#[i,j,rfl,rfl,hz,q]:=h;let#[t,rfl]:=rx;let#[t',rfl]:=ry;exact add_str (λt' tk=>#[.e<|i++j,H,I.tok _,#[_,rfl],q]) hz
def Rh(r:bN [x] us):∃u,us=[u]/\acb x u:=by
 cases r with
 |cons r1 r2=>cases r2;exact#[_,rfl,r1]
def TU(r:bN [x,y] us):∃u w',us=[u,w']/\acb x u/\acb y w':=by
 cases r with
 |cons r1 r2=>
  cases r2 with
  |cons r3 r4=>cases r4;exact#[_,_,rfl,r1,r3]
def acq(hc:X.ac=L):mG X (.builtin "max") (λxs H Q=>∃i j,xs=[.b i,.b j]/\Q (.b (if j>i then j else i)) H):=by
 intro pins s O H xs us Q I r h;let#[i,j,rfl,q]:=h;let#[u,w',rfl,#[t,rfl],#[t',rfl]]:=TU r;refine max_two_ints (I.ok.hd hc) λh' tk k=>#[_,H,I.ac k,?_,q];by_cases hj:j>i
 .rw[aH hj,aH hj];exact#[_,rfl]
 .rw[aG hj,aG hj];exact#[_,rfl]
def acy(hc:X.ac=L):mG X (.builtin "min") (λxs H Q=>∃i j,xs=[.b i,.b j]/\Q (.b (if j<i then j else i)) H):=by
 intro pins s O H xs us Q I r h;let#[i,j,rfl,q]:=h;let#[u,w',rfl,#[t,rfl],#[t',rfl]]:=TU r;refine min_two_ints (I.ok.hd hc) λh' tk k=>#[_,H,I.ac k,?_,q];by_cases hj:j<i
 .rw[aH hj,aH hj];exact#[_,rfl]
 .rw[aG hj,aG hj];exact#[_,rfl]
def ad1:mG X (.type "int") (λxs H Q=>(∃i,xs=[.b i]/\Q (.b i) H)\/∃k,xs=[.c k]/\Q (.b (if k then 1 else 0)) H):=by
 intro pins s O H xs us Q I r h;rcases h with⟨i,rfl,q⟩|⟨k,rfl,q⟩
 .let#[u,rfl,t,rfl]:=Rh r;exact call_int_int #[.b i,H,I,#[_,rfl],q]
 .let#[u,rfl,r1]:=Rh r;cases r1;exact call_int_bool #[.b (if k then 1 else 0),H,I.tok _,#[_,rfl],q]
end
end L2
namespace L2
open PySem PySem.Spec PyProof.Rows
structure IA (h:Heap) (x dx C:Addr) (mA:Str->LD B5):Prop where
 obj:h.get? x=M (iZ C dx)
 ns:h.Ns1 dx mA
 ne:dx≠x
set_option tactic.hygienic true in
def ad2{h:Heap}{mA:Str->LD B5}(n:h.Ns1 dx mA):∃od,h.get? dx=M od/\∀name,Am name od=M (mA name):=by
 let#[o,es,ep,ho,hd,hk,_,hm]:=n;refine#[o,ho,λname=>?_];have e:=hm name;unfold nsFind findBy at e;rw[<-Array.find?_toList]at e;unfold Am;rw[hd];dsimp only;split
 .rename_i y q;rw[q]at e;exact fY M e
 .rename_i q;rw[q]at e;have a:es.toList.any (·.refKey)=W:=by
   rw[qL];intro y hy;let#[z,t,hkey]:=hk y<|Array.mem_toList_iff.mp hy;simp[lt2,hkey]
  have a':¬es.toList.any (·.refKey)=L:=by rw[a];exact bY
  rw[aG a'];exact fY M e
def IA.ab{mA:Str->LD B5}(I:IA h x dx C mA):∃od,PySem.W.InstAt h x (iZ C dx) C (M od)/\∀name,Am name od=M (mA name):=
 let⟨od,ho,hl⟩:=ad2 I.ns
 #[od,#[I.obj,rfl,rfl,ho],hl]
section
variable{prog:bS}{w:bO}{A:cY}{E:B5->az->Prop}{s:az}{K:ao}{x dx C f:Addr}{mA:Str->LD B5}{name:Str}{v:B5}
def agu{Q:B5->az->Prop}(X:K.In s.heap)(I:IA s.heap x dx C mA)(hg:se K C name=L)(hh:qM K C=L)(ha:fZ K (.ref C) name=M S)(hv:mA name=M v)(hv':F9 v=L)(h:Q v { s with toks:=s.toks+1 }):a_ (bf prog w) A (Qy (.ref x) name expr) Q E s:=by
 let#[od,acv,hl]:=I.ab;exact epD X acv (ad6 hg).1 (ad7 hh ha rfl<|by rw[hl,hv]) hv' h
def aav{Q:Unit->az->Prop}(X:K.In s.heap)(I:IA s.heap x dx C mA)(hs:fZ K (.ref C) "__setattr__"=M (M<|.builtin "object.__setattr__"))(hp:wB K C=L)(ht:yX K C name=M S)(hh:qM K C=L)(hw:C6 mA ns)(hsz:zl ns<=aj)(h:∀h',IA h' x dx C (λy=>if y=name then M v else mA y)->jP dx s.heap h'->Q () { s with heap:=h',toks:=s.toks+2 }):a_ (bf prog w) A (setAttr (.ref x) name v) Q E s:=by
 let#[od,acv,hl]:=I.ab;refine es2 X acv hs<|nin (s:={ s with toks:=s.toks+1 }) (r:=S) X acv hp ht λb=>?_;let#[cd,hc,hd']:=qm1 hh;have hx:=I.obj;refine ak<|aN<|ak<|ak<|wpAny_loadPart hx<|ak<|fdp (s:={ s with toks:=s.toks+1 }) (ad9 X hc) ?_;rw[hd'];refine aN (a:=M dx)<|ak<|aN<|ak ?_;refine wpAny_nsSet1 (s:={ s with toks:=s.toks+1 }) I.ns λh' hn2 hs2=>?_;let#[oD,esD,stkD,hoD,hdD,hcD]:=hn2.count<|etk name v hw;refine ak (wpAny_lookBehind hoD (by rw[hdD];exact pastItsLine_dict (cu hcD (by rw[cX];lia))) ?_);exact aN<|h _ #[(hs2.2 _<|gi I.ne).trans I.obj,hn2,I.ne] hs2
def hbs{R:C1->az->Prop}(X:K.In s.heap)(hm:yY K C=L)(hi:fZ K (.ref C) "__init__"=M (M<|.ref f))(hf:PySem.W.typeIn K (.ref f)=M (.type "function"))(h:lK (bf prog w) (A.under<|.builtin "type.__call__" #[.ref C::vs,kw]) (.call (.ref f) #[.ref (s.heap.objs.size+1)::vs,kw]) (qm2 (s.heap.objs.size+1) R)
   { s with heap:=(s.heap.push gD).push (iZ C s.heap.objs.size) }):
  lK (bf prog w) A (.call (.ref C) #[vs,kw]) R s:=by
 let#[hh,g,d,t,os]:=s;exact ev0 (qu1 X hm) (ado X hi) (λself=>PySem.W.bind_fn X self hf) (.inl rfl) h
end
noncomputable def kH(f:Str)(v:V):B (Str×V)->B (Str×V)
|[]=>[(f,v)]
|(g,x)::r=>if g=f then(g,v)::r else(g,x)::kH f v r
theorem Eu(f g:Str)(v:V):∀fs:B<|Str×V,(kH f v fs).lookup g=if g=f then M v else fs.lookup g
|[]=>by
 show oG g [(f,v)]=_;by_cases h:g=f
 .have hb:=gX.mpr h;simp only[oG,hb,aH h]
 .have hb:=dM.mpr h;simp only[oG,hb,aG h]
|(k,x)::r=>by
 have ih:=Eu f g v r;rw[show kH f v ((k,x)::r)=(if k=f then(k,v)::r else(k,x)::kH f v r)from rfl];by_cases hk:k=f
 .grind
 .grind
theorem BV(f:Str)(v:V):∀fs:B<|Str×V,f∈(kH f v fs).map (·.1)/\∀g,g∈fs.map (·.1)->g∈(kH f v fs).map (·.1)
|[]=>#[by simp[kH],λg h=>by simp at h]
|(k,x)::r=>by
 let#[i1,i2]:=BV f v r;rw[show kH f v ((k,x)::r)=(if k=f then(k,v)::r else(k,x)::kH f v r)from rfl];by_cases hk:k=f
 .grind
 .grind
theorem Ew(f:Str)(v:V):∀fs:B<|Str×V,zl (kH f v fs)<=zl fs+1
|[]=>by simp[kH]
|(k,x)::r=>by
 have ih:=Ew f v r;rw[show kH f v ((k,x)::r)=(if k=f then(k,v)::r else(k,x)::kH f v r)from rfl];by_cases hk:k=f
 .rw[aH hk,cX,cX];lia
 .rw[aG hk,cX,cX];lia
def s9.ab(r:s9 (M v) o):∃u,o=M u/\acb v u:=by
 cases o with
 |none=>exact(show bu from r).elim
 |some u=>exact#[u,rfl,r]
def ad3(r:acb v u):F9 u=L:=by
 cases v with
 |d=>cases(show u=fN from r);rfl
 |c b=>cases(show u=Ia b from r);rfl
 |b i=>let#[t,e]:=(show ∃t,u=C3 i t from r);cases e;rfl
 |e x=>let#[t,e]:=(show ∃t,u=C4 x t from r);cases e;rfl
 |h b=>let#[t,e]:=(show ∃t,u=O5 b t from r);cases e;rfl
 |g b=>let#[t,e]:=(show ∃t,u=O6 b t from r);cases e;rfl
 |a a=>cases(show u=bU a from r);rfl
 |f n=>cases(show u=Value.type n from r);rfl
section
variable{P:bS}{w:bO}{H H':Hp}{h h':Heap}{a C dx:Addr}{fs fs':B (Str×V)}
def Ph(hok:gM P w H h)(e:H a=M (.g C dx fs)):∃mA,IA h a dx C mA/\(∀f,s9 (fs.lookup f)<|mA f)/\C6 mA (fs.map (·.1))/\zl fs<=1000/\H dx=M (.d a):=by
 let#[d,z,ne,ob,mA,n,r,q]:=(show fU P w H h a (.g C dx fs)from hok a _ e);exact#[mA,#[ob,n,ne],r,q,z,d]
end
structure Bl (K:ao) (C:Addr):Prop where
 pg:se K C Dc=L
 hd:qM K C=L
 po:wB K C=L
 sa:fZ K (.ref C) "__setattr__"=M (M (.builtin "object.__setattr__"))
def Bl.get{K:ao}(c:Bl K C)(f:Str):se K C f=L:=c.pg
def nV(K:ao)(C:Addr)(f:Str):Prop:=fZ K (.ref C) f=M S
def nV.ab{K:ao}(n:nV K C f):yX K C f=M S:=by
 unfold yX;rw[show fZ K (.ref C) f=M S from n];rfl
section
variable{X:Cx}{pins:B (Addr×Obj)}{O:St}{H:Hp}{s:az}{a C dx:Addr}{fs:B (Str×V)}{f:Str}{v:V}{A:cY}{E:B5->az->Prop}
def Itl{Q:B5->az->Prop}(I:Inv X pins O H s)(e:H a=M (.g C dx fs))(c:Bl X.K C)(n:nV X.K C f)(l:fs.lookup f=M v)(h:∀u s',Inv X pins O H s'->acb v u->Q u s'):a_ (bf X.prog X.w) A (Qy (.ref a) f b) Q E s:=by
 let#[mA,UI,r,_,_,_]:=Ph I.ab e;let#[u,hu,ru]:=s9.ab (v:=v) (o:=mA f) (by rw[<-l];exact r f);exact agu I.xo UI (c.get f) c.hd n hu (ad3 ru)<|h u _ (I.tok _) ru
def Itt{Q:Unit->az->Prop}(I:Inv X pins O H s)(e:H a=M (.g C dx fs))(c:Bl X.K C)(n:nV X.K C f)(hl:zl fs<1000)(ry:acb y u)(h:∀s',Inv X pins O (upd H a<|.g C dx<|kH f y fs) s'->Q () s'):a_ (bf X.prog X.w) A (setAttr (.ref a) f u) Q E s:=by
 let#[mA,UI,r,wi,_,ho]:=Ph I.ab e;have hz:zl (fs.map (·.1))<=aj:=by rw[aa,cg];lia
 refine aav I.xo UI c.sa c.po n.ab c.hd wi hz λh' O' sb=>h _ ?_;have hd:∃o,h'.get? dx=M o:=let⟨o,_,_,e',_⟩:=O'.ns;#[o,e']
 refine I.ar (x:=a) (e:=dx) (by rw[e];exact qH) (.inr ho) (λb q hb z=>(sb.2 b hb).trans z) hd ?_;refine#[by rw[bg UI.ne];exact ho,?_,UI.ne,O'.obj,_,O'.ns,λg=>?_,λg hg=>?_]
 .have:=Ew f y fs;lia
 .rw[Eu];by_cases q:g=f
  .rw[aH q,aH q];exact ry
  .rw[aG q,aG q];exact r g
 .by_cases q:g=f
  .rw[q];exact(BV f y fs).1
  .refine(BV f y fs).2 g (wi g λz=>hg ?_);show(if g=f then M u else mA g)=S;rw[aG q];exact z
def Inv.made(I:Inv X pins O H s):Inv X pins O (upd (upd H s.heap.objs.size<|.d<|s.heap.objs.size+1) (s.heap.objs.size+1)<|.g C s.heap.objs.size [])
  { s with heap:=(s.heap.push gD).push (iZ C s.heap.objs.size) }:=by
 have e1:(s.heap.push gD).get? s.heap.objs.size=M gD:=be s.heap rfl;have e2:((s.heap.push gD).push<|iZ C s.heap.objs.size).get? (s.heap.objs.size+1)=M (iZ C s.heap.objs.size):=by
  have:=be (s.heap.push gD) (o:=iZ C s.heap.objs.size) rfl;rwa[gY]at this
 have e3:(s.heap.push gD).Ns s.heap.objs.size (λ_=>S):=#[gD,#[],_,e1,rfl,(λe he=>aI he<|by simp),λ_=>rfl];have I1:=I.ad (a:=s.heap.objs.size) (o:=.d<|s.heap.objs.size+1) (h':=s.heap.push gD) (t':=s.toks) (λb u q=>aA _ q) (aM _) #[_,e1];refine I1.ad (a:=s.heap.objs.size+1) (o:=.g C s.heap.objs.size []) (t':=s.toks) (λb u q=>aA _ q) (x_<|gY _ _) ?_;have ne:s.heap.objs.size≠s.heap.objs.size+1:=bI<|iM _;refine#[by rw[bg ne,bZ],cN _,ne,e2,λ_=>S,(ew2 e3).at λo q=>aA _ q,λ_=>qH,λy hy=>aI rfl hy]
def aaw{Q:B5->az->Prop}(hb:Lw e f env (eval e env)=eval e env)(h:a_ (bf prog w) A (eval e env) (λo QE=>a_ (bf prog w) A (Qy o f L) Q E QE) E s):a_ (bf prog w) A (eval (.Attribute e f pos) env) Q E s:=
 Attribute_any_ h (by rw[arm_eval_Attribute,hb])
end
end L2
namespace L2
open PySem PySem.Spec PyProof.Rows
structure jU (k:Nat) (A:cY):Prop where
 hd:A.handled=S
 dp:A.depth+3*k+5<vc
 un:A.units+16*k+200<d_
def jU.ac(r:jU k A)(h:j<=k):jU j A:=#[r.hd,by have:=r.dp;lia,by have:=r.un;lia]
def jU.deeper(r:jU (k+1) A)(env:Env):jU k (A.deeper env):=
 #[r.hd,by have:=r.dp;show A.depth+1+3*k+5<_;lia,by have:=r.un;show A.units+3+16*k+200<_;lia]
theorem KSq{A:cY}:(A.under<|.builtin "type.__call__" #[.ref C::us,kw]).depth=A.depth+1:=by
 rfl
theorem Mk3{A:cY}:(A.under<|.builtin "type.__call__" #[.ref C::us,kw]).units=A.units+1:=by
 rfl
def jU.ad(r:jU (k+1) A)(C:Addr)(us:B B5)(kw:B<|Str×B5):jU k (A.under<|.builtin "type.__call__" #[.ref C::us,kw]):=
 #[r.hd,by have:=r.dp;rw[KSq];lia,by have:=r.un;rw[Mk3];lia]
def jU.depth(r:jU k A):A.depth<vc:=by have:=r.dp;lia
def Wl:TA:=λ_ H Q=>Q [] H
def afl(ta:TE)(tr:TA):TA:=λO H Q=>ta O H λx H1=>tr O H1 λxs H2=>Q (x::xs) H2
section
variable{X:Cx}{e:Expr}{es:B Expr}{te:TE}{t:TA}{pos:Pos}
def Ml:PA X [] Wl:=λ_ _ _ _ H Q I h=>gE #[[],H,I,.nil,h]
def IB(ha:PE X e te)(hr:PA X es t)(hs:gp (e::es) X.ab=(W,eval e X.ab)::gp es X.ab:=by rfl):PA X (e::es) (afl te t):=by
 intro pos pins s O H Q I h;rw[hs];refine f_<|bH (ha pins s O H _ I h) λu s1 z0=>?_;let#[x,H1,I1,r1,q1]:=z0;exact bH (hr pos pins s1 O H1 _ I1 q1) λus s2 qq=>by let#[xs,H2,I2,r2,q2]:=qq;exact#[x::xs,H2,I2,.cons r1 r2,q2]
def tTup(t:TA):TE:=λO H Q=>t O H λxs H1=>zl xs<=aj/\∀p,H1 p=S->Q (.a p) (upd H1 p<|.b xs)
def tLst(t:TA):TE:=λO H Q=>t O H λxs H1=>zl xs<=aj/\∀p,H1 p=S->Q (.a p) (upd H1 p<|.a xs)
def ac4{x1}(h:PA X es t):PE X (.Tuple es x1 pos) (tTup t):=by
 intro pins s O H Q I hq;refine wpAny_Tuple_spliced (bH (h pos pins s O H _ I hq) λus s1 ⟨xs,H1,I1,r,z,q⟩=>#[by rw[<-r.length];exact z,?_]);have hf:=I1.ab.fresh<|aM _;refine#[.a s1.heap.objs.size,upd H1 s1.heap.objs.size<|.b xs,I1.ad (t':=s1.toks) (λb u e=>aA _ e) (aM _) ?_,rfl,q _ hf];exact#[z,us,r,#[_,be _ rfl,rfl,_,rfl]]
def ac5(h:PA X es t):PE X (.List es pos) (tLst t):=by
 intro pins s O H Q I hq;refine wpAny_List_spliced (bH (h pos pins s O H _ I hq) λus s1 ⟨xs,H1,I1,r,z,q⟩=>#[by rw[<-r.length];exact z,?_]);have hf:=I1.ab.fresh<|aM _;refine#[.a s1.heap.objs.size,upd H1 s1.heap.objs.size<|.a xs,I1.ad (t':=s1.toks) (λb u e=>aA _ e) (aM _) ?_,rfl,q _ hf];exact#[z,us,0,r,be _ rfl]
end
abbrev Sp:=B V->Hp->VK->XK->Prop
abbrev BW:=B Env->Hp->az->XK->B5->az->Prop
structure BX (P:bS) (w:bO) (K:ao) (mg:Str->LD B5) (base:Heap) (A:cY) (outer:B Env) (s:az) (H:Hp):Prop where
 frames:A.frames=M outer
 mod:Mod K mg base
 bs:∀b o,base.get? b=M o->s.heap.get? b=M o/\H b=S
 bsz:base.objs.size<=s.heap.objs.size
 uE:s.heap.FunFrames base outer
 frf:(∀b∈frs outer,H b=S)/\Tb H
 ab:gM P w H s.heap
 bare:qG s.gens
def CE(outer:B Env)(P:bS)(w:bO)(H:Hp)(s:az)(Q:VK)(u:B5)(s':az):Prop:=
 ∃v H',s'.os=s.os/\qG s'.gens/\Un (frs outer) [] H H' s.heap s'.heap/\gM P w H' s'.heap/\acb v u/\Q v H'
def CR(CX:BW)(outer:B Env)(P:bS)(w:bO)(H:Hp)(s:az)(Q:VK)(E:XK)(r:C1)(s':az):Prop:=
 match r with
 |.ok (.ret u)=>CE outer P w H s Q u s'
 |.ok _=>bu
 |.error e=>CX outer H s E e s'
structure iB (P:bS) (w:bO) (K:ao) (mg:Str->LD B5) (base:Heap) (CX:BW) (k:Nat) (f:Addr) (fd:fi) (ps:B Str) (sp:Sp):Prop where
 len:∀vs H Q E,sp vs H Q E->zl vs=zl ps
 run:∀(A:cY) (outer:B Env) (s:az) (H:Hp) (args:Args) (us:B B5) (vs:B V) (Q:VK) (E:XK),jU k A->BX P w K mg base A outer s H->D7 s fd args (ps.zip us)->bN vs us->sp vs H Q E->
  lK (bf P w) A (.call (.ref f) args) (CR CX outer P w H s Q E) s
def iB.ac{w:bO}{K:ao}{mg:Str->LD B5}{base:Heap}{CX:BW}{j k:Nat}{f:Addr}{fd:fi}{ps:B Str}{sp:Sp}(F:iB P w K mg base CX j f fd ps sp)(h:j<=k):iB P w K mg base CX k f fd ps sp:=#[F.len,λA outer s H args us vs Q E hr=>F.run A outer s H args us vs Q E<|hr.ac h]
def iB.imp{w:bO}{K:ao}{mg:Str->LD B5}{base:Heap}{CX:BW}{k:Nat}{f:Addr}{fd:fi}{ps:B Str}{sp p9:Sp}(F:iB P w K mg base CX k f fd ps sp)(h:∀vs H Q E,p9 vs H Q E->sp vs H Q E):iB P w K mg base CX k f fd ps p9:=
 #[λvs H Q E q=>F.len vs H Q E<|h _ _ _ _ q,λA outer s H args us vs Q E hr he hb hv hs=>F.run A outer s H args us vs Q E hr he hb hv<|h _ _ _ _ hs]
def BX.ad{w:bO}{K:ao}{mg:Str->LD B5}{base:Heap}{A:cY}{outer:B Env}{s:az}{H:Hp}(e:BX P w K mg base A outer s H)(C:Addr)(us:B B5)(kw:B<|Str×B5):BX P w K mg base (A.under<|.builtin "type.__call__" #[.ref C::us,kw]) outer s H:=#[by first|exact e.frames|(simpa[Around.under,Code.envs,Code.isFrame,pushEnvs]using e.frames),e.mod,e.bs,e.bsz,e.uE,e.frf,e.ab,e.bare]
section
variable{X:Cx}{pins:B (Addr×Obj)}{O:St}{H:Hp}{s s':az}
def Inv.bi(I:Inv X pins O H s):BX X.prog X.w X.K X.mg X.base X.A X.stack s H:=
 #[I.ok.frames,I.ok.mod,I.bs,cu I.ok.bsz I.sz,I.stack,#[I.Iz,I.tb],I.ab,I.bare]
def Inv.after(I:Inv X pins O H s)(h:CE X.stack X.prog X.w H s Q u s'):EP X pins O Q u s':=by
 let#[v,H',os,bare,un,hok,r,q]:=h;let#[hh,g,d,t,os']:=s';obtain rfl:os'=s.os:=os;exact#[v,H',I.call (h':=hh) (g':=g) (d':=d) (t':=t) (ch:=[]) un hok bare (λb z=>aI z<|by simp),r,q]
end
def Zn(sp:Sp)(QL:B V)(E:XK)(t:TA):TE:=λO H Q=>t O H λvs H1=>sp (vs++QL) H1 Q E
def afm(C:Addr)(sp:Sp)(QL:B V)(E:XK)(t:TA):TE:=λO H Q=>t O H λvs H1=>∀x dx,H1 x=S->H1 dx=S->dx≠x->
 sp (.a x::(vs++QL)) (upd (upd H1 dx<|.d x) x<|.g C dx []) (λv H2=>v=.d/\Q (.a x) H2) E
def RZ(K:ao)(fd:fi)(ps:B Str)(ds:B B5):Prop:=
 ∀(s:az) (us:B B5),K.In s.heap->zl (us++ds)=zl ps->D7 s fd #[us,[]] (ps.zip<|us++ds)
def RZ.all{K:ao}(h:∀us:B B5,zl us=zl ps->sj fd #[us,[]]=pure (ps.zip us)):RZ K fd ps []:=λs us _ hl=>by
 rw[ee]at hl ⊢;exact .of_eq<|h us hl
def vo(CX:BW)(X:Cx)(E:XK):Prop:=∀(pins:B<|Addr×Obj) (O:St) (H:Hp) (s:az) (e:B5) (s':az),Inv X pins O H s->CX X.stack H s E e s'->X.xe e s'
section
variable{X:Cx}{CX:BW}{k:Nat}{f C:Addr}{fd:fi}{ps:B Str}{sp:Sp}{QL:B V}{ds:B B5}{E:XK}{x m:Str}{p pos apos:Pos}{e o:Expr}{es:B Expr}{ta:TE}{t:TA}
def S9(F:iB X.prog X.w X.K X.mg X.base CX k f fd ps sp)(hr:jU k X.A)(hb:RZ X.K fd ps ds)(hd:bN QL ds)(hx:vo CX X E)(I:Inv X pins O H s)(r:bN vs us)(h:sp (vs++QL) H Q E):a_ (bf X.prog X.w) X.A (call (.ref f) us) (EP X pins O Q) X.xe s:=by
 have r2:=r.append hd;have hl:(us++ds).length=ps.length:=by rw[<-r2.length];exact F.len _ _ _ _ h
 refine Ic<|kQ (F.run X.A X.stack s H #[us,[]] (us++ds) (vs++QL) Q E hr I.bi (hb s us I.xo hl) r2 h) λr s' hq=>?_;cases r with
 |error e=>exact hx pins O H s e s' I hq
 |ok fl=>
  cases fl with
  |ret u=>exact I.after hq
  |next=>cases hq
  |brk=>cases hq
  |cont=>cases hq
def aax(F:iB X.prog X.w X.K X.mg X.base CX k f fd ps sp)(hr:jU k X.A)(hg:Gl X x)(hm:X.mg x=M (.ref f))(hk:fK X.K (.ref f)=L)(hb:RZ X.K fd ps ds)(hd:bN QL ds)(hx:vo CX X E)(ha:PA X (e::es) t)(hdb:(x==("__debug__":Str))=W:=by decide)(he:gp (e::es) X.ab=(W,eval e X.ab)::gp es X.ab:=by rfl)(hpl:(ud pos<|gp es X.ab).any (·.1)=W:=by rfl):PE X (.Call (.Name x p) (e::es) [] pos) (Zn sp QL E t):=by
 intro pins s O H Q I h;refine eW<|Dz I hg hm ?_ hdb;refine Dd (h₀:=X.base) I.ok.mod.kin hk (bH (ha pos pins s O H _ I h) λus s1 ⟨vs,H1,I1,r,q⟩=>#[I1.xo,?_]) he hpl;exact S9 F hr hb hd hx I1 r q
def hcm(F:iB X.prog X.w X.K X.mg X.base CX k f fd ps sp)(hr:jU k X.A)(hg:Gl X x)(hm:X.mg x=M (.ref f))(hk:fK X.K (.ref f)=L)(hb:RZ X.K fd ps ds)(hd:bN QL ds)(hx:vo CX X E)(hdb:(x==("__debug__":Str))=W:=by decide):PE X (.Call (.Name x p) [] [] pos) (Zn sp QL E Wl):=by
 intro pins s O H Q I h;refine eW<|Dz I hg hm ?_ hdb;exact BI I.xo hk<|S9 (us:=[]) F hr hb hd hx I .nil h
structure Mk (K:ao) (C f:Addr):Prop where
 makes:yY K C=L
 init:fZ K (.ref C) "__init__"=M (M (.ref f))
 fn:Oe K (.ref f)=L
 kp:fK K (.ref C)=L
def Mm(R4:Mk X.K C f)(F:iB X.prog X.w X.K X.mg X.base CX k f fd ps sp)(hr:jU (k+1) X.A)(hb:RZ X.K fd ps ds)(hd:bN QL ds)(hx:vo CX X E)(I:Inv X pins O H s)(r:bN vs us)(h:∀x dx,H x=S->H dx=S->dx≠x->sp (.a x::(vs++QL)) (upd (upd H dx<|.d x) x<|.g C dx []) (λv H2=>v=.d/\Q (.a x) H2) E):a_ (bf X.prog X.w) X.A (call (.ref C) us) (EP X pins O Q) X.xe s:=by
 have hq:=h (s.heap.objs.size+1) s.heap.objs.size (I.ab.fresh<|rA _) (I.ab.fresh<|aM _)<|bI<|iM _;have I2:=Inv.made (C:=C) I;have r2:bN (V.a (s.heap.objs.size+1)::(vs++QL)) (bU (s.heap.objs.size+1)::(us++ds)):=.cons rfl<|r.append hd;have hl:(bU (s.heap.objs.size+1)::us++ds).length=ps.length:=by
  have e:=r2.length;rw[F.len _ _ _ _ hq]at e;exact e.symm
 refine Ic (hbs (f:=f) I.xo R4.makes R4.init (gX.mp R4.fn) (kQ (F.run _ X.stack _ _ #[bU (s.heap.objs.size+1)::us,[]] (bU (s.heap.objs.size+1)::(us++ds)) _ _ E (hr.ad C us [])
  (I2.bi.ad C us []) (hb _ (bU (s.heap.objs.size+1)::us) I2.xo hl) r2 hq) λr s' hq'=>?_))
 cases r with
 |error e=>exact hx pins O _ _ e s' I2 hq'
 |ok fl=>
  cases fl with
  |ret u=>
   let#[v,H',I3,rv,ev,q3]:=I2.after hq';subst ev;exact#[rv,#[V.a<|s.heap.objs.size+1,H',I3,rfl,q3]]
  |next=>cases hq'
  |brk=>cases hq'
  |cont=>cases hq'
def hd3(R4:Mk X.K C f)(F:iB X.prog X.w X.K X.mg X.base CX k f fd ps sp)(hr:jU (k+1) X.A)(hg:Gl X x)(hm:X.mg x=M (.ref C))(hb:RZ X.K fd ps ds)(hd:bN QL ds)(hx:vo CX X E)(hdb:(x==("__debug__":Str))=W:=by decide):PE X (.Call (.Name x p) [] [] pos) (afm C sp QL E Wl):=by
 intro pins s O H Q I h;refine eW<|Dz I hg hm ?_ hdb;exact BI I.xo R4.kp<|Mm (us:=[]) R4 F hr hb hd hx I .nil h
end
structure uG (N P:B Str) (sc:fG):Prop where
 kind:sc.kind=.function
 co:sc.isCoroutine=W
 gen:sc.isGenerator=W
 nd:N.Nodup
 pre:N.take (zl P)=P
 par:∀x∈P,sc.names.lookup x=M .local\/sc.names.lookup x=M .cell
 nofree:∀y∈sc.names,y.2≠.free
theorem JN{kindOf:Str->LD je}:∀{binds:B<|Str×B5}{m:Str->LD B5},(∀v,(x,v)∉binds)->D8 kindOf binds m x=m x
|[],_,_=>rfl
|(n,v)::r,m,h=>by
 unfold D8;rw[JN λw hw=>h w<|aq _ hw];split
 .grind
 .rfl
theorem JO{kindOf:Str->LD je}:∀{binds:B<|Str×B5}{m:Str->LD B5},(∀v,(x,v)∉binds)->D9 kindOf binds m x=m x
|[],_,_=>rfl
|(n,v)::r,m,h=>by
 unfold D9;rw[JO λw hw=>h w<|aq _ hw];split
 .rfl
 .grind
theorem JP{kindOf:Str->LD je}:∀{P:B Str}{vs:B B5}{i:Nat}{m:Str->LD B5},P.Nodup->P[i]?=M x->vs[i]?=M v->kindOf x=M .local->
 D8 kindOf (P.zip vs) m x=M v
|[],_,_,_,_,h,_,_=>by simp at h
|_::_,[],_,_,_,_,h,_=>by simp at h
|p::P,w::vs,0,m,nd,h1,h2,hk=>by
 simp at h1 h2;subst h1;subst h2;show D8 kindOf ((p,w)::P.zip vs) m p=_;unfold D8;rw[JN λv hv=>(b9.mp nd).1 (yZ hv).1,aH hk];simp
|p::P,w::vs,i+1,m,nd,h1,h2,hk=>by
 unfold D8;exact JP (i:=i) (b9.mp nd).2 (by simpa using h1) (by simpa using h2) hk
theorem JQ{kindOf:Str->LD je}:∀{P:B Str}{vs:B B5}{i:Nat}{m:Str->LD B5},P.Nodup->P[i]?=M x->vs[i]?=M v->kindOf x≠M .local->
 D9 kindOf (P.zip vs) m x=M v
|[],_,_,_,_,h,_,_=>by simp at h
|_::_,[],_,_,_,_,h,_=>by simp at h
|p::P,w::vs,0,m,nd,h1,h2,hk=>by
 simp at h1 h2;subst h1;subst h2;show D9 kindOf ((p,w)::P.zip vs) m p=_;unfold D9;rw[JO λv hv=>(b9.mp nd).1 (yZ hv).1,aG hk];simp
|p::P,w::vs,i+1,m,nd,h1,h2,hk=>by
 unfold D9;exact JQ (i:=i) (b9.mp nd).2 (by simpa using h1) (by simpa using h2) hk
noncomputable def adt(N:B Str)(vs:B V):St:=vs.map M++aL (zl N-zl vs) S
noncomputable def tw(CX:BW)(P:bS)(w:bO)(K:ao)(mg:Str->LD B5)(base:Heap)(N:B Str)(qual:Str)(scope:fG)(f:Addr)(cd:B5)(A:cY)(outer:B Env)(s:az)(H:Hp)(E:XK):Cx where
 prog:=P
 w:=w
 K:=K
 mg:=mg
 base:=base
 A:=A.deeper (rB qual scope s.heap.objs.size f cd)
 N:=N
 ais:=s
 aiD:=H
 ab:=rB qual scope s.heap.objs.size f cd
 outer:=outer
 stack:=rB qual scope s.heap.objs.size f cd::outer
 ex:=[]
 ac:=L
 fn:=λ_=>L
 pn:=[]
 xe:=λe s'=>a_ (bf P w) (A.deeper<|rB qual scope s.heap.objs.size f cd) (leaving (rB qual scope s.heap.objs.size f cd) e) (λ_ s''=>CX outer H s E e s'') (λe' s''=>CX outer H s E e' s'') s'
def Mn{sc:fG}(h:sc.names.lookup x=M .cell):∃c,(gc n sc.names []).lookup x=M c:=by
 have q:=zE sc.names n []<|.inl h;exact Option.isSome_iff_exists.mp q
def adV{P:bS}{w:bO}{K:ao}{mg:Str->LD B5}{base:Heap}{N ps:B Str}{qual:Str}{scope:fG}{f:Addr}{cd:B5}{A:cY}{outer:B Env}{s s1:az}{H:Hp}{E:XK}{us:B B5}{vs:B V}(Q7:uG N ps scope)(hd:A.handled=S)(e0:BX P w K mg base A outer s H)(hl:zl vs=zl ps)(r:bN vs us)(x:InCallC s s.heap.objs.size (D8 (rB qual scope s.heap.objs.size f cd).kindOf (ps.zip us) λ_=>S) (gc (s.heap.objs.size+1) scope.names []) (D9 (rB qual scope s.heap.objs.size f cd).kindOf (ps.zip us) λ_=>S) s1):Inv (tw CX P w K mg base N qual scope f cd A outer s H E) [] (adt N vs) H s1:=by
 have hpl:zl ps<=zl N:=by have:=fY vh Q7.pre;rw[cM]at this;lia
 let#[h1,tk,rfl,hk]:=x.done;have Ud:∀b:Addr,b∉(tw CX P w K mg base N qual scope f cd A outer s H E).ex:=λb z=>aI (show b∈([]:B Addr)from z) (by simp);refine#[#[e0.mod,Q7.kind,rfl,rfl,aM _,λy z c h1 h2=>?_,λy hy=>?_,λy c _ h=>?_,λ_=>hd,A9 e0.frames,.inr #[rfl,rfl],λb z=>aI z<|Ud b,e0.bs,e0.bsz,λb _ _=>Ud b,λb z=>aI z<|Ud b,e0.uE,e0.frf],
  rfl,e0.bare,Un.ac hk,#[_,x.toInCall.ns,λi y v h1 h2 h3=>?_],λy c h=>#[_,x.cell y c h],e0.ab.fresh<|aM _,λy c h=>?_,λp hp=>aI (show p∈([]:B<|Addr×Obj)from hp) (by simp),e0.ab.ac hk,?_]
 .exact name_of_addr x.apart (dN h1) (dN h2)
 .rcases hy with hy|hy
  .exact Mn hy
  .exact aI rfl (Q7.nofree _<|dN hy)
 .exact fO (x.above y c<|dN h)
 .have hi:i<zl vs:=by
   unfold adt at h2;by_cases hi:i<zl vs
   .exact hi
   .rw[eG<|by simpa using hi]at h2;rw[gj]at h2;split at h2<;>cases h2
  have ha:vs[i]?=M v:=by
   unfold adt at h2;rw[bJ (by simpa using hi),aJ]at h2;cases e:vs[i]? with
   |none=>rw[e]at h2;cases h2
   |some a=>rw[e]at h2;cases h2;rfl
  let#[u,hu,rv]:=r.get ha;have hp:ps[i]?=M y:=by
   rw[<-Q7.pre,List.getElem?_take_of_lt<|by lia];exact h1
  have fz:ps.Nodup:=by rw[<-Q7.pre];exact Q7.nd.sublist<|Eh _ _
  refine#[u,rv,?_];rcases Q7.par y (dz hp)with k|k
  .exact .inl #[k,JP fz hp hu k]
  .let#[c,e]:=Mn (n:=s.heap.objs.size+1) k;refine .inr #[.inl k,c,e,?_];have q:=x.cell y c e;rw[JQ fz hp hu (by show scope.names.lookup y≠_;rw[k];decide)]at q;exact q
 .exact e0.ab.fresh (fO<|x.above y c<|dN h)
 .unfold adt;show _=zl N;rw[aZ,aa,iP]
  lia
def afn{P:bS}{w:bO}{K:ao}{mg:Str->LD B5}{base:Heap}{k:Nat}{f:Addr}{name qual:Str}{params:sR}{body:B Stmt}{scope:fG}{dV kV doc pm cdv ct oc:B5}{an od:LD Addr}{osl:Array<|LD B5}{N ps:B Str}{sp:Sp}(lk:K.lookup f=M #[oc,od,.func<|gz name qual params body scope dV kV doc pm an cdv ct,osl])(hcd:nu K cdv qual=L)(Q7:uG N ps scope)(len:∀vs H Q E,sp vs H Q E->zl vs=zl ps)(hbody:∀(A:cY) (outer:B Env) (s:az) (H:Hp) (vs:B V) (Q:VK) (E:XK),jU k (A.deeper<|rB qual scope s.heap.objs.size f cdv)->sp vs H Q E->
   ∃t,zP (tw CX P w K mg base N qual scope f cdv A outer s H E) body t/\t { nx:=λ_ H'=>Q .d H',rt:=Q } (adt N vs) H):
  iB P w K mg base CX (k+1) f (gz name qual params body scope dV kV doc pm an cdv ct) ps sp:=by
 refine#[len,λA outer s H args us vs Q E hr e0 hb r Rj=>?_];have hl:=len _ _ _ _ Rj;have KX:=e0.mod.kin.keeps λb o e=>(e0.bs b o e).1;have lim:=e0.mod.nolimit.keeps λb o e=>(e0.bs b o e).1;have hkind:∀y∈ps.zip us,scope.names.lookup y.1=M .local\/(scope.names.lookup y.1=M .cell/\((gc (s.heap.objs.size+1) scope.names []).lookup y.1).isSome=L):=λ⟨n,v⟩ hy=>by
  rcases Q7.par n (yZ hy).1 with q|q
  .exact .inl q
  .exact .inr #[q,zE _ _ _<|.inl q]
 refine codeAny_call_function hr.depth (KX _ _ lk) rfl Q7.co Q7.gen rfl (fdt KX hcd)<|hb _ _ _ _ ?_;refine wpAny_newFunctionEnv_cells Q7.kind hkind λenv he s1 x=>?_;subst he;refine#[lim.keeps x.toInCall.keep,codeAny_func ?_];let#[t,ht,hq]:=hbody A outer s H vs Q E (hr.deeper _) Rj;have I:Inv (tw CX P w K mg base N qual scope f cdv A outer s H E) [] (adt N vs) H s1:=adV Q7 hr.hd e0 hl r x;refine gW (ht [] s1 (adt N vs) H _ I hq) (λfl s' hs=>?_) λe s' hs=>hs;have fin:∀{σ':St}{H':Hp}{v:V}{u:B5},Inv (tw CX P w K mg base N qual scope f cdv A outer s H E) [] σ' H' s'->acb v u->Q v H'->CE outer P w H s Q u s':=
  λ{σ' H' v u} acv rv q=>#[v,H',acv.os,acv.bare,acv.base,acv.ab,rv,q]
 cases fl with
 |ret u=>
  let#[v,σ',H',acv,rv,q]:=hs;exact fin acv rv q
 |next=>
  let#[σ',H',acv,q]:=hs;exact fin (v:=V.d) (u:=fN) acv rfl q
 |brk=>
  let#[_,_,_,q]:=hs;exact aE q
 |cont=>
  let#[_,_,_,q]:=hs;exact aE q
end L2
end
section
namespace HT
open PySem PyProof.Rows
section
variable{prog:bS}{w:bO}{A:cY}{E:B5->az->Prop}{s:az}
def aay{Q:B5->az->Prop}(ht:IsTup s.heap t vs.toArray)(hb:IsTup s.heap b ws.toArray)(hv:vs≠[])(h1:ws=[]->Q (.ref t) s)(h2:ws≠[]->Q (.ref s.heap.objs.size) { s with heap:=s.heap.push { cls:=.type "tuple",data:=.seq (vs++ws).toArray } })(hsz:zl vs+zl ws<=aj):a_ (bf prog w) A (jC .Add (.ref t)<|.ref b) Q E s:=by
 let#[#[cls,dd,data,sl],ho,hc,n,hd]:=id ht;let#[#[cls2,dd2,data2,sl2],ho2,hc2,n2,hd2]:=id hb;simp only at hc hd hc2 hd2;subst hc hd hc2 hd2;have e:vs.toArray++ws.toArray=(vs++ws).toArray:=by simp
 by_cases hw:ws=[]
 .exact Of #[_,ho,rfl] #[_,ho2,rfl] F_ Ly zF ym (yc _ _)
   (tuple_addW1 t b vs.toArray ws.toArray n n2 dd dd2 sl sl2 (by simpa using hv)<|by simp[hw]) #[ho,ho2,h1 hw]
 .refine Of #[_,ho,rfl] #[_,ho2,rfl] F_ Ly zF ym (yc _ _)
   (tuple_addW2 t b vs.toArray ws.toArray n n2 dd dd2 sl sl2 (by simpa using hv) (by simpa using hw) (by rw[aS,aS];exact hsz)) #[ho,ho2,?_]
  rw[e];exact h2 hw
noncomputable def oR(n d:Nat):LD J->Nat
|none=>d
|some v=>if v<0 then(v+(n:J)).toNat else min v.toNat n
theorem Mp(n d:Nat):oR n d S=d:=rfl
theorem Pj(n d k:Nat):oR n d (M (k:J))=min k n:=by rfl
def ac7(n d:Nat)(hd:d<=n)(o:LD J):oR n d o<=n:=by
 cases o with
 |none=>exact hd
 |some v=>
  show(if v<0 then(v+(n:J)).toNat else min v.toNat n)<=n;by_cases hv:v<0
  .rw[aH hv];lia
  .rw[aG hv];exact Nat.min_le_right _ _
end
end HT
namespace L2
open PySem PySem.Spec PyProof.Rows
abbrev TO:=St->Hp->(LD J->Hp->Prop)->Prop
def PO(X:Cx)(e:LD Expr)(t:TO):Prop:=
 ∀(pins:B<|Addr×Obj) (s:az) (O:St) (H:Hp) (Q:LD J->Hp->Prop),Inv X pins O H s->t O H Q->
  a_ (bf X.prog X.w) X.A (evalPart e X.ab) (λu s'=>∃o H',Inv X pins O H' s'/\VO u o/\Q o H') X.xe s
noncomputable def aaz:TO:=λ_ H Q=>Q S H
def ae4:∀{us:B B5},bN (ns.map V.b) us->An us ns:=by
 induction ns with
 |nil=>intro us r;rw[dZ]at r;cases r;exact .nil
 |cons n ns ih=>
  intro us r;rw[bB]at r;cases r with
  |cons r1 r2=>
   let#[t,e]:=r1;subst e;exact .cons n t<|ih r2
section
variable{X:Cx}{e:Expr}{te:TE}{lo hi:LD Expr}{tl th:TO}{pos p2:Pos}
def aaA:PO X S aaz:=by
 intro pins s O H Q I h;rw[Lz];exact aN #[S,H,I,.none,h]
def VZ(X:Cx)(r:V->LD J->LD J->Hp->VK->Prop):Prop:=
 ∀(pins:B<|Addr×Obj) (s:az) (O:St) (H:Hp) (x:V) (v vl vu:B5) (lo hi:LD J) (sl:Addr) (Q:VK),Inv X pins O H s->acb x v->s.heap.IsSliceOf sl vl vu .none->VO vl lo->VO vu hi->r x lo hi H Q->
  ∃T id,A6 (.type T) "__getitem__"=pure (M<|.builtin id)/\s.TypeIs v T/\a_ (bf X.prog X.w) X.A (Ak v<|.ref sl) (EP X pins O Q) X.xe s
def lf_4(r:V->LD J->LD J->Hp->VK->Prop)(te:TE)(tl th:TO):TE:=λO H Q=>te O H λx H1=>tl O H1 λl H2=>th O H2 λu H3=>r x l u H3 Q
def hd4{r:V->LD J->LD J->Hp->VK->Prop}(hr:VZ X r)(he:PE X e te)(hl:PO X lo tl)(hu:PO X hi th):PE X (.Subscript e (.Slice lo hi S p2) pos) (lf_4 r te tl th):=by
 intro pins s O H Q I h;refine So<|bH (he pins s O H _ I h) λv s1 z0=>?_;let#[x,H1,I1,r1,q1]:=z0;refine wpAny_Slice<|bH (hl pins s1 O H1 _ I1 q1) λvl s2 ⟨l,H2,I2,pl,q2⟩=>bH (hu pins s2 O H2 _ I2 q2) λvu s3 z0=>?_;let#[u,H3,I3,pu,q3]:=z0;rw[Lz];refine aN ?_;have I4:Inv X pins O H3 { s3 with heap:=s3.heap.push { cls:=.type "slice",data:=.fields (List.toArray [vl,vu,.none]) } }:=I3.ac (t':=s3.toks) λb ob q=>aA _ q;let#[T,id,hT,ht,hg]:=hr pins { s3 with heap:=s3.heap.push { cls:=.type "slice",data:=.fields (List.toArray [vl,vu,.none]) } } O H3 x v vl vu l u s3.heap.objs.size Q I4 r1 (fj' ..) pl pu q3;exact tail_any (ops:=[.ref s3.heap.objs.size,v]) ht hT hg<|by rfl
noncomputable def QR(xs:B V)(lo hi:LD J):B V:=(xs.drop<|HT.oR (zl xs) 0 lo).take<|HT.oR (zl xs) (zl xs) hi-HT.oR (zl xs) 0 lo
def OH(xs:B V)(lo hi:LD J):zl (QR xs lo hi)<=zl xs:=by
 unfold QR;rw[cM,cR]
 lia
def afo(K:ao):R2:=λx y H Q=>∃a b xs ys,x=.a a/\y=.a b/\ux K H a xs/\ux K H b ys/\xs≠[]/\zl xs+zl ys<=aj /\
 (ys=[]->Q (.a a) H)/\(ys≠[]->∀p,H p=S->Q (.a p) (upd H p<|.b<|xs++ys))
def bN.IC(r:bN xs us):us=[]↔xs=[]:=by
 cases r with
 |nil=>simp
 |cons _ _=>simp
def aaB:nC X (jC .Add) (afo X.K):=by
 intro pins s O H x y v u Q I rx ry h;let#[a,b,xs,ys,rfl,rfl,ha,hb,hx,hz,q1,q2]:=h;cases rx;cases ry;let#[its,r1,p1,_]:=I.tuple ha;let#[its2,r2,p2,_]:=I.tuple hb;refine HT.aay p1 p2 (λz=>hx<|r1.IC.mp z) (λz=>#[.a a,H,I,rfl,q1<|r2.IC.mp z]) (λz=>?_) (by rw[<-r1.length,<-r2.length];exact hz);refine#[.a s.heap.objs.size,_,I.ad (t':=s.toks) (o:=.b<|xs++ys) (λb ob q=>aA _ q) (aM _) ?_,rfl,q2 (λw=>z<|r2.IC.mpr w) _<|I.ab.fresh<|aM _];exact#[by rw[aZ];exact hz,_,r1.append r2,IsTup.new _ _]
end
end L2
namespace L2
open PySem PySem.Spec PyProof.Rows
noncomputable def kq(n:Nat)(i:J):LD Nat:=if 0<=i then(if i<n then M i.toNat else S)else if -(n:J)<=i then M (i+n).toNat else S
def bL{α:Type}(xs:B α)(i:J):LD α:=(kq (zl xs) i).bind λj=>xs[j]?
def Pk(h:kq n i=M j):seqIndex? i n=M j/\j<n/\-(n:J)<=i/\i<n:=by
 unfold kq at h;by_cases h0:0<=i
 .rw[aH h0]at h;by_cases h1:i<n
  .rw[aH h1]at h;have e:=cE h;exact#[by rw[zG h0 h1,e],by omega,by lia,h1]
  .rw[aG h1]at h;cases h
 .rw[aG h0]at h;by_cases h1:-(n:J)<=i
  .rw[aH h1]at h;have e:=cE h;exact#[by rw[yd (by lia) h1,e],by lia,h1,by lia]
  .rw[aG h1]at h;cases h
def uH{α:Type}{xs:B α}{i:J}{v:α}(h:bL xs i=M v):∃j,seqIndex? i (zl xs)=M j/\xs[j]?=M v/\j<zl xs/\-(zl xs:J)<=i/\i<zl xs:=by
 unfold bL at h;cases e:kq (zl xs) i with
 |none=>rw[e]at h;cases h
 |some j=>
  rw[e]at h;let#[h1,h2,h3,h4]:=Pk e;exact#[j,h1,h,h2,h3,h4]
def gh{α:Type}{xs:B α}{j:Nat}{v:α}(h:xs[j]?=M v):bL xs (j:J)=M v:=by
 have hj:=(aW.mp h).1;have e:kq (zl xs) (j:J)=M j:=by
  unfold kq;rw[aH<|by lia,aH<|by lia];simp
 unfold bL;rw[e];exact h
def xw{α:Type}(xs:B α)(v:α):bL (xs++[v]) (-1)=M v:=by
 have hl:zl (xs++[v])=zl xs+1:=by simp
 have e:kq (zl<|xs++[v]) (-1)=M (zl xs):=by
  unfold kq;rw[hl,aG<|by decide,aH<|by lia];congr 1
  lia
 unfold bL;rw[e];simp
def Pn(b:Expr):Prop:=∀o i,E4 b W o i=operate [o,i] (Ak o i)
def Po(X:Cx)(r:R2):Prop:=
 ∀(value slice:Expr) (pins:B<|Addr×Obj) (s:az) (O:St) (H:Hp) (x y:V) (v u:B5) (Q:VK),Inv X pins O H s->acb x v->acb y u->r x y H Q->
  E4 slice W v u=operate [v,u] (Ak v u)->a_ (bf X.prog X.w) X.A (LA value slice v u) (EP X pins O Q) X.xe s
section
variable{X:Cx}{a b:Expr}{ta tb:TE}{pos:Pos}
def afp(hr:Po X r)(ha:PE X a ta)(hb:PE X b tb)(hs:Pn b):PE X (.Subscript a b pos) (XI r ta tb):=by
 intro pins s O H Q I h;exact So<|Wi ha hb I h λv u s2 x y H2 I2 rx ry q=>hr a b pins s2 O H2 x y v u Q I2 rx ry q<|hs _ _
def rIxL(K:ao):R2:=λx y H Q=>∃p xs i v,x=.a p/\y=.b i/\jo K H p xs/\bL xs i=M v/\Q v H
def rIxT(K:ao):R2:=λx y H Q=>∃p xs i v,x=.a p/\y=.b i/\ux K H p xs/\bL xs i=M v/\Q v H
def rIxS:R2:=λx y H Q=>∃z i c,x=.e z/\y=.b i/\z.length<=aj/\bL z.cps.toList i=M c/\Q (.e ⟨#[c]⟩) H
def aaC:Po X (rIxL X.K):=by
 intro value slice pins s O H x y v u Q I rx ry h hs;let#[p,xs,i,z,rfl,rfl,hq,he,q]:=h;cases rx;let#[t,rfl]:=ry;let#[its,r,pl,hz]:=I.list hq;let#[j,h1,h2,h3,h4,h5]:=uH he;let#[w,ew,rw']:=r.get h2;have hl:=r.length;have hn:=xu;have fin:EP X pins O Q w s:=#[z,H,I,rw',q];by_cases h0:0<=i
 .have hj:i.toNat=j:=by
   rw[zG h0 h5]at h1;exact cE h1
  exact item_listR pl.isList h0 (by lia) (by rw[hj];simpa using ew) fin hs
 .have hj:(i+(its.toArray.size:J)).toNat=j:=by
   rw[yd (by lia) h4]at h1;rw[aS,<-hl];exact cE h1
  exact zH (x:=w) pl.isList.typeIs Ei.lookup
   (zJ (Q:=λr s'=>r=w/\EP X pins O Q r s') pl.isList (by lia) (by rw[aS]<;>lia) (by lia) (by rw[hj];simpa using ew) #[rfl,fin]) hs
def ac9:Po X (rIxT X.K):=by
 intro value slice pins s O H x y v u Q I rx ry h hs;let#[p,xs,i,z,rfl,rfl,hq,he,q]:=h;cases rx;let#[t,rfl]:=ry;let#[its,r,pl,hz]:=I.tuple hq;let#[j,h1,h2,h3,h4,h5]:=uH he;let#[w,ew,rw']:=r.get h2;have hl:=r.length;have hn:=xu;have fin:EP X pins O Q w s:=#[z,H,I,rw',q];exact zH (x:=w) pl.typeIs De.lookup
  (getItem_tuple (j:=j) (Q:=λr s'=>r=w/\EP X pins O Q r s') pl (by lia) (by lia) (by simp_all) (by simpa using ew) #[rfl,fin]) hs
def ac_:Po X rIxS:=by
 intro value slice pins s O H x y v u Q I rx ry h hs;let#[z,i,c,rfl,rfl,hz,he,q]:=h;let#[t,rfl]:=rx;let#[t',rfl]:=ry;let#[j,h1,h2,h3,h4,h5]:=uH he;have hl:z.cps.toList.length=z.length:=by rfl
 rw[hl]at h1 h4 h5;have hn:=xu;exact tail_any (Ie s z t) Ga.lookup (getItem_str (c:=c) (by
  have e1:decide (i < -(2 ^ 63:J))=W:=bM (by lia);have e2:decide (i≥2 ^ 63)=W:=bM (by lia);rw[e1,e2,wg]) (by rw[h1];simpa using h2) #[.e ⟨#[c]⟩,H,I.tok _,#[_,rfl],q]) hs
def MkG(its:B B5)(n j:Nat)(u:B5):c8 (·.setIfInBounds j u) { cls:=.type "list",data:=.seq its.toArray n }={ cls:=.type "list",data:=.seq (its.set j u).toArray n }:=by
 simp[c8]
def Inv.ae{pins:B<|Addr×Obj}{O:St}{H:Hp}{s:az}{p:Addr}{xs:B V}(I:Inv X pins O H s)(h:H p=M (.a xs)):∃(its:B B5) (n:Nat),bN xs its/\s.heap.get? p=M { cls:=.type "list",data:=.seq its.toArray n }/\zl xs<=aj:=by
 let#[z,its,n,r,e]:=I.ab p _ h;exact#[its,n,r,e,z]
def Inv.bt{O:St}{H:Hp}{s:az}{p:Addr}{xs ys:B V}{its its':B B5}{n n':Nat}{f:Obj->Obj}(I:Inv X pins O H s)(h:H p=M (.a xs))(ho:s.heap.get? p=M { cls:=.type "list",data:=.seq its.toArray n })(hf:f { cls:=.type "list",data:=.seq its.toArray n }={ cls:=.type "list",data:=.seq its'.toArray n' })(r:bN ys its')(hz:zl ys<=aj)(t:Nat):Inv X pins O (upd H p<|.a ys) { s with heap:=s.heap.update p f,toks:=t }:=by
 have e:(s.heap.update p f).get? p=M { cls:=.type "list",data:=.seq its'.toArray n' }:=by
  rw[sU f ho (by rw[hf]<;>rfl),hf]
 refine I.ar (x:=p) (e:=p) (by rw[h];trivial) (.inl rfl) (λb u hb q=>(mz _ _<|gi hb).trans q) #[_,e] ?_;exact#[hz,its',n',r,e]
def Zo:V->V->V->Hp->(Hp->Prop)->Prop:=λo i v H Q=>∃p xs k j,o=.a p/\i=.b k/\H p=M (.a xs)/\kq (zl xs) k=M j/\Q (upd H p<|.a<|xs.set j v)
def YM:QH X Zo:=by
 intro pins s O H o i v ov iv u Q I ro ri rv h;let#[p,xs,k,j,rfl,rfl,hp,hj,q]:=h;cases ro;let#[t,rfl]:=ri;let#[its,n,r,ho,hz]:=I.ae hp;let#[h1,h2,h3,h4]:=Pk hj;have hl:=r.length;have hn:=xu;have I':Inv X pins O (upd H p<|.a<|xs.set j v) { s with heap:=s.heap.update p (c8 (·.setIfInBounds j u)) }:=
  I.bt hp ho (MkG its n j u) (r.set rv j) (by rw[jf];exact hz) s.toks
 by_cases h0:0<=k
 .have hk:k.toNat=j:=by
   rw[zG h0 h4]at h1;exact cE h1
  exact qu2 ho h0 (by lia) (by rw[aS,<-hl];exact h4) (by rw[hk];exact#[_,I',q])
 .have hk:(k+(its.toArray.size:J)).toNat=j:=by
   rw[yd (by lia) h3]at h1;rw[aS,<-hl];exact cE h1
  exact fjo ho (by lia) (by rw[aS,<-hl];exact h3) (by lia) (by rw[hk];exact#[_,I',q])
def Mq(lo hi:LD J)(n:Nat):(vj lo hi S n).1=((HT.oR n 0 lo:Nat):J)/\(vj lo hi S n).2.1=((HT.oR n n hi:Nat):J)/\(vj lo hi S n).2.2=1:=by
 refine#[?_,?_,rfl]
 .cases lo with
  |none=>rfl
  |some i=>
   simp only[vj,HT.oR,Gb,show(1:J)>0 by decide,kF];by_cases h:i<0
   .simp only[h,kF]<;>lia
   .simp only[h,iN]<;>lia
 .cases hi with
  |none=>rfl
  |some i=>
   simp only[vj,HT.oR,Gb,show(1:J)>0 by decide,kF];by_cases h:i<0
   .simp only[h,kF]<;>lia
   .simp only[h,iN]<;>lia
def Lf(its:B B5)(lo hi:LD J):slicePick its.toArray lo hi S=((its.drop<|HT.oR (zl its) 0 lo).take<|HT.oR (zl its) (zl its) hi-HT.oR (zl its) 0 lo).toArray:=by
 let#[h1,h2,h3]:=Mq lo hi its.toArray.size;unfold slicePick;rw[h1,h2,h3];simp only[sliceRange_one,pick_run,aS]<;>rfl
def rSlL(K:ao):V->LD J->LD J->Hp->VK->Prop:=λx lo hi H Q=>∃a xs,x=.a a/\jo K H a xs/\∀p,H p=S->Q (.a p) (upd H p<|.a<|QR xs lo hi)
def aaD:VZ X (rSlL X.K):=by
 intro pins s O H x v vl vu lo hi sl Q I rx hs pl pu h;let#[a,xs,rfl,hx,q]:=h;cases rx;let#[its,r,ht,hz]:=I.list hx;have hlen:=r.length;refine#["list",_,Ei.lookup,ht.isList.typeIs,?_];refine wpAny_getItem_list_slice ht.isList hs pl pu .none (by simp) ?_ (by simp_all);rw[Lf,<-hlen];refine#[.a s.heap.objs.size,_,I.ad (t':=s.toks) (o:=.a<|QR xs lo hi) (λb ob q=>aA _ q) (aM _) ?_,rfl,q _<|I.ab.fresh<|aM _];exact#[cu (OH xs lo hi) hz,_,0,(r.drop<|HT.oR xs.length 0 lo).take<|HT.oR xs.length xs.length hi-HT.oR xs.length 0 lo,be _ rfl]
def Mr:mG X (.builtin "len") (λxs H Q=>∃p ys,xs=[.a p]/\(jo X.K H p ys\/ux X.K H p ys)/\Q (.b ys.length) H):=by
 intro pins s O H xs us Q I r h;let#[p,ys,rfl,hq,q]:=h;let#[u,rfl,rx]:=Rh r;cases rx;have hn:=xu;rcases hq with hq|hq
 .let#[its,r',pl,hz]:=I.list hq;have hlen:=r'.length;exact Calls.call_len_list pl.isList (by simp only[aS]<;>lia) #[.b ys.length,H,I.tok _,#[s.toks+1,by rw[aS,hlen]],q]
 .let#[its,r',pl,hz]:=I.tuple hq;have hlen:=r'.length;exact len_tuple pl (by simp only[aS]<;>lia) #[.b ys.length,H,I.tok _,#[s.toks+1,by rw[aS,hlen]],q]
def Ms:mG X (.builtin "len") (λxs H Q=>∃z,xs=[.e z]/\z.length<=aj/\Q (.b z.length) H):=by
 intro pins s O H xs us Q I r h;let#[z,rfl,hz,q]:=h;let#[u,rfl,t,rfl]:=Rh r;have hn:=xu;exact len_str (by lia) #[.b z.length,H,I.tok _,#[_,rfl],q]
def Mu:mG X (.type "list") (λxs H Q=>∃p ys,xs=[.a p]/\(jo X.K H p ys\/ux X.K H p ys)/\∀l,H l=S->Q (.a l) (upd H l<|.a ys)):=by
 intro pins s O H xs us Q I r h;let#[p,ys,rfl,hq,q]:=h;let#[u,rfl,rx]:=Rh r;cases rx;have fin:∀(its:B B5),bN ys its->ys.length<=aj->∀(h':Heap) (c':Nat),(∀b o',s.heap.get? b=M o'->h'.get? b=M o')->
   h'.get? s.heap.objs.size=M { cls:=.type "list",dict:=S,data:=.seq its.toArray c',slots:=#[] }->EP X pins O Q (.ref s.heap.objs.size) { s with heap:=h' }:=λits r' hz h' c' kp e=>
  #[.a s.heap.objs.size,_,I.ad (t':=s.toks) kp (aM _) (show fU X.prog X.w _ h' _ (.a ys)from#[hz,its,c',r',e]),rfl,q _<|I.ab.fresh<|aM _]
 rcases hq with hq|hq
 .let#[its,r',pl,hz]:=I.list hq;have hlen:=r'.length;let#[o,ho,hc,n,hd]:=pl.isList;exact LB p (.inl rfl) ho hc hd (λh' c' kp e=>fin its r' hz h' c' kp e) (by simp only[aS]<;>lia)
 .let#[its,r',pl,hz]:=I.tuple hq;have hlen:=r'.length;let#[o,ho,hc,n,hd]:=pl;exact LB p (.inr rfl) ho hc hd (λh' c' kp e=>fin its r' hz h' c' kp e) (by simp only[aS]<;>lia)
def Lg:mG X (.type "tuple") (λxs H Q=>∃p ys,xs=[.a p]/\((jo X.K H p ys/\∀l,H l=S->Q (.a l) (upd H l<|.b ys))\/(ux X.K H p ys/\Q (.a p) H))):=by
 intro pins s O H xs us Q I r h;let#[p,ys,rfl,h]:=h;let#[u,rfl,rx]:=Rh r;cases rx;rcases h with⟨hq,q⟩|⟨hq,q⟩
 .let#[its,r',pl,hz]:=I.list hq;have hlen:=r'.length;refine call_tuple_list pl.isList (λh' kp=>?_) (by grind);have I1:=I.ac (t':=s.toks) kp;have I2:Inv X pins O (upd H h'.objs.size<|.b ys) { s with heap:=h'.push { cls:=.type "tuple",data:=.seq its.toArray } }:=
   I1.ad (t':=s.toks) (λb o e=>aA _ e) (aM _) (show fU X.prog X.w _ _ _ (.b ys)from#[hz,its,r',IsTup.new _ _])
  exact#[.a h'.objs.size,_,I2,rfl,q _<|I1.ab.fresh<|aM _]
 .let#[its,r',pl,hz]:=I.tuple hq;exact call_tuple_same pl #[.a p,H,I,rfl,q]
def Tc(K:ao)(T:String)(x:V)(H:Hp):Prop:=match x with
|.e _=>T="str"
|.b _=>T="int"
|.a p=>(T="list"/\∃xs,jo K H p xs)\/(T="tuple"/\∃o,K.lookup p=M o/\o.cls=.type "tuple"/\o.dict=S) \/
  (T="dict"/\((∃kvs,H p=M (.e kvs))\/∃kvs,H p=M (.c kvs)))\/(T="set"/\∃Q7 n,H p=M (.i Q7 n))
|_=>bu
def Gw(I:Inv X pins O H s)(r:acb x v)(ty:Tc X.K T x H):s.TypeIs v T/\∀a,v=.ref a->∃ob,s.heap.get? a=M ob/\ob.dict=S:=by
 cases x with
 |e z=>
  let#[t,rfl]:=r;cases(show T="str" from ty);exact#[Ie s z t,λ_ e=>nomatch e]
 |b i=>
  let#[t,rfl]:=r;cases(show T="int" from ty);exact#[Ig s i t,λ_ e=>nomatch e]
 |a p=>
  cases r;rcases ty with⟨rfl,xs,hq⟩|⟨rfl,o,hk,hc,hd⟩|⟨rfl,hk⟩|⟨rfl,Q7,n,hk⟩
  .let#[its,_,pl,_]:=I.list hq;refine#[pl.isList.typeIs,λa e=>?_];cases e;let#[o,n,e,c,hd,_]:=pl;exact#[o,e,hd]
  .refine#[#[o,I.xo p o hk,hc],λa e=>?_];cases e;exact#[o,I.xo _ o hk,hd]
  .have z:∃o,s.heap.get? p=M o/\o.ExactDict:=by
    rcases hk with⟨kvs,hk⟩|⟨kvs,hk⟩
    .let#[_,_,_,_,o,_,_,e,ex,_]:=I.ab p _ hk;exact#[o,e,ex]
    .let#[_,_,_,_,o,_,_,e,ex,_]:=I.ab p _ hk;exact#[o,e,ex]
   let#[o,e,ex]:=z;refine#[#[o,e,ex.1],λa e2=>?_];cases e2;exact#[o,e,ex.2.1]
  .let#[o,_,_,_,e,ex,_]:=I.ab p _ hk;refine#[#[o,e,ex.1],λa e2=>?_];cases e2;exact#[o,e,ex.2.1]
 |_=>cases ty
variable{o e:Expr}{es:B Expr}{to:TE}{t:TA}{name:Str}{apos cpos:Pos}{T id:String}{r:V->B V->Hp->VK->Prop}
end
end L2
namespace L2
open PySem PySem.Spec PyProof.Rows
def VW(X:Cx)(id:String)(r:V->B V->Hp->VK->Prop):Prop:=
 ∀(pins:B<|Addr×Obj) (s:az) (O:St) (H:Hp) (x:V) (xs:B V) (v:B5) (us:B B5) (Q:VK),Inv X pins O H s->acb x v->bN xs us->r x xs H Q->
  a_ (bf X.prog X.w) X.A (call (.builtin id) (v::us)) (EP X pins O Q) X.xe s
def bN.one:∀{x:V}{us:B B5},bN [x] us->∃u,us=[u]/\acb x u
|_,_,#v[r]=>#[_,rfl,r]
def bN.reverse(h:bN xs us):bN xs.reverse us.reverse:=by
 induction h with
 |nil=>exact .nil
 |cons r t ih=>rw[ic,ic];exact bN.append ih #v[r]
theorem bN.rep(h:bN xs us):∀k:Nat,bN (aL k xs).flatten (aL k us).flatten
|0=>.nil
|k+1=>by
 rw[eE,eE,gH,gH];exact bN.append h<|bN.rep h k
theorem YL(its:B B5):∀(k:Nat) (acc:B B5),
 Ih (λx1 x2=>x1++x2) acc.toArray (aL k its.toArray)=(acc++(aL k its).flatten).toArray
|0,acc=>by simp
|k+1,acc=>by
 have e:acc.toArray++its.toArray=(acc++its).toArray:=by simp
 have e2:(acc++its)++(aL k its).flatten=acc++(aL (k+1) its).flatten:=by grind
 rw[<-e2,<-YL its k (acc++its),<-e,eE,y9]
section
variable{X:Cx}{pins:B (Addr×Obj)}{O:St}{H:Hp}{s:az}{l b:Addr}{xs ys zs:B V}
def Inv.Wp{its its':B B5}{f:Array B5->Array B5}{t':Nat}(I:Inv X pins O H s)(hH:H l=M (.a xs))(e:s.heap.get? l=M { cls:=.type "list",data:=.seq its.toArray n })(hf:f its.toArray=its'.toArray)(hv:bN ys its')(hz:zl ys<=aj):Inv X pins O (upd H l<|.a ys) { s with heap:=s.heap.update l<|c8 f,toks:=t' }:=by
 have q:=Gc e f;rw[hf]at q;refine I.ar (x:=l) (e:=l) (by rw[hH];exact trivial) (.inl rfl) (λb' u hb hu=>(mz s.heap (c8 f)<|gi hb).trans hu) #[_,q] ?_;exact#[hz,its',_,hv,q]
def Inv.bc{t':Nat}(I:Inv X pins O H s)(hv:bN ys its)(hz:zl ys<=aj):Inv X pins O (upd H s.heap.objs.size<|.a ys) { s with heap:=s.heap.push { cls:=.type "list",data:=.seq its.toArray },toks:=t' }:=
 I.ad (λ_ _ q=>aA _ q) (aM _) #[hz,its,0,hv,be _ rfl]
def Inv.fresh(I:Inv X pins O H s):H s.heap.objs.size=S:=I.ab.fresh<|aM _
def Inv.QT(I:Inv X pins O H s)(hH:H l=M (.a xs)):xs.length<=aj/\∃(its:B B5) (n:Nat),bN xs its/\xs.length=its.length/\s.heap.get? l=M { cls:=.type "list",data:=.seq its.toArray n }:=by
 let#[z,its,n,r,e]:=I.ab l _ hH;exact#[z,its,n,r,r.length,e]
def Mv(h:n<=aj):pW n=W:=by
 exact bM<|by lia
end
section
variable{X:Cx}
def aaE:V->B V->Hp->VK->Prop:=λx vs H Q=>∃l xs y,x=.a l/\vs=[y]/\H l=M (.a xs)/\zl xs<aj/\Q .d (upd H l<|.a<|xs++[y])
def aeE:VW X "list.append" aaE:=by
 intro pins s O H x vs v us Q I rx rv h;let#[l,xs,y,rfl,rfl,hH,hz,q]:=h;cases rx;let#[u,rfl,ru]:=rv.one;let#[z,its,n,r,hl,e]:=I.QT hH;refine nO F.slot_list_append #[_,e,rfl] F.entry_list_append (F.args_list_append_2 _ _) (Ej l its.toArray n u<|by simp_all) #[e,?_];refine#[.d,_,I.Wp (its':=its++[u]) hH e (by simp) (r.append #v[ru]) ?_,rfl,q];rw[aZ,gQ]
 lia
def aaF:V->B V->Hp->VK->Prop:=λx vs H Q=>∃l b xs zs,x=.a l/\vs=[.a b]/\H l=M (.a xs)/\H b=M (.a zs)/\zl xs+zl zs<=aj/\Q .d (upd H l<|.a<|xs++zs)
def aeL:VW X "list.extend" aaF:=by
 intro pins s O H x vs v us Q I rx rv h;let#[l,b,xs,zs,rfl,rfl,hH,hB,hz,q]:=h;cases rx;let#[u,rfl,ru]:=rv.one;cases ru;let#[z,its,n,r,hl,e]:=I.QT hH;let#[z2,its2,n2,r2,hl2,e2]:=I.QT hB;have hsz:its.toArray.size+its2.toArray.size<=aj:=by grind
 have Wg:¬(!its.toArray.isEmpty&&pW (its.toArray.size+its2.toArray.size))=L:=by
  rw[Mv hsz,Ao];exact bY
 refine nO F.slot_list_extend #[_,e,rfl] F.entry_list_extend (F.args_list_extend_2 _ _)
  (Ge l its.toArray n b its2.toArray n2 Wg (by lia)<|by lia) #[e,e2,?_]
 refine#[.d,_,I.Wp (its':=its++its2) hH e (by simp) (r.append r2) ?_,rfl,q];rw[aZ];omega
def agt{α:Type}(xs:B α)(k:Nat):zl (aL k xs).flatten=k*zl xs:=by simp
end
end L2
end
section
namespace L2
open PySem PySem.Spec PyProof.Rows
section
variable{κ:Type} [fE κ]
noncomputable def iC(kvs:B<|κ×V)(k:κ):LD V:=(kvs.find? λkv=>decide<|kv.1=k).map (·.2)
noncomputable def QO(kvs:B<|κ×V)(k:κ)(v:V):B (κ×V):=
 if(kvs.any λkv=>decide<|kv.1=k)=L then kvs.map (λkv=>if kv.1=k then(kv.1,v)else kv)else kvs++[(k,v)]
def E8{p:κ×V}(e:p.1=k):iC (p::r) k=M p.2:=by simp[iC,iA,e]
def E9{p:κ×V}(e:¬p.1=k):iC (p::r) k=iC r k:=by simp[iC,iA,e]
theorem Mw(k:κ):∀kvs:B<|κ×V,(kvs.any λkv=>decide<|kv.1=k)=(iC kvs k).isSome
|[]=>rfl
|p::r=>by
 rw[rQ];by_cases e:p.1=k
 .simp only[E8 e,aU e,Df,Dg]
 .rw[E9 e,bM e,BD];exact Mw k r
def zj(kvs:B<|κ×V)(k:κ)(v:V):zl (QO kvs k v)<=zl kvs+1:=by
 unfold QO;split
 .simp
 .simp
def s9.vp(r:s9 o u):o.isSome=u.isSome:=by
 cases o with
 |none=>cases u with
  |none=>rfl
  |some _=>exact(show bu from r).elim
 |some _=>cases u with
  |none=>exact(show bu from r).elim
  |some _=>rfl
def s9.getD(r:s9 o u)(rd:acb d d'):acb (o.getD d) (u.getD d'):=by
 cases o with
 |none=>cases u with
  |none=>exact rd
  |some _=>exact(show bu from r).elim
 |some _=>cases u with
  |none=>exact(show bu from r).elim
  |some _=>exact r
def KV.val{kvs:B<|κ×V}(r:KV kvs vs)(k:κ):s9 (iC kvs k) (xg vs k):=by
 induction r with
 |nil=>exact qH
 |@cons p q ps qs h t ih=>
  let#[h1,h2]:=h;by_cases e:p.1=k
  .have e':=h1.symm.trans e;have b:xg (q::qs) k=M q.2:=by simp[xg,iA,e']
   rw[E8 e,b];exact h2
  .have e':¬q.1=k:=λz=>e<|h1.trans z;have b:xg (q::qs) k=xg qs k:=by simp[xg,iA,e']
   rw[E9 e,b];exact ih
def KV.any(r:KV kvs vs)(k:κ):(kvs.any λkv=>decide<|kv.1=k)=vs.any λkv=>decide (kv.1=k):=by
 induction r with
 |nil=>rfl
 |cons h t ih=>simp_all
def KV.ab(r:KV kvs vs)(k:κ)(ry:acb y u):KV (kvs.map λkv=>if kv.1=k then(kv.1,y)else kv) (vs.map λkv=>if kv.1=k then(kv.1,u)else kv):=by
 induction r with
 |nil=>exact .nil
 |@cons p q ps qs h t ih=>
  rw[bB,bB];refine .cons ?_ ih;let#[h1,h2]:=h;by_cases e:p.1=k
  .rw[aH e,aH<|h1.symm.trans e];exact#[h1,ry]
  .rw[aG e,aG λz=>e<|h1.trans z];exact#[h1,h2]
def KV.put(r:KV kvs vs)(k:κ)(ry:acb y u):KV (QO kvs k y) (Af vs k u):=by
 unfold QO Af;rw[r.any k];by_cases e:(vs.any λkv=>decide<|kv.1=k)=L
 .rw[aH e,aH e];exact r.ab k ry
 .rw[aG e,aG e];exact Paired.snoc r #[rfl,ry]
def KV.length(r:KV kvs vs):zl kvs=zl vs:=Paired.length r
end
def wM(r:acb (kV k) u):(fy P w).is k u=L:=by
 cases k with
 |inl i=>let#[t,e]:=(show ∃t,u=C3 i t from r);subst e;exact Es P w i t
 |inr x=>let#[t,e]:=(show ∃t,u=C4 x t from r);subst e;exact Et P w x t
theorem JR:∀{ks:B Key}{us:B B5},bN (ks.map kV) us->ItemsAre (fy P w) ks us
|[],_,r=>by rw[dZ]at r;cases r;exact .nil
|k::ks,_,r=>by
 rw[bB]at r;cases r with
 |cons h t=>exact .cons (wM h)<|JR t
abbrev KT(H:Hp):B (B Key×V)->B (B Key×Addr×B5)->Prop:=Paired λp q=>p.1=q.1/\H q.2.1=M (.b<|p.1.map kV)/\acb p.2 q.2.2
def KT.val{H:Hp}(r:KT H kvs xs)(k:B Key):s9 (iC kvs k) ((y_ xs k).map (·.2)):=by
 induction r with
 |nil=>exact qH
 |@cons p q ps qs h t ih=>
  let#[h1,_,h2]:=h;by_cases e:p.1=k
  .have e':=h1.symm.trans e;have b:y_ (q::qs) k=M q.2:=by simp[y_,iA,e']
   rw[E8 e,b];exact h2
  .have e':¬q.1=k:=λz=>e<|h1.trans z;have b:y_ (q::qs) k=y_ qs k:=by simp[y_,iA,e']
   rw[E9 e,b];exact ih
def KT.ab(r:KT H kvs xs)(k:B Key)(ry:acb y u):KT H (kvs.map λkv=>if kv.1=k then(kv.1,y)else kv) (xs.map<|putAt k u):=by
 induction r with
 |nil=>exact .nil
 |@cons p q ps qs h t ih=>
  rw[bB,bB];refine .cons ?_ ih;let#[h1,h2,h3]:=h;unfold putAt;by_cases e:p.1=k
  .rw[aH e,aH<|h1.symm.trans e];exact#[h1,h2,ry]
  .rw[aG e,aG λz=>e<|h1.trans z];exact#[h1,h2,h3]
def KT.put(r:KT H kvs xs)(k:B Key)(hb:H b=M (.b<|k.map kV))(ry:acb y u):KT H (QO kvs k y) (sV xs k b u):=by
 have e:(kvs.any λkv=>decide<|kv.1=k)=(y_ xs k).isSome:=by
  rw[Mw,(r.val k).vp,wF]
 unfold QO sV;rw[e];by_cases q:(y_ xs k).isSome=L
 .rw[aH q,aH q];exact r.ab k ry
 .rw[aG q,aG q];exact Paired.snoc r #[rfl,hb,ry]
def KT.keeps(r:KT H kvs xs)(ht:∀b ys,H b=M (.b ys)->H' b=M (.b ys)):KT H' kvs xs:=
 Paired.Iw r λ_ _ z=>#[z.1,ht _ _ z.2.1,z.2.2]
section
variable{P:bS}{w:bO}{H:Hp}{h:Heap}{a:Addr}
def QU(ok:gM P w H h)(e:Rd H a u):fU P w H h a u:=e.ok ok
def yz(ok:gM P w H h)(e:Rd H a<|.e kvs):zl kvs<=aj/\(a==iI)=W/\∃vs,KV kvs vs/\h.DictOf (fy P w) a vs:=
 show fU P w H h a (.e kvs)from QU ok e
def afq(ok:gM P w H h)(e:H a=M (.e kvs)):zl kvs<=aj/\(a==iI)=W/\∃vs,KV kvs vs/\h.DictOf (fy P w) a vs:=yz ok<|.inl e
def vq(ok:gM P w H h)(e:H a=M (.b<|ks.map kV)):(fB<|fy P w).is h ks a:=by
 let#[_,its,r,o,h1,h2,n,h3]:=(show fU P w H h a (.b<|ks.map kV)from ok a _ e);exact#[o,its.toArray,n,h1,h2,h3,by simpa using JR r]
def Az(ok:gM P w H h)(e:Rd H a<|.c kvs):zl kvs<=aj/\(a==iI)=W /\
  ∃xs,KT H kvs xs/\h.DictOfH (fB<|fy P w) a xs:=by
 let#[z,y,xs,r,o,es,ep,h1,h2,h3,h4,h5]:=(show fU P w H h a (.c kvs)from QU ok e);refine#[z,y,xs,r,o,es,ep,h1,h2,h3,h4,λx hx=>?_,h5];have all:∀{l:B<|B Key×V}{m:B<|B Key×Addr×B5},KT H l m->∀x∈m,(fB<|fy P w).is h x.1 x.2.1:=by
  intro l m q;induction q with
  |nil=>grind
  |@cons p q ps qs hq t ih=>
   intro x hx;rcases aO.mp hx with e|hx
   .subst e;exact vq ok (by rw[<-hq.1];exact hq.2.1)
   .exact ih x hx
 exact all r x hx
def afr(ok:gM P w H h)(e:H a=M (.c kvs)):zl kvs<=aj/\(a==iI)=W /\
  ∃xs,KT H kvs xs/\h.DictOfH (fB<|fy P w) a xs:=Az ok<|.inl e
end
def AA(H:Hp)(a:Addr)(y:V)(r:LD V):Prop:=
 (∃kvs k,Rd H a (.e kvs)/\y=kV k/\r=iC kvs k)\/∃kvs k b,Rd H a (.c kvs)/\y=.a b/\H b=M (.b<|k.map kV)/\r=iC kvs k
def uI(H:Hp)(a:Addr)(y v:V)(H':Hp):Prop:=
 (∃kvs k,H a=M (.e kvs)/\y=kV k/\zl kvs<aj/\H'=upd H a (.e<|QO kvs k v)) \/
 ∃kvs k b,H a=M (.c kvs)/\y=.a b/\H b=M (.b<|k.map kV)/\zl kvs<aj/\H'=upd H a (.c<|QO kvs k v)
section
variable{X:Cx}{pins:B (Addr×Obj)}{O:St}{H:Hp}{s:az}{a:Addr}{y v:V}{u r:B5}{o:LD V}{A:cY}{E:B5->az->Prop}
def Inv.aw(I:Inv X pins O H s):iI<s.heap.objs.size:=by
 have h:=(I.mod.glob.keeps I.bk).lt;exact kR (by decide) h
def aeW{Q:B5->az->Prop}(hu:A.units+1<d_)(I:Inv X pins O H s)(g:AA H a y<|M v)(ry:acb y u)(h:∀w' s',Inv X pins O H s'->acb v w'->Q w' s'):a_ (bf X.prog X.w) A (Ak (.ref a) u) Q E s:=by
 rcases g with⟨kvs,k,e,ey,l⟩|⟨kvs,k,b,e,ey,eb,l⟩
 .subst ey;let#[z,hd,vs,rel,dd]:=yz I.ab e;let#[w',hw,rw']:=s9.ab (v:=v) (o:=xg vs k) (by rw[l];exact rel.val k);exact wpAny_getItem_of (wM ry) dd.mapOf hw<|h w' _ (I.tok _) rw'
 .subst ey;cases(show u=bU b from ry);let#[z,hd,xs,rel,dd]:=Az I.ab e;let#[w',hw,rw']:=s9.ab (v:=v) (o:=(y_ xs k).map (·.2)) (by rw[l];exact rel.val k);let#[p,hp,hp2]:=jF.mp hw;refine wpAny_getItem_heap (jQ hu) (vq I.ab eb) dd hp ?_;rw[hp2];exact h w' _ (I.tok _) rw'
def Y7{Q:B5->az->Prop}(hu:A.units+1<d_)(I:Inv X pins O H s)(g:AA H a y o)(ry:acb y u)(h:∀s',Inv X pins O H s'->Q (.bool o.isSome) s'):a_ (bf X.prog X.w) A (kB .In u<|.ref a) Q E s:=by
 rcases g with⟨kvs,k,e,ey,l⟩|⟨kvs,k,b,e,ey,eb,l⟩
 .subst ey;let#[z,hd,vs,rel,dd]:=yz I.ab e;refine wpAny_in_of (wM ry) hd dd.mapOf ?_;rw[<-(rel.val k).vp,<-l];exact h _<|I.tok _
 .subst ey;cases(show u=bU b from ry);let#[z,hd,xs,rel,dd]:=Az I.ab e;refine wpAny_in_heap (jQ hu) (vq I.ab eb) hd dd ?_;have q:=(rel.val k).vp;rw[wF]at q;rw[<-q,<-l];exact h _<|I.tok _
def Pp{Q:B5->az->Prop}(hu:A.units+1<d_)(I:Inv X pins O H s)(g:AA H a y o)(ry:acb y u)(h:∀s',Inv X pins O H s'->Q (.bool<|!o.isSome) s'):a_ (bf X.prog X.w) A (kB .NotIn u<|.ref a) Q E s:=by
 rcases g with⟨kvs,k,e,ey,l⟩|⟨kvs,k,b,e,ey,eb,l⟩
 .subst ey;let#[z,hd,vs,rel,dd]:=yz I.ab e;refine wpAny_notIn_of (wM ry) hd dd.mapOf ?_;rw[<-(rel.val k).vp,<-l];exact h _<|I.tok _
 .subst ey;cases(show u=bU b from ry);let#[z,hd,xs,rel,dd]:=Az I.ab e;refine wpAny_notIn_heap (jQ hu) (vq I.ab eb) hd dd ?_;have q:=(rel.val k).vp;rw[wF]at q;rw[<-q,<-l];exact h _<|I.tok _
def Pq{t':Nat}(I:Inv X pins O H s)(mu:SQ<|H a)(hs:jP a s.heap h')(he:∃q,h'.get? a=M q)(new:fU X.prog X.w (upd H a ob) h' a ob):Inv X pins O (upd H a ob) { s with heap:=h',toks:=t' }:=
 I.ar (x:=a) (e:=a) mu (.inl rfl) (λb q hb z=>(hs.2 b hb).trans z) he new
def adg(z:zl kvs<=aj)(hd:(a==iI)=W)(rel:KV kvs vs)(dd:h'.DictOf (fy P w) a vs):fU P w H' h' a (.e kvs):=#[z,hd,vs,rel,dd]
def JS{Q:Unit->az->Prop}(hu:A.units+1<d_)(I:Inv X pins O H s)(g:uI H a y v H')(ry:acb y u)(rv:acb v r)(h:∀s',Inv X pins O H' s'->Q () s'):a_ (bf X.prog X.w) A (JA (.ref a) u r) Q E s:=by
 rcases g with⟨kvs,k,e,ey,l,eH⟩|⟨kvs,k,b,e,ey,eb,l,eH⟩
 .subst ey eH;let#[z,hd,vs,rel,dd]:=afq I.ab e;have hz:vs.length<=aj:=by rw[<-rel.length];exact z
  have hl:(QO kvs k v).length<=aj:=by have:=zj kvs k v;lia
  refine wpAny_setItem_pairs (hsz:=hz) (wM ry) dd λh' Us hs=>h _ ?_;have he:∃q,h'.get? a=M q:=let⟨q,_,_,hq,_⟩:=Us;#[q,hq]
  exact Pq I (by rw[e];exact qH) hs he<|adg hl hd (rel.put k rv) Us
 .subst ey eH;cases(show u=bU b from ry);let#[z,hd,xs,rel,dd]:=afr I.ab e;have hz:xs.length<=aj:=by rw[<-Paired.length rel];exact z
  have hl:(QO kvs k v).length<=aj:=by have:=zj kvs k v;lia
  refine wpAny_setItem_heap (hsz:=hz) (jQ hu) (vq I.ab eb) dd λh' Us hs=>h _ ?_;let#[q,es,ep,hq,h2,h3,h4,_,h5]:=Us;refine Pq I (by rw[e];exact qH) hs #[q,hq] #[hl,hd,_,(rel.put k eb rv).keeps λc ys ec=>?_,q,es,ep,hq,h2,h3,h4,h5];rw[bg<|QF ec e λz=>nomatch z];exact ec
end
def OJ(I:Inv X pins O H s)(g:AA H a y o):s.TypeIs (.ref a) "dict":=by
 rcases g with⟨kvs,k,e,_,_⟩|⟨kvs,k,b,e,_,_,_⟩
 .let#[_,_,vs,_,dd]:=yz I.ab e;exact dd.typeIs
 .let#[_,_,xs,_,dd]:=Az I.ab e;exact dd.typeIs
def hdy(h:Heap)(hb:iI<h.objs.size):fU P w H (h.push { cls:=.type "dict",data:=.dict #[] }) h.objs.size (.e []):=
 #[cN _,dM.mpr<|gi<|bI hb,[],.nil,H9 h]
def he2(h:Heap)(hb:iI<h.objs.size):fU P w H (h.push { cls:=.type "dict",data:=.dict #[] }) h.objs.size (.c []):=
 #[cN _,dM.mpr<|gi<|bI hb,[],.nil,_,#[],0,be _ rfl,#[rfl,rfl,rfl],rfl,rfl,gZ]
def adh:TE:=λ_ H Q=>∀p,H p=S->Q (.a p) (upd H p<|.e [])
def adi:TE:=λ_ H Q=>∀p,H p=S->Q (.a p) (upd H p<|.c [])
section
variable{X:Cx}{pos:Pos}
def heo:PE X (.Dict [] [] pos) adh:=λpins s O H Q I h=>
 Gf #[.a s.heap.objs.size,_,I.ad (a:=s.heap.objs.size) (o:=.e []) (t':=s.toks) (λ_ _ q=>aA _ q) (aM _)<|hdy s.heap I.aw,rfl,h _<|I.ab.fresh<|aM _]
def hfa:PE X (.Dict [] [] pos) adi:=λpins s O H Q I h=>
 Gf #[.a s.heap.objs.size,_,I.ad (a:=s.heap.objs.size) (o:=.c []) (t':=s.toks) (λ_ _ q=>aA _ q) (aM _)<|he2 s.heap I.aw,rfl,h _<|I.ab.fresh<|aM _]
end
def vt(kvs more:B<|Key×V):B (Key×V):=more.foldl (λacc kv=>QO acc kv.1 kv.2) kvs
def KV.merge:∀{more:B<|Key×V}{rs:B<|Key×B5}{kvs:B<|Key×V}{vs:B<|Key×B5},KV more rs->KV kvs vs->KV (vt kvs more) (merged vs rs):=by
 intro more rs kvs vs r;induction r generalizing kvs vs with
 |nil=>intro q;exact q
 |@cons p q ps qs h t ih=>
  intro r0;have e:KV (QO kvs p.1 p.2) (Af vs q.1 q.2):=by
   have:=r0.put p.1 h.2;rw[<-h.1];exact this
  exact ih e
section
variable{X:Cx}{pins:B (Addr×Obj)}{O:St}{H:Hp}{s:az}{a:Addr}{y d:V}{u r:B5}{o:LD V}{A:cY}{E:B5->az->Prop}
def adj{Q:B5->az->Prop}(hu:A.units+1<d_)(I:Inv X pins O H s)(g:AA H a y o)(ry:acb y u)(h:∀w' s',Inv X pins O H s'->acb (o.getD .d) w'->Q w' s'):a_ (bf X.prog X.w) A (call (.builtin "dict.get") [.ref a,u]) Q E s:=by
 rcases g with⟨kvs,k,e,ey,l⟩|⟨kvs,k,b,e,ey,eb,l⟩
 .subst ey;let#[z,hd,vs,rel,dd]:=yz I.ab e;refine uf ny dd.typeIs mD (yo _ _) (meets_dict_get (fy X.prog X.w) a (wM ry) hd) #[_,dd.mapOf,h _ _ (I.tok _) ?_];rw[l];exact(rel.val k).getD rfl
 .subst ey;cases(show u=bU b from ry);let#[z,hd,xs,rel,dd]:=Az I.ab e;refine uf ny dd.typeIs mD (yo _ _) (meetsH_dict_get (fB<|fy X.prog X.w) a b hd) #[jQ hu,k,xs,vq I.ab eb,dd,h _ _ (I.tok _) ?_];rw[l];exact(rel.val k).getD rfl
def adk{Q:B5->az->Prop}(hu:A.units+1<d_)(I:Inv X pins O H s)(g:AA H a y o)(ry:acb y u)(rd:acb d r)(h:∀w' s',Inv X pins O H s'->acb (o.getD d) w'->Q w' s'):a_ (bf X.prog X.w) A (call (.builtin "dict.get") [.ref a,u,r]) Q E s:=by
 rcases g with⟨kvs,k,e,ey,l⟩|⟨kvs,k,b,e,ey,eb,l⟩
 .subst ey;let#[z,hd,vs,rel,dd]:=yz I.ab e;refine uf ny dd.typeIs mD (yq _ _ _) (meets_dict_get_default (fy X.prog X.w) a (wM ry) hd r) #[_,dd.mapOf,h _ _ (I.tok _) ?_];rw[l];exact(rel.val k).getD rd
 .subst ey;cases(show u=bU b from ry);let#[z,hd,xs,rel,dd]:=Az I.ab e;refine uf ny dd.typeIs mD (yq _ _ _) (meetsH_dict_get_default (fB<|fy X.prog X.w) a b hd r) #[jQ hu,k,xs,vq I.ab eb,dd,h _ _ (I.tok _) ?_];rw[l];exact(rel.val k).getD rd
end
end L2
end
section
namespace XR
open PySem PySem.W PySem.Calls PyProof.Rows
def Gx:∀(ns:B J) (vs:B B5),WellAll P h vs (ns.map VR)->An vs ns:=by
 intro ns;induction ns with
 |nil=>
  intro vs w;rw[dZ]at w;cases w;exact .nil
 |cons n ns ih=>
  intro vs w;rw[bB]at w;cases w with
  |cons a b=>
   cases a;exact .cons _ _<|ih _ b
def aeX{l:Qz}(hn:l.most=M n)(hpre:l.row.toRowW.claim.pre args=L)(hwl:WellAll P h vals args):∃a vs ns,vals=[bU a]/\args=[WData.list<|ns.map VR]/\h.get? a=M { cls:=.type "list",data:=.seq vs.toArray }/\An vs ns/\zl ns<=n:=by
 have hsh:=(Sq hpre).1;have hc:=(Sq hpre).2;let#[d,r,rfl,h1,h2]:=hasAllW_cons hsh;obtain rfl:=hasAllW_nil h2;let#[xs,rfl,h3]:=hasW_list h1;let#[ns,rfl]:=items_int h3;have hlen:zl ns<=n:=by
  have h4:(WTm.not<|.lt (.lit<|.int (n:J))<|.len<|.arg 0).holds [] { args:=[.list<|ns.map .int] }=L:=by
   have h4:=(holds_andW hc).1;rw[hn]at h4;exact h4
  have h5:=condW_of h4<|w_not<|w_lt w_lit<|w_len_list<|w_arg rfl;rw[aa]at h5;refine Nat.le_of_not_lt λq=>?_;have q':(n:J)<((zl ns:Nat):J):=by omega
  (rw[aU q']at h5;exact aI h5<|by decide)
 cases hwl with
 |cons w1 w2=>
  cases w2;cases w1 with
  |list ho hall=>exact#[_,_,ns,rfl,rfl,ho,Gx ns _ hall,hlen]
def aeY(l:Qz)(args:B WData):l.row.toRowW.claim.post args (.bool L) args=L:=
 postW_of (r:=l.row.toRowW) (X:=(L==L))
  (show Ss [] (.bool L) .bool=L by first|rfl|decide|simp[Ss,WShape.arms,WShape.armsAll])
  (show(WTm.eq .res<|.lit<|.bool L).value [] { args:=args,res:=M<|.bool L,after:=args }=M (.bool<|L==L)from w_eq_bool (w_res rfl) w_lit) rfl
def OL{l:Qz}{XP:(Str->LD B5)->Heap->Prop}{YP:bO->Heap->Prop}(hn:l.most=M n)(hdf:d.params.defaults=[])(call:∀(w:bO) (ais QE:az) (mg mb:Str->LD B5) (fa:Addr) (o:Obj) (pm cd doc:B5) (a:Addr) (vs:B B5) (ns:B J),
   Ground q loose [] XP w ais mg mb QE.heap->YP w QE.heap->
   QE.heap.get? fa=M o->o.data=.func (docDef d.name d.params d.body d.scope pm cd doc)->QE.heap.CodeRec cd d.name->mg d.name=M (.ref fa)->
   QE.heap.get? a=M { cls:=.type "list",data:=.seq vs.toArray }->An vs ns->zl ns<=n->QE.gens=#[]->
   lK (bf l.prog w) xh (.call (.ref fa) #[[.ref a],[]]) (λr s'=>r=.ok (.ret<|.bool L)/\OldK QE.heap s'.heap/\s'.os=QE.os/\qG s'.gens) QE):
  WalkO q loose XP YP l.row.toRowW d [] (λf vs=>Ii f vs):=by
 intro w ais QE mg mb G S7 fa o pm cd doc dV kV ho hd hcd hD hmg hg args vals as hpre hlay hrd hwl hlo;obtain rfl:dV=.none:=Dflts.none hD hdf;obtain rfl:kV=.none:=Dflts.noKw hD;let#[a,vs,ns,rfl,rfl,hobj,hints,hlen]:=aeX hn hpre hwl;refine enter_call<|kQ (call w ais QE mg mb fa o pm cd doc a vs ns G S7 ho (fd_plain hd) hcd hmg hobj hints hlen hg) λr s' hq=>?_;let#[rfl,h2,h3,h4]:=hq;exact#[.inl #[.bool L,.bool L,[],rfl,λ_=>rfl,.bool L,aeY l _,λ_=>#[ex',λ_ hm=>(nomatch hm)]],h2,h3,h4]
end XR
namespace L2
open PySem PySem.Spec PyProof.Rows
theorem JT:∀{vs:B B5}{ns:B J},An vs ns->bN (ns.map V.b) vs
|_,_,.nil=>.nil
|_,_,.cons n t h=>.cons #[t,rfl]<|JT h
noncomputable def uK(b:Addr):LD HO:=(o6.lookup b).map λq=>.h #[.str q 0]
def Wu(H:Hp):Prop:=∀b,(H b=S\/∃o xs,H b=M (.f o<|.a xs))\/∃q,o6.lookup b=M q/\H b=M (.h #[.str q 0])
def QV(K:ao)(h:Heap):Prop:=∀b q,o6.lookup b=M q->K.lookup b=S/\h.get? b=M { cls:=.none,data:=.fields #[] }/\isCodeTable h b
def Tj(hn:(o6.map (·.1)).Nodup)(hp:p∈o6):o6.lookup p.1=M p.2:=by
 generalize o6=l at hn hp;induction l with
 |nil=>cases hp
 |cons x l ih=>
  rw[bB,b9]at hn;rcases aO.mp hp with rfl|hp
  .rw[dB];simp
  .have ne:(p.1==x.1)=W:=by
    rw[dM];intro z;exact hn.1 (by rw[<-z];exact List.mem_map_of_mem hp)
   rw[dB,ne];exact ih hn.2 hp
def hff{w:bO}{K:ao}{mg mb:Str->LD B5}{CX:BW}{k:Nat}{fa a:Addr}{fd:fi}{x:Str}{sp:Sp}{QE:az}{vs:B B5}{ns:B J}(KX:K.In QE.heap)(hns:QE.heap.Ns eV mg)(hb:QE.heap.Ns qF mb)(Uz:∀x:Str,x≠"__name__"->mb x=xY x)(hlim:QE.heap.NoLimit)(hbm:∃bm ob,mg "__builtins__"=M (.ref bm)/\bm≠qF/\QE.heap.get? bm=M ob/\ob.cls=.type "module"/\ob.dict=M qF/\ob.data=.plain)(hg:QE.gens=#[])(ha:QE.heap.get? a=M { cls:=.type "list",data:=.seq vs.toArray })(hi:An vs ns)(hl:ns.length<=aj)(hr:jU k xh)(F:∀base:Heap,K.In base->base.Ns eV mg->iB P w K mg base CX k fa fd [x] sp)(hbind:∀(s:az) (u:B5),D7 s fd #[[u],[]] [(x,u)])(Rj:∀H:Hp,Wu H->jo K H a (ns.map V.b)->sp [.a a] H (λv _=>v=.c L) λ_ _ _=>bu)(WO:∀H e s',CX [] H QE (λ_ _ _=>bu) e s'->bu)(hn:(o6.map (·.1)).Nodup)(ht:QV K QE.heap):lK (bf P w) xh (.call (.ref fa) #[[.ref a],[]]) (λr s'=>r=.ok (.ret<|.bool L)/\OldK QE.heap s'.heap/\s'.os=QE.os/\qG s'.gens) QE:=by
 have rv:=JT hi;have zm:=hi.length;have core:∀H:Hp,Wu H->jo K H a (ns.map V.b)->gM P w H QE.heap->(∀b,H b≠S->b=a\/∃q,o6.lookup b=M q)->(H a≠S->K.lookup a=S)->Tb H->
   lK (bf P w) xh (.call (.ref fa) #[[.ref a],[]]) (λr s'=>r=.ok (.ret<|.bool L)/\OldK QE.heap s'.heap/\s'.os=QE.os/\qG s'.gens) QE:=by
  intro H hO hS hok hA hK hTb;have Vk:∀{b:Addr}{o:Obj},QE.heap.get? b=M o->H b=S->(Aw QE.heap H).get? b=M o:=λe n=>fpC e n;have Ud:∀{b:Addr}{o:Obj}{es:Array vN}{ep:Nat},QE.heap.get? b=M o->o.data=.dict es ep->H b=S:=λ{b o es ep} e d=>by
   cases q:H b with
   |none=>rfl
   |some u=>
    rcases hA b (by rw[q];simp)with e'|⟨z,e'⟩
    rotate_left 1
    .rw[(ht b z e').2.1]at e;cases e;cases d
    subst e';rw[ha]at e;cases e;have d':=d;cases d'
  have VG:∀{b:Addr}{m:Str->LD B5},QE.heap.Ns b m->(Aw QE.heap H).Ns b m:=λ{b m} ⟨o,es,ep,e,d,r⟩=>#[o,es,ep,Vk e<|Ud e d,d,r];have Ys:K.In (Aw QE.heap H):=λb o e=>Vk (KX b o e) (by
   cases q:H b with
   |none=>rfl
   |some u=>
    rcases hA b (by rw[q];simp)with e'|⟨z,e'⟩
    rotate_left 1
    .rw[(ht b z e').1]at e;cases e
    subst e';rw[hK (by rw[q];simp)]at e;cases e)
  have hM:Mod K mg (Aw QE.heap H):=#[Ys,VG hns,#[mb,VG hb,Uz],by let#[mc,h1,h2]:=hlim;exact #[mc,VG h1,h2],let⟨bm,ob,b1,b2,b3,b4,b5,b6⟩:=hbm;#[bm,ob,b1,b2,Vk b3 (by
   cases q:H bm with
   |none=>rfl
   |some u=>
    rcases hA bm (by rw[q];simp)with e'|⟨z,e'⟩
    .rw[e',ha]at b3;cases b3;cases b6
    .rw[(ht bm z e').2.1]at b3;cases b3;cases b6),b4,b5,b6]]
  have e0:BX P w K mg (Aw QE.heap H) xh [] QE H:=#[rfl,hM,λb o e=>aam e,x_<|adQ _ _,trivial,#[λb hb=>aI (show b∈([]:B Addr)from hb) (by simp),hTb],hok,.of_eq hg];refine kQ ((F _ Ys<|VG hns).run xh [] QE H #[[.ref a],[]] [.ref a] [.a a] _ _ hr e0 (hbind QE<|.ref a) #v[rfl]<|Rj H hO hS) λr s' h=>?_;cases r with
  |error e=>exact(WO H e s' h).elim
  |ok fl=>
   cases fl with
   |next=>cases h
   |brk=>cases h
   |cont=>cases h
   |ret u=>
    let#[v,H',os,bare,un,V7,r',q]:=h;have q':v=.c L:=q;subst q';obtain rfl:u=Ia L:=r';refine#[rfl,#[λb o e=>?_,λb o e=>un.there b o e<|by simp],os,bare];cases q:H b with
    |none=>exact .inl (un.keep b o e q (by intro z;exact aI (show b∈([]:B Addr)from z)<|by simp)<|by simp)
    |some u=>
     rcases hO b with(z|⟨ob,xs,z⟩)|⟨y,y1,z⟩
     .rw[q]at z;cases z
     .have z2:=un.aD b ob _ z;let#[e1,_]:=hok b _ z;let#[e2,_]:=V7 b _ z2;rw[e]at e1;cases e1;exact .inl e2
     .let#[more,z2]:=un.tbls b _ z;let#[qs,e2,_]:=(show Zi H' s'.heap b _ from V7 b _ z2);let#[_,e1,e3]:=ht b y y1;rw[e1]at e;cases e;exact .inr (.inl #[e3,rfl,#[],qs,rfl,by rw[e2];simp])
 have hT:∀b,uK b≠S->∃q,o6.lookup b=M q:=λb z=>by
  cases q:o6.lookup b with
  |none=>exact aI (by unfold uK;rw[q];rfl) z
  |some y=>exact#[y,rfl]
 have Yz:∀{H:Hp} (b:Addr) (u:HO),uK b=M u->fU P w H QE.heap b u:=λb u z=>by
  cases q:o6.lookup b with
  |none=>unfold uK at z;rw[q]at z;cases z
  |some y=>
   unfold uK at z;rw[q]at z;cases z;exact#[#[],(ht b y q).2.1,trivial,λ_ _ e=>nomatch e]
 have qg:Tb uK:=λp hp=>#[#[],by unfold uK;rw[Tj hn hp];simp];have i7:o6.lookup a=S:=by
  cases q:o6.lookup a with
  |none=>rfl
  |some y=>have e:=(ht a y q).2.1;rw[ha]at e;cases e
 cases hk:K.lookup a with
 |some o=>
  have e:=KX a o hk;rw[ha]at e;cases e;refine core uK (λb=>?o) (.inr #[_,vs.toArray,_,hk,rfl,rfl,rfl,by rw[aS,zm];exact hl,by simpa using rv]) (λb u z=>Yz b u z) (λb z=>.inr<|hT b z) (λz=>(hT a z).elim λq e=>(ht a q e).1) qg;cases q:o6.lookup b with
  |none=>exact .inl (.inl (by unfold uK;rw[q];rfl))
  |some z=>exact .inr #[z,rfl,by unfold uK;rw[q];rfl]
 |none=>
  refine core (λb=>if b=a then M (.f { cls:=.type "list",data:=.seq vs.toArray }<|.a<|ns.map V.b)else uK b) (λb=>?_) (.inl<|.inr #[{ cls:=.type "list",data:=.seq vs.toArray },aH rfl]) (λb u z=>?_) (λb z=>?_) (λ_=>hk) λp hp=>?_
  .by_cases hb:b=a
   .exact .inl (.inr #[_,_,aH hb])
   .cases q:o6.lookup b with
    |none=>exact .inl (.inl ((aG hb).trans (by unfold uK;rw[q];rfl)))
    |some y=>exact .inr #[y,rfl,(aG hb).trans (by unfold uK;rw[q];rfl)]
  .by_cases hb:b=a
   .have z':=(aH hb).symm.trans z;cases z';subst hb;exact#[ha,by rw[aa];exact hl,vs,_,rv,ha]
   .exact Yz b u ((aG hb).symm.trans z)
  .by_cases hb:b=a
   .exact .inl hb
   .exact .inr (hT b λy=>z<|(aG hb).trans y)
  .let#[m,e]:=qg p hp;exact#[m,(aG λz=>by rw[<-z,Tj hn hp]at i7;cases i7).trans e]
end L2
namespace L2
open PySem PySem.Spec PyProof.Rows
def aaG{l:Ij}{XP:(Str->LD B5)->Heap->Prop}{YP:bO->Heap->Prop}{K:VS->ao}{CX:bO->BW}{sp:bO->Sp}(hn:l.most=M n)(hn2:n<=aj)(hdf:d.params.defaults=[])(hr:jU k xh)(hY:∀(w:bO) (h:Heap),YP w h->(K w.params).In h)(F:∀(w:bO) (mg:Str->LD B5) (fa:Addr) (h:Heap),(K w.params).In h->h.Ns eV mg->mg d.name=M (.ref fa)->
   ∃fd:fi,(∀(s:az) (u:B5),D7 s fd #[[u],[]] [(x,u)]) /\
    ∀base:Heap,(K w.params).In base->base.Ns eV mg->iB l.prog w (K w.params) mg base (CX w) k fa fd [x] (sp w))(Rj:∀(w:bO) (H:Hp) (a:Addr) (ns:B J),zl ns<=n->Wu H->jo (K w.params) H a (ns.map V.b)->sp w [.a a] H (λv _=>v=.c L) λ_ _ _=>bu)(WO:∀(w:bO) (H:Hp) (s:az) (e:B5) (s':az),CX w [] H s (λ_ _ _=>bu) e s'->bu)(hnd:(o6.map (·.1)).Nodup:=by decide)(hTb:∀(w:bO) (h:Heap),YP w h->QV (K w.params) h):
  LC q loose XP YP l.row.toRowW d [] (λf vs=>Ii f vs):=by
 refine XR.OL hn hdf λw ais QE mg mb fa o pm cd doc a vs ns G S7 ho hd hcd hmg hobj hints hlen hg=>?_;have KX:=hY w _ S7;let#[fd,hb,hF]:=F w mg fa _ KX G.T.g hmg;exact hff KX G.T.g G.T.b G.T.builtins G.T.nolimit G.T.bmain hg hobj hints (cu hlen hn2) hr hF hb (λH hO hS=>Rj w H a ns hlen hO hS) (λH e s'=>WO w H QE e s') hnd<|hTb w _ S7
end L2
namespace L2
open PySem PySem.Spec PyProof.Rows
def mT(s:Stmt):sR:=match s with
|.FunctionDef _ a _ _ _ _ _ _ _ _=>a
|_=>{ posonlyargs:=[],args:=[],vararg:=S,kwonlyargs:=[],kw_defaults:=[],kwarg:=S,defaults:=[] }
def jg(s:Stmt):B Stmt:=match s with
|.FunctionDef _ _ b _ _ _ _ _ _ _=>b
|_=>[]
def dH(s:Stmt):fG:=match s with
|.FunctionDef _ _ _ _ _ _ sc _ _ _=>sc
|_=>{ kind:=.function,names:=[],isGenerator:=W,isCoroutine:=W }
noncomputable abbrev Tn:BW:=λ_ _ _ _ _ _=>bu
noncomputable abbrev E0:XK:=λ_ _ _=>bu
structure xx (K:ao) (x qual:Str) (st:Stmt) (f:Addr) (fd:fi):Prop where
 ex:∃(oc:B5) (od:LD Addr) (kV doc pm:B5) (an:LD Addr) (cdv a:B5) (osl:Array (LD B5)),
  fd=gz x qual (mT st) (jg st) (dH st) .none kV doc pm an cdv a/\K.lookup f=M #[oc,od,.func fd,osl]/\nu K cdv qual=L
 kp:fK K (.ref f)=L
section
variable{P:bS}{w:bO}{K:ao}{mg:Str->LD B5}{base:Heap}
def xx.binds{st:Stmt}{f:Addr}{fd:fi}{ps:B Str}(F:xx K x qual st f fd)(h:∀(kV doc pm:B5) (an:LD Addr) (cdv ct:B5) (us:B B5),zl us=zl ps->sj (gz x qual (mT st) (jg st) (dH st) .none kV doc pm an cdv ct) #[us,[]]=pure (ps.zip us)):RZ K fd ps []:=by
 let#[oc,od,kV,doc,pm,an,cdv,ct,osl,rfl,lk,hcd]:=F.ex;exact .all<|h kV doc pm an cdv ct
def U3{st:Stmt}{f:Addr}{oc:B5}{od an:LD Addr}{osl:Array<|LD B5}{kV doc pm cdv ct:B5}(l:K.lookup f=M #[oc,od,.func<|gz x qual (mT st) (jg st) (dH st) .none kV doc pm an cdv ct,osl])(c:nu K cdv qual=L)(k:fK K (.ref f)=L):xx K x qual st f (gz x qual (mT st) (jg st) (dH st) .none kV doc pm an cdv ct):=#[#[oc,od,kV,doc,pm,an,cdv,ct,osl,rfl,l,c],k]
end
def bx(H H':Hp):Prop:=∀b o,H b=M o->H' b=M o
def bx.refl(H:Hp):bx H H:=λ_ _ h=>h
def bx.trans(a:bx H H1)(b:bx H1 H2):bx H H2:=λc o h=>b c o<|a c o h
end L2
end
section
namespace L2
open PySem PySem.W PySem.Calls PyProof.Rows
noncomputable def uy{α:Type}(lt:Nat->Nat->Bool):KasT α->α
|.ret a=>a
|.ask i j k=>uy lt<|k<|lt i j
def KBd(n:Nat){α:Type}(QJ:α->Prop):KasT α->Prop
|.ret a=>QJ a
|.ask i j k=>i<n/\j<n/\∀b,KBd n QJ<|k b
theorem Mx{α:Type}{cmp:Nat->Nat->(Bool->az->Prop)->az->Prop}{lt:Nat->Nat->Bool}{QJ:α->Prop}(hc:∀i j (C:Bool->az->Prop),i<n->j<n->C (lt i j) s->cmp i j C s):∀(t:KasT α) (Q:α->az->Prop),KBd n QJ t->(QJ (uy lt t)->Q (uy lt t) s)->t.kasWp cmp Q s
|.ret _,_,hb,h=>h hb
|.ask i j k,Q,hb,h=>hc i j _ hb.1 hb.2.1<|Mx hc (k<|lt i j) Q (hb.2.2 _) h
theorem DB{α:Type}{QJ:α->Prop}(lt:Nat->Nat->Bool):∀(t:KasT α),KBd n QJ t->QJ (uy lt t)
|.ret _,h=>h
|.ask i j k,h=>DB lt (k<|lt i j)<|h.2.2<|lt i j
theorem KBd.bind{α β:Type}{QJ:α->Prop}{C:β->Prop}{f:α->KasT β}(hf:∀a,QJ a->KBd n C (f a)):∀(t:KasT α),KBd n QJ t->KBd n C (t.bind f)
|.ret a,h=>hf a h
|.ask i j k,h=>#[h.1,h.2.1,λb=>KBd.bind hf (k b)<|h.2.2 b]
def lM(n:Nat)(p:Array Nat):Prop:=0<n/\p.Perm (bW n).toArray
def lM.Ey(h:lM n p)(k:Nat):p.getD k 0<n:=by
 by_cases hk:k<p.size
 .have e:p.getD k 0=p[k]:=by simp[Su,hk]
  rw[e];have hm:=h.2.mem_iff.mp<|Array.getElem_mem hk;simpa using hm
 .have e:p.getD k 0=0:=by simp[Su,hk]
  rw[e];exact h.1
def lM.ab(h:lM n p)(i j:Nat):lM n (kas_rev p i j):=#[h.1,(mirror_perm p i j _).trans h.2]
def lM.ac(h:lM n p)(k d:Nat):lM n (bubble p k d):=#[h.1,(bubble_perm p k d).trans h.2]
theorem My(h:lM n p):∀(f m:Nat),KBd n (λ_=>True)<|kas_asc p f m
|0,_=>trivial
|f+1,m=>#[h.Ey _,h.Ey _,λb=>by
 cases b with
 |true=>exact trivial
 |false=>exact My h f<|m+1]
theorem DC:∀(f:Nat) (p:Array Nat) (m q:Nat),lM n p->KBd n (λr=>lM n r.1) (kas_desc f p m q)
|0,p,_,_,h=>h
|f+1,p,m,q,h=>#[h.Ey _,h.Ey _,λb=>by
 cases b with
 |true=>
  split
  .exact DC f _ _ _ (h.ab _ _)
  .exact DC f _ _ _ h
 |false=>
  refine#[h.Ey _,h.Ey _,λd=>?_];cases d with
  |true=>exact h
  |false=>exact DC f _ _ _ h]
def Mz(h:lM n p)(m nrem:Nat):KBd n (λr=>lM n r.2) (kas_tail3 m nrem p):=
 KBd.bind (C:=λ(r:Nat×Array Nat)=>lM n r.2) (f:=λa=>.ret (a,kas_rev p 0 m)) (λa _=>h.ab 0 m) _ (My (h.ab 0 m) _ _)
def Ez(h:lM n p)(m nrem:Nat):KBd n (λr=>lM n r.2) (kas_descPart m nrem p):=
 KBd.bind (λr hr=>by
  split
  .exact Mz (lM.ab hr _ _) _ _
  .exact Mz hr _ _) _ (DC _ _ _ _ h)
def hg2(h:lM n p)(nrem:Nat):KBd n (λr=>lM n r.2) (kas_count nrem p):=
 KBd.bind (λm _=>by
  split
  .exact h
  .split
   .refine#[h.Ey _,h.Ey _,λc=>?_];cases c with
    |true=>exact h
    |false=>exact Ez (h.ab _ _) _ _
   .exact Ez h _ _) _ (My h _ _)
theorem E_(h:lM n p)(k:Nat):∀(f l r:Nat),KBd n (λ_=>True)<|kas_place p k f l r
|0,_,_=>trivial
|f+1,l,r=>by
 show KBd n _ (if l≥r then _ else _);split
 .exact trivial
 .refine#[h.Ey _,h.Ey _,λc=>?_];cases c with
  |true=>exact E_ h k f _ _
  |false=>exact E_ h k f _ _
theorem To:∀(f:Nat) (p:Array Nat) (k:Nat),lM n p->KBd n (lM n) (kas_bin f p k)
|0,_,_,h=>h
|f+1,p,k,h=>KBd.bind (λl _=>To f _ _<|h.ac _ _) _<|E_ h k _ _ _
def uL(h:0<n):KBd n (lM n) (mE n):=
 KBd.bind (λr hr=>by
  split
  .exact To _ _ _ hr
  .exact hr) _ (hg2 #[h,aag _] _)
def p6(n:Nat)(lt:Nat->Nat->Bool):B Nat:=if n<2 then bW n else(uy lt<|mE n).toList
noncomputable def ltK:Key->Key->Bool
|.inl i,.inl j=>decide<|i<j
|.inr x,.inr y=>decide<|x.cps.toList<y.cps.toList
|_,_=>W
def l6:B Key->B Key->Bool
|p::ps,q::qs=>if p=q then l6 ps qs else ltK p q
|_,_=>W
noncomputable def kI:B Key->B Key->Bool
|[],[]=>L
|.inl _::ps,.inl _::qs=>kI ps qs
|.inr _::ps,.inr _::qs=>kI ps qs
|_,_=>W
def p8{α:Type}[K9 α](key:α->B Key)(xs:B α):B α:=(p6 (zl xs) λi j=>l6 (key<|xs.getD i default)<|key<|xs.getD j default).map λi=>xs.getD i default
section
variable{prog:bS}{w:bO}{A:cY}{E:B5->az->Prop}{s:az}{b:Bool}{Q:Bool->az->Prop}
theorem MA:∀{ks qs:B Key}{us ws:B B5} (i:Nat),bN (ks.map kV) us->bN (qs.map kV) ws->kI ks qs=L->Q (l6 ks qs) s->KatLex prog w A b W Q (us.zip ws) i s
|[],[],_,_,i,.nil,.nil,_,h=>h
|.inl x::ks,.inl y::qs,_,_,i,.cons hu ru,.cons hv rv,hs,h=>by
 let#[t,rfl]:=hu;let#[t',rfl]:=hv;refine kat_cons<|F7<|kat_go (λe=>?_) λe=>?_
 .have e:=gX.mp e;subst e;refine kat_yes<|MA (i+1) ru rv hs ?_;have:l6 (.inl x::ks) (.inl x::qs)=l6 ks qs:=aH rfl;rw[this]at h;exact h
 .have hn:x≠y:=by intro z;rw[z]at e;simp at e
  have:l6 (.inl x::ks) (.inl y::qs)=decide (x<y):=aG λz=>hn<|Sum.inl.inj z;rw[this]at h;refine kat_no ?_;cases hb:(b&&i==0)with
  |true=>exact oneLt_int h
  |false=>exact kat_one _ _<|lt_int h
|.inr x::ks,.inr y::qs,_,_,i,.cons hu ru,.cons hv rv,hs,h=>by
 let#[t,rfl]:=hu;let#[t',rfl]:=hv;refine kat_cons<|eqBool_str<|kat_go (λe=>?_) λe=>?_
 .have e:=gX.mp e;subst e;refine kat_yes<|MA (i+1) ru rv hs ?_;have:l6 (.inr x::ks) (.inr x::qs)=l6 ks qs:=aH rfl;rw[this]at h;exact h
 .have hn:x≠y:=by intro z;rw[z]at e;simp at e
  have:l6 (.inr x::ks) (.inr y::qs)=decide (x.cps.toList<y.cps.toList):=aG λz=>hn<|zK z;rw[this]at h;refine kat_no ?_;cases hb:(b&&i==0)with
  |true=>exact oneLt_str h
  |false=>exact kat_one _ _<|lt_str h
end
def o7(h:Heap)(v:B5)(ks:B Key):Prop:=∃(t:Addr) (o:Obj) (us:B B5) (k:Nat),v=.ref t/\h.get? t=M o/\o.cls=.type "tuple"/\o.data=.seq us.toArray k/\bN (ks.map kV) us
theorem ou{α β:Type}{R:α->β->Prop}{d:α}{e:β}:∀{xs:B α}{ys:B β},Paired R xs ys->∀i,i<zl xs->R (xs.getD i d) (ys.getD i e)
|_,_,.nil,i,h=>aI h<|lX i
|_,_,.cons r _,0,_=>r
|_,_,.cons _ t,i+1,h=>ou t i<|Nat.lt_of_succ_lt_succ h
def Ve{α:Type}{d:α}{xs:B α}{i:Nat}(h:i<zl xs):xs.getD i d∈xs:=by simp_all
theorem xy:∀{ks qs:B Key},kI ks qs=L->zl ks=zl qs
|[],[],_=>rfl
|.inl _::ks,.inl _::qs,h=>fY (·+1)<|xy h
|.inr _::ks,.inr _::qs,h=>fY (·+1)<|xy h
section
variable{prog:bS}{w:bO}{A:cY}{E:B5->az->Prop}{s:az}
def aaH{Q:Bool->az->Prop}(hv:o7 s.heap v ks)(hu:o7 s.heap u qs)(hs:kI ks qs=L)(h:Q (l6 ks qs) s):a_ (bf prog w) A (keyLt' (tuples' b) v u) Q E s:=by
 let#[t,o,us,n,rfl,h1,h2,h3,h4]:=hv;let#[t',o',us',n',rfl,k1,k2,k3,k4]:=hu;refine kat_lt h1 h3 k1 k3 ?_;have e:decide (us.toArray.size<us'.toArray.size)=W:=by
  have e1:=h4.length;have e2:=k4.length;rw[aa]at e1 e2;have:=xy hs;simp
  lia
 rw[e];exact MA 0 h4 k4 hs h
noncomputable def iD:B Key->B5
|.inl _::_=>.type "int"
|_=>.type "str"
def MkH(h:kI ks qs=L)(hn:ks≠[]):iD ks=iD qs:=by
 match ks,qs,h with
 |.inl _::_,.inl _::_,_=>rfl
 |.inr _::_,.inr _::_,_=>rfl
 |[],[],_=>rfl
theorem Gy:∀{vs:B B5}{kss:B<|B Key},Paired (o7 h) vs kss->(∀ks∈kss,ks≠[]/\iD ks=T)->∃fs:B B5,KatTups h vs fs/\zl fs=zl vs/\∀f∈fs,Looks R4 h (typeOf f) T
|_,_,.nil,_=>#[[],trivial,rfl,λ_ z=>by cases z]
|_,_,.cons (b:=ks) ⟨t,o,us,n,e,h1,h2,h3,h4⟩ r,hk=>by
 let#[fs,k1,k2,k3]:=Gy r λks hks=>hk ks<|aq _ hks;let#[hne,hT]:=hk ks aB;subst e;cases ks with
 |nil=>exact aI rfl hne
 |cons k ks=>
  cases h4 with
  |cons hu ru=>
   cases k with
   |inl i=>
    let#[tk,rfl]:=hu;refine#[.int i tk::fs,#[#[t,o,_,n,rfl,h1,h2,h3,by simp],k1],by simp[k2],λf hf=>?_];rcases aO.mp hf with rfl|hf
    .rw[<-hT];exact wj rfl
    .exact k3 f hf
   |inr x=>
    let#[tk,rfl]:=hu;refine#[.str x tk::fs,#[#[t,o,_,n,rfl,h1,h2,h3,by simp],k1],by simp[k2],λf hf=>?_];rcases aO.mp hf with rfl|hf
    .rw[<-hT];exact wj rfl
    .exact k3 f hf
def gI(vs:B B5)(lt:Nat->Nat->Bool):B B5:=(p6 (zl vs) lt).map λi=>vs.getD i fN
def JU(prog:bS)(w:bO)(A:cY)(vs:B B5)(lt:Nat->Nat->Bool)(h:Heap):Prop:=
 ∃κ,∀s:az,s.heap=h->(∀(E:B5->az->Prop) (Q:SortKind->az->Prop),Q κ s->a_ (bf prog w) A (keyKind' vs.toArray) Q E s)/\∀i j C,i<zl vs->j<zl vs->C (lt i j) s->QB prog w A κ vs i j C s
def wy(kss:B<|B Key)(i j:Nat):Bool:=l6 (kss.getD i [])<|kss.getD j []
def AB{h:Heap}{vs:B B5}{kss:B<|B Key}(ht:Paired (o7 h) vs kss)(h1:∀ks∈kss,ks≠[])(hs:∀ks∈kss,∀qs∈kss,kI ks qs=L)(h2:2<=zl vs):JU prog w A vs (wy kss) h:=by
 have hT2:∀ks:B Key,(iD ks==iD ks)=L:=by simp
 have hlen:=(Paired.length ht).symm;have hpos:0<zl kss:=by lia
 let#[fs,f1,f2,f3]:=Gy ht λks hks=>#[h1 ks hks,MkH (hs ks hks _<|Ve hpos)<|h1 ks hks];refine#[tuples'<|iD (kss.getD 0 []) != Value.type "tuple",λs e=>?_];subst e;exact#[λE Q q=>kat_kind f1 (by lia) f3 (hT2 _) q,λi j C hi hj hC=>aaH (ou ht i hi) (ou ht j hj) (hs _ (Ve<|by lia) _ (Ve<|by lia)) hC]
def us1(a b:Str):l6 [.inr a] [.inr b]=decide (a.cps.toList<b.cps.toList):=by
 by_cases e:a=b
 .subst e;have:l6 [dg a] [dg a]=W:=by unfold l6;rw[aH rfl];rfl
  rw[this,bM<|List.lt_irrefl _]
 .unfold l6;rw[aG λz=>e (by cases z;rfl)];rfl
def hip{ss:B Str}(hv:bN (ss.map V.e) vs)(h2:2<=vs.length):JU prog w A vs (wy<|ss.map λx=>[.inr x]) h:=by
 have hl:vs.length=ss.length:=by rw[<-hv.length,aa]
 have ha:∀i,i<vs.length->∃t,vs.getD i fN=.str (ss.getD i ⟨#[]⟩) t:=λi hi=>by
  have:=ou (d:=V.d) (e:=fN) hv i (by rw[aa,<-hl];exact hi);rw[aV,aJ,ai<|by lia]at this;rw[aV (l:=ss),ai<|by lia];exact this
 refine#[oneType',λs e=>#[λE Q q=>kas_kind h2 (λv hv'=>?_) (T:=.type "str") (by decide) (by decide) q,λi j C hi hj hC=>?_]]
 .let#[i,hi,rfl]:=eF hv';let#[t,e]:=ha i hi;rw[aV,ai hi]at e;have e:vs[i]=_:=e;rw[e];exact wj rfl
 .let#[t,e1]:=ha i hi;let#[u,e2]:=ha j hj;unfold QB;rw[e1,e2];refine kas_lt_str ?_;have:wy (ss.map λx=>[.inr x]) i j=l6 [.inr<|ss.getD i ⟨#[]⟩] [.inr<|ss.getD j ⟨#[]⟩]:=by
   unfold wy;simp only[aV,aJ,ai (show i<ss.length by lia),ai (show j<ss.length by lia)];rfl
  rw[this,us1]at hC;exact hC
def v1m(a b:J):l6 [.inl a] [.inl b]=decide (a<b):=by
 by_cases e:a=b
 .subst e;have:l6 [u_ a] [u_ a]=W:=by unfold l6;rw[aH rfl];rfl
  rw[this,bM<|Int.lt_irrefl _]
 .unfold l6;rw[aG λz=>e (by cases z;rfl)];rfl
def hj4{ss:B J}(hv:bN (ss.map V.b) vs)(h2:2<=vs.length):JU prog w A vs (wy<|ss.map λx=>[.inl x]) h:=by
 have hl:vs.length=ss.length:=by rw[<-hv.length,aa]
 have ha:∀i,i<vs.length->∃t,vs.getD i fN=.int (ss.getD i 0) t:=λi hi=>by
  have:=ou (d:=V.d) (e:=fN) hv i (by rw[aa,<-hl];exact hi);rw[aV,aJ,ai<|by lia]at this;rw[aV (l:=ss),ai<|by lia];exact this
 refine#[oneType',λs e=>#[λE Q q=>kas_kind h2 (λv hv'=>?_) (T:=.type "int") (by decide) (by decide) q,λi j C hi hj hC=>?_]]
 .let#[i,hi,rfl]:=eF hv';let#[t,e]:=ha i hi;rw[aV,ai hi]at e;have e:vs[i]=_:=e;rw[e];exact wj rfl
 .let#[t,e1]:=ha i hi;let#[u,e2]:=ha j hj;unfold QB;rw[e1,e2];rw[keyLt'_oneType];refine oneLt_int ?_;have:wy (ss.map λx=>[.inl x]) i j=l6 [.inl<|ss.getD i 0] [.inl<|ss.getD j 0]:=by
   unfold wy;simp only[aV,aJ,ai (show i<ss.length by lia),ai (show j<ss.length by lia)];rfl
  rw[this,v1m]at hC;exact hC
def BY{lt:Nat->Nat->Bool}{P:Dh->az->Prop}(ho:s.heap.get? a=M (cU "list" vs.toArray n))(hC:∀h',(∀b o,b≠a->s.heap.get? b=M o->h'.get? b=M o)->2<=zl vs->JU prog w A vs lt h')(h64:zl vs<64)(h:∀h' c,(∀b o,b≠a->s.heap.get? b=M o->h'.get? b=M o)->h'.get? a=M (cU "list" (gI vs lt).toArray c)->P (.done<|.ret .none) { s with heap:=h' }):a_ (bf prog w) A (Ae.«list.sort» #[[.ref a],[]]) P E s:=by
 have ha:=aQ ho;obtain⟨e1,UX⟩:∃e1,(s.heap.update a<|c8 λ_=>(#[]:Array B5)).get? a=M (cU "list" #[] e1):=#[_,oY ho λ_=>#[]];have hk1:∀b o,b≠a->s.heap.get? b=M o->(((s.heap.update a<|c8 λ_=>(#[]:Array B5)).push<|cU "tuple" vs.toArray 0).push<|cU "list" #[] 0).get? b=M o:=λb o hb e=>
  aA _ (aA _ (by rw[kY _ _ _ _ hb];exact e))
 have V6:(((s.heap.update a<|c8 λ_=>(#[]:Array B5)).push<|cU "tuple" vs.toArray 0).push<|cU "list" #[] 0).get? a=M (cU "list" #[] e1):=aA _<|aA _ UX;rw[list_sort_plain];refine ak<|Di ho rfl ?_;refine ak (n9 ho rfl ?_ (by rw[aS,cg];lia)<|cN _);refine ak<|zL UX rfl ?_;refine ak (JC ?_ (by show zl vs<=_;rw[cg];lia));refine ak<|rR ?_<|cN _;refine fH ?_;dsimp only;generalize hH:((s.heap.update a<|c8 λ_=>(#[]:Array B5)).push<|cU "tuple" vs.toArray 0).push (cU "list" #[] 0)=H3 at hk1 V6 ⊢;have fin:∀(st:SortSt),(Ik st).map (·.2)=(gI vs lt).toArray->A_ st=S->zl (gI vs lt)=zl vs->
   a_ (bf prog w) A (do
    let touched:=(<-seqEpoch a) != e1
    yt (.ref a) λ_=>(Ik st).map (·.2)
    if let M e:=A_ st then rule "list.sort.comparison-raised";throw e
    if touched then rule "list.sort.modified";raiseError "ValueError" "list modified during sort"
    ret .none) P E { s with heap:=H3 }:=by
  intro st har hf SR;obtain⟨c2,hc2⟩:∃c2,(H3.update a<|c8 λ_=>(gI vs lt).toArray).get? a=M (cU "list" (gI vs lt).toArray c2):=#[_,oY V6 λ_=>(gI vs lt).toArray];refine ak<|zL (s:={ s with heap:=H3 }) V6 rfl ?_;refine ak<|n9 (s:={ s with heap:=H3 }) V6 rfl ?_ (cN _) ?_
  .rw[hf,har];simp only[Ek,gg,iN];refine aN<|h _ c2 (λb o hb e=>?_) hc2;rw[kY _ _ _ _ hb];exact hk1 b o hb e
  .show((Ik st).map (·.2)).size<=_;rw[har,aS,SR,cg];lia
 by_cases h2:zl vs<2
 .have hn2:vs.toArray.size<2:=by rw[aS];exact h2
  rw[aH hn2,aH hn2];have eo:gI vs lt=vs:=by
   unfold gI p6;rw[aH h2];apply kT
   .simp
   .intro i a1 a2;simp[aV,ai a2]
  refine ak<|aN ?_;refine ak<|aN ?_;refine fin (SortSt.mk' _ _ _ _ _) ?_ rfl (by rw[eo]);rw[eo];show((vs.toArray.zip vs.toArray).map (·.2))=vs.toArray;apply Gg.mp;simp[Gh]
 .have hn2:¬vs.toArray.size<2:=by rw[aS];exact h2
  have h2':2<=zl vs:=by lia
  rw[aG hn2,aG hn2];have hP:lM (zl vs) (uy lt<|mE<|zl vs):=DB _ _ (uL<|by lia);have eo:gI vs lt=(uy lt<|mE<|zl vs).toList.map λi=>vs.getD i fN:=by
   unfold gI p6;rw[aG h2]
  have SR:zl (gI vs lt)=zl vs:=by
   rw[eo,aa,eB,hP.2.size_eq];simp
  let#[κ,Wm]:=hC H3 hk1 h2';let#[q1,q2]:=Wm { s with heap:=H3 } rfl;refine ak<|q1 _ _ ?_;refine ak (gW (kat_run (s:={ s with heap:=H3 }) (Q:=λst' s'=>s'={ s with heap:=H3 }/\(Ik st').map (·.2)=(gI vs lt).toArray/\A_ st'=S)
   (G:=λp s'=>p=uy lt (mE<|zl vs)/\s'={ s with heap:=H3 }) rfl h2' h64
   (λp st' s' _ har hf hg=>#[hg.2,by rw[kat_snds rfl har,hg.1,eo],hf])
   (Mx (QJ:=lM<|zl vs) (lt:=lt) (n:=zl vs) q2 _ _ (uL<|by lia) λ_=>#[rfl,rfl])) ?_ λ_ _ e=>e)
  rintro⟨⟨⟩,st'⟩ s' ⟨rfl,b1,b2⟩;exact fin st' b1 b2 SR
def JV{lt:Nat->Nat->Bool}{Q:B5->az->Prop}(hC:∀h',(∀b o,s.heap.get? b=M o->h'.get? b=M o)->2<=zl vs->JU prog w A.in1.in1 vs lt h')(h64:zl vs<64)(hc:∀R:B B5->az->Prop,(∀h1 tk,(∀b o,s.heap.get? b=M o->h1.get? b=M o)->s.heap.objs.size<=h1.objs.size->R vs { s with heap:=h1,toks:=tk })->a_ (bf prog w) A.in1 (D_<|.ref l) R (λ_ _=>bu) s)(h:∀h' a c tk,(∀b o,s.heap.get? b=M o->h'.get? b=M o)->s.heap.objs.size<=a->h'.get? a=M (cU "list" (gI vs lt).toArray c)->Q (.ref a) { s with heap:=h',toks:=tk }):a_ (bf prog w) A (call (.builtin "sorted") [.ref l]) Q E s:=by
 refine w5 E5 Dj Dk (Og _) ?_;refine ak<|aN ?_;refine ak<|gW (hc _ λg1 tk k1 hz=>?_) (λ_ _ x=>x) λ_ _ x=>x.elim
 .dsimp only;refine ak (rR ?_ (by rw[cg];lia));have SO:(g1.push<|cU "list" vs.toArray 0).get? g1.objs.size=M (cU "list" vs.toArray 0):=be _ rfl;have keep:∀b o,s.heap.get? b=M o->(g1.push<|cU "list" vs.toArray 0).get? b=M o:=λb o e=>aA _<|k1 b o e;refine ak<|fH<|nR Aq #[_,SO,rfl] za ?body<|JD _
  case body=>
   refine BY SO (λh' k'=>hC h' λb o e=>k' b o (bI<|bX (aQ e) hz)<|keep b o e) h64 λh' c k' e'=>?_;refine#[_,rfl,aN #[_,rfl,h h' _ c tk (λb o e=>k' b o ?_<|keep b o e) hz e']];have:=aQ e;exact bI<|bX this hz
def o7.keep'(x:o7 h v ks)(k:∀b o,h.get? b=M o->h'.get? b=M o):o7 h' v ks:=by
 let#[t,o,us,n,rfl,h1,h2]:=x;exact#[t,o,us,n,rfl,k t o h1,h2]
def OM{lt:Nat->Nat->Bool}{Q:B5->az->Prop}(hl:s.heap.IsList l vs.toArray)(hC:∀h',(∀b o,s.heap.get? b=M o->h'.get? b=M o)->2<=zl vs->JU prog w A.in1.in1 vs lt h')(h64:zl vs<64)(h:∀h' a c tk,(∀b o,s.heap.get? b=M o->h'.get? b=M o)->s.heap.objs.size<=a->h'.get? a=M (cU "list" (gI vs lt).toArray c)->Q (.ref a) { s with heap:=h',toks:=tk }):a_ (bf prog w) A (call (.builtin "sorted") [.ref l]) Q E s:=by
 refine JV hC h64 (λR hR=>collect_list hl (hR _ s.toks (λb o e=>?_) ?_) (by rw[cg];lia)) h
 .rw[kY _ _ _ _<|bI<|aQ e];exact aA _ e
 .simp
end
def rT(h:Heap)(d:Addr)(es:Array vN)(ep:Nat):Prop:=∃ob,h.get? d=M ob/\ob.ExactDict/\ob.data=.dict es ep
def rT.keep(x:rT h d es ep)(k:∀ob,h.get? d=M ob->h'.get? d=M ob):rT h' d es ep:=let⟨ob,e,r⟩:=x;#[ob,k ob e,r]
def rT.ty{s:az}(x:rT s.heap d es ep):s.TypeIs (.ref d) "dict":=let⟨ob,e,r,_⟩:=x;#[ob,e,r.1]
section
variable{prog:bS}{w:bO}{A:cY}{E:B5->az->Prop}{s:az}{d it:Addr}{es:Array vN}{ep i:Nat}
def MB{Q:B5->az->Prop}(hS:(d==iI)=W)(x:rT s.heap d es ep)(q:Q (.ref s.heap.objs.size) { s with heap:=s.heap.push { cls:=.type "dict_keyiterator",data:=.fields (List.toArray [.ref d,.int 0 0,.int es.size 0,.int ep 0]) } }):a_ (bf prog w) A (xZ<|.ref d) Q E s:=by
 have ty:=x.ty;let#[ob,e,ex,ed]:=x;refine wpAny_pyIter_slot ty F.slot_dict_iter<|nR F.slot_dict_iter ty F.entry_dict_iter ?go<|F.args_dict_iter_1 _
 case go=>
  unfold Ae.«dict.__iter__» L1 H'';refine ak<|ak<|sQ ty<|aN ?_;refine ak<|aN ?_;rw[hS];simp only[gg,iN];refine ak<|aN<|ak<|wH e ed<|ak<|zb e ed ?_;refine ak<|jm<|aN #[.ref s.heap.objs.size,rfl,"dict_keyiterator",_,#[_,be _ rfl,rfl],F.slot_dict_keyiterator_next.lookup,?_];simpa only[Ah]using q
def MC{Q:LD B5->az->Prop}(st:s.heap.IsKeyIter it d i es.size ep)(x:rT s.heap d es ep)(hi:i<es.size)(q:∀h',h'.IsKeyIter it d (i+1) es.size ep->jP it s.heap h'->Q (M es[i].key) { s with heap:=h' }):a_ (bf prog w) A (Al<|.ref it) Q E s:=by
 have ty:=st.typeIs;let#[σ8,ei,ci,di]:=id st;let#[ob,e,ex,ed]:=x;have next:(s.heap.update it (Obj.mapFields (·.setIfInBounds 1 (Ah<|(i:J)+1)))).IsKeyIter it d (i+1) es.size ep:=by
  refine#[_,sU _ ei<|Obj.isFreed_of_fields<|Dl di _,?_,?_]
  .rw[Obj.cls_mapFields];exact ci
  .rw[Dl di];simp[Ah]
 refine ak<|BE<|yu ty F.slot_dict_keyiterator_next<|nR F.slot_dict_keyiterator_next ty F.entry_dict_keyiterator_next ?go<|F.args_dict_keyiterator_next_1 _
 case go=>
  refine ak<|aN<|ak<|ak ?_;refine ak<|jq ty<|aN<|ak<|JE ei di ?_;have own:vd "dict_keyiterator"=W:=by decide
  rw[own];rw[aG<|by lia];refine ak<|aN<|ak<|wH e ed ?_;rw[aG<|by simp];refine ak<|aN<|ak<|zb e ed ?_;rw[aG<|by simp];refine aN ?_;have nn:¬((i:J)<0):=by lia
  simp only[nn,iN,eN,kj hi];refine ak ?_;refine ak<|jq ty<|aN<|ak<|Ar ty ?_;show a_ (bf prog w) A.in1 (setField (.ref it) 1 (Ah<|(i:J)+1) >>= _) _ _ s;refine ak (JF ei di (by simp)<|ak<|fH ?_);refine ak<|Ar next.typeIs ?_;exact aN<|aN #[_,rfl,aN<|q _ next<|kZ ..]
def Pr{Q:LD B5->az->Prop}(hh:A.handled=S)(st:s.heap.IsKeyIter it d es.size es.size ep)(x:rT s.heap d es ep)(q:∀h',Heap.ExtBut it s.heap h'->Q S { s with heap:=h' }):a_ (bf prog w) A (Al<|.ref it) Q E s:=by
 have ty:=st.typeIs;let#[σ8,ei,ci,di]:=id st;let#[ob,e,ex,ed]:=x;refine ak<|BE<|yu ty F.slot_dict_keyiterator_next<|nR F.slot_dict_keyiterator_next ty F.entry_dict_keyiterator_next ?go<|F.args_dict_keyiterator_next_1 _
 case go=>
  refine ak<|aN<|ak<|ak ?_;refine ak<|jq ty<|aN<|ak<|JE ei di ?_;have own:vd "dict_keyiterator"=W:=by decide
  rw[own];rw[aG<|by simp];refine ak<|aN<|ak<|wH e ed ?_;rw[aG<|by simp];refine ak<|aN<|ak<|zb e ed ?_;rw[aG<|by simp];refine aN ?_;have nn:¬((es.size:J)<0):=by lia
  simp only[nn,iN,eN,rm<|aM es.size];refine ak ?_;refine ak<|jq ty<|aN ?_;show a_ (bf prog w) A.in1 (setField (.ref it) 0 .none >>= _) _ _ s;refine ak (JF ei di (by simp)<|ak ?_);refine ak (jm (ak (Pb (by rfl) (jm ?_<|by size_fits)))<|by size_fits);refine ak<|wpAny_handled ?_;rw[show A.in1.handled=S from hh];refine ak<|aN<|wpAny_throw ?_;refine ak<|Gi #[_,be _ rfl,rfl] isSubtype_stop<|aN ?_;exact q _<|((kZ ..).extBut.push _).push _
def aef(hh:A.handled=S)(it d:Addr)(hne:d≠it)(es:Array vN)(ep:Nat):Walks prog w A it [it,d] [it] es.size (λi v=>∃u,es[i]?=M u/\v=u.key) (λi h=>h.IsKeyIter it d i es.size ep/\rT h d es ep) where
 sub:=by simp
 frame:=λi h h' ⟨st,x⟩ k=>#[let⟨o,e,r⟩:=st;#[o,k it (by simp) o e,r],x.keep λo e=>k d (by simp) o e]
 item:=λi s Q E hi ⟨st,x⟩ q=>MC st x hi λh' st' sb=>q _ h' s.toks #[_,kj hi,rfl] #[st',x.keep λo e=>by rw[sb.2 d hne];exact e] λb o hb e=>by
  rw[sb.2 b<|by simpa using hb];exact e
 done:=λs Q E ⟨st,x⟩ q=>Pr hh st x λh' eb=>q h' s.toks λb o hb e=>eb b o (by simpa using hb) e
 self:=λi s Q E ⟨st,_⟩ q=>Ba st q
def aaI{prog:bS}(hS:(d==iI)=W):KdlSrc prog w "dict" d d es.size (λi v=>∃u,es[i]?=M u/\v=u.key) (λh=>rT h d es ep) where
 type:=λ_ x=>x.ty
 there:=λ_ qq=>by let#[_,e,_]:=qq;exact#[aQ e,aQ e]
 keep:=λ_ _ x k=>x.keep λo e=>k d (.inl rfl) o e
 notList:=by decide
 notTuple:=by decide
 hint:=λ_ _ _ _ x q=>kdl_hint_dict x.ty q
 iter:=λA s hh x=>#[_,_,λ_ _ q=>MB hS x q,aef hh _ d (let⟨_,e,_⟩:=x;bI (aQ e)) es ep,#[_,be _ rfl,rfl,rfl],x.keep λo e=>aA _ e]
end
section
def jX(H:Hp):B (B Key)->B Addr->Prop:=Paired λk t=>H t=M (.b<|k.map kV)
def ID{P:bS}{w:bO}{H:Hp}{h:Heap}{t:Addr}{k:B Key}(ok:gM P w H h)(e:H t=M (.b<|k.map kV)):o7 h (.ref t) k:=by
 let#[_,its,r,o,h1,h2,n,h3]:=(ok t _ e);exact#[t,o,its,n,rfl,h1,h2,h3,r]
theorem Fb(ok:gM P w H h):∀{kss:B<|B Key}{ts:B Addr},jX H kss ts->Paired (o7 h) (ts.map bU) kss
|_,_,.nil=>.nil
|_,_,.cons e r=>.cons (ID ok e)<|Fb ok r
theorem vv(ts:B Addr):∀idx:B Nat,(∀i∈idx,i<zl ts)->bN (idx.map λi=>V.a<|ts.getD i 0) (idx.map λi=>(ts.map bU).getD i fN)
|[],_=>.nil
|i::r,h=>by
 refine .cons ?_<|vv ts r λj hj=>h j<|aq _ hj;have hi:=h i aB;have e1:(ts.map bU).getD i fN=.ref (ts.getD i 0):=by
  rw[aV,aV,aJ,ai hi];rfl
 show acb (.a<|ts.getD i 0)<|(ts.map bU).getD i fN;rw[e1];exact rfl
def vz(n:Nat)(lt:Nat->Nat->Bool):∀i∈p6 n lt,i<n:=by
 unfold p6;split
 .intro i hi;exact fJ.mp hi
 .rename_i h;have hP:lM n (uy lt<|mE n):=DB _ _ (uL<|by omega);intro i hi;have:i∈(bW n).toArray:=hP.2.mem_iff.mp (by simpa using hi);simpa using this
def oA(n:Nat)(lt:Nat->Nat->Bool):zl (p6 n lt)=n:=by
 unfold p6;split
 .simp
 .rename_i h;have hP:lM n (uy lt<|mE n):=DB _ _ (uL<|by omega);rw[eB,hP.2.size_eq];simp
def dX(kss:B<|B Key):B Nat:=p6 (zl kss)<|wy kss
def abb(kss:B<|B Key):Bool:=decide (zl kss<64)&&kss.all λk=>!k.isEmpty&&kss.all λq=>kI k q
def oB(h:abb kss=L):zl kss<64/\(∀k∈kss,k≠[])/\∀k∈kss,∀q∈kss,kI k q=L:=by
 unfold abb at h;rw[cG]at h;have h2:=bC.mp h.2;refine#[aC h.1,λk hk=>?_,λk hk q hq=>?_]
 .grind
 .have:=h2 k hk;rw[cG]at this;exact bC.mp this.2 q hq
def MD(H:Hp)(us:B V)(kss:B<|B Key):Prop:=(∃ts,us=ts.map V.a/\jX H kss ts)\/(∃ss:B Str,us=ss.map V.e/\kss=ss.map λx=>[.inr x])\/∃ns:B J,us=ns.map V.b/\kss=ns.map λx=>[.inl x]
variable{X:Cx}
def MtM(I:Inv X pins O H s)(ht:jX H kss ts)(hk:abb kss=L)(hc:∀R:B B5->az->Prop,(∀h1 tk,(∀b o,s.heap.get? b=M o->h1.get? b=M o)->s.heap.objs.size<=h1.objs.size->R (ts.map bU) { s with heap:=h1,toks:=tk })->a_ (bf X.prog X.w) X.A.in1 (D_<|.ref l) R (λ_ _=>bu) s)(q:∀p,H p=S->Q (.a p) (upd H p<|.a<|(dX kss).map λi=>.a<|ts.getD i 0)):a_ (bf X.prog X.w) X.A (call (.builtin "sorted") [.ref l]) (EP X pins O Q) X.xe s:=by
 let#[k1,k2,k3]:=oB hk;have hl:=(Paired.length ht).symm;refine JV (λh' k h2=>AB (Paired.imp' (λv ks x=>o7.keep' x k)<|Fb I.ab ht) k2 k3 h2) (by grind) hc λh' a c tk keep hle e=>?_;have eo:gI (ts.map bU) (wy kss)=(dX kss).map λi=>(ts.map bU).getD i fN:=by
  unfold gI dX;rw[aa,hl]
 have lt:∀i∈dX kss,i<zl ts:=λi hi=>by rw[hl];exact vz _ _ i hi
 refine#[.a a,_,I.ad (o:=.a<|(dX kss).map λi=>.a<|ts.getD i 0) keep hle #[?_,_,c,vv ts _ lt,?_],rfl,q _<|I.ab.fresh hle]
 .rw[aa];unfold dX;rw[oA,cg];lia
 .rw[<-eo];exact e
theorem IE:∀{kvs:B<|B Key×V}{xs:B<|B Key×Addr×B5},Paired (λ(p:B Key×V) (q:B Key×Addr×B5)=>p.1=q.1/\H q.2.1=M (.b<|p.1.map kV)/\acb p.2 q.2.2) kvs xs->jX H (kvs.map (·.1)) (xs.map λx=>x.2.1)
|_,_,.nil=>.nil
|_,_,.cons e r=>.cons e.2.1<|IE r
def ON{E:B5->az->Prop}{R:B B5->az->Prop}(hS:(d==iI)=W)(hh:A.handled=S)(x:rT s.heap d es ep)(hn:es.size<=aj)(q:∀h' tk acc,(∀b o,s.heap.get? b=M o->h'.get? b=M o)->s.heap.objs.size<=h'.objs.size->sW (λi v=>∃u,es[i]?=M u/\v=u.key) acc es.size->R acc.toList { s with heap:=h',toks:=tk }):a_ (bf prog w) A (D_<|.ref d) R E s:=by
 have hd:=let⟨_,e,_⟩:=x;aQ e
 have new:(s.heap.push { cls:=.type "list",data:=.seq #[] }).get? s.heap.objs.size=M { cls:=.type "list",data:=.seq #[] }:=be _ rfl;refine ak<|JG<|iz Bb ?_;rw[fM vO _];refine(ak<|jm<|aN #[jW lE _,iz Gj ?_]);rw[fM lE _];have run:=kdl_extend (prog:=prog) (w:=w) (s:={ s with heap:=s.heap.push { cls:=.type "list",data:=.seq #[] } })
  (R:=λz s'=>∃h' tk acc c,z=.ok (.ret<|.ref s.heap.objs.size)/\s'={ s with heap:=h',toks:=tk }/\(∀b o,s.heap.get? b=M o->h'.get? b=M o)/\h'.get? s.heap.objs.size=M { cls:=.type "list",dict:=S,data:=.seq acc c,slots:=#[] }/\sW (λi v=>∃u,es[i]?=M u/\v=u.key) acc es.size)
  (aaI hS) hh (x.keep λo e=>aA _ e) s.heap.objs.size (jc hd) (jc hd) (.ref s.heap.objs.size) 0 new
  (λh' tk acc c k e it=>#[h',tk,acc,c,rfl,rfl,λb o eb=>k b o (bI<|aQ eb)<|aA _ eb,e,it]) hn
 have fin:∀(h':Heap) (tk:Nat) (acc:Array B5) (c:Nat),(∀b o,s.heap.get? b=M o->h'.get? b=M o)->h'.get? s.heap.objs.size=M { cls:=.type "list",dict:=S,data:=.seq acc c,slots:=#[] }->sW (λi v=>∃u,es[i]?=M u/\v=u.key) acc es.size->R acc.toList { s with heap:=h',toks:=tk }:=λh' tk acc c k e it=>q h' tk acc k (fO<|aQ e) it;refine gW run (λfl s' z=>?_) λ_ _ z=>?_
 .cases fl with
  |done f=>
   let#[h',tk,acc,c,ef,rfl,k,e,it]:=z;cases ef;exact ak<|wZ e<|aN<|fin h' tk acc c k e it
  |again g=>
   refine#[z.1,kQ z.2 λr s2 y=>?_];let#[h',tk,acc,c,rfl,rfl,k,e,it]:=y;exact ak<|wZ e<|aN<|fin h' tk acc c k e it
 .let#[_,_,_,_,ez,_]:=z;cases ez
def ME(hc:X.ac=L):mG X (.builtin "sorted") (λvs H Q=>∃a kvs,vs=[.a a]/\Rd H a (.c kvs)/\abb (kvs.map (·.1))=L /\
  ∀(ts:B Addr),jX H (kvs.map (·.1)) ts->∀p,H p=S->Q (.a p) (upd H p (.a ((dX (kvs.map (·.1))).map λi=>.a<|ts.getD i 0)))):=by
 intro pins s O H vs us Q I r h;let#[a,kvs,rfl,hd,hk,q]:=h;let#[u,rfl,ru]:=Rh r;cases ru;let#[hz,hS,xs,rx,o,es,ep,h1,h2,h3,h4,h5]:=(QU I.ab hd);have hts:=IE rx;have hlen:=(Paired.length rx).symm;have hsz:es.size=zl xs:=by rw[<-eB,h4,aa]
 refine MtM I hts hk (λR hR=>?_)<|q _ hts;refine ON hS (I.ok.hd hc) (#[o,h1,h2,h3]:rT s.heap a es ep) (by lia) λh' tk acc keep hle it=>?_;have ea:acc.toList=(xs.map λx=>x.2.1).map bU:=by
  apply kT
  .rw[eB,it.1,hsz,aa,aa]
  .intro i a1 a2;have hi:i<acc.size:=by rw[<-eB];exact a1
   let#[u,e1,e2]:=it.2 i acc[i]<|kj hi;have e3:es[i]?=(xs.map<|Sj<|fB<|fy X.prog X.w)[i]?:=by rw[<-h4,iQ]
   have hx:i<zl xs:=by rw[<-hsz,<-it.1];exact hi
   rw[e3,aJ,ai hx]at e1;cases e1;rw[Array.getElem_toList,e2,dP,dP];rfl
 rw[ea];exact hR h' tk keep hle
theorem BZ(h:bN us vs):∀idx:B Nat,(∀i∈idx,i<zl us)->bN (idx.map λi=>us.getD i .d) (idx.map λi=>vs.getD i fN)
|[],_=>.nil
|i::r,hi=>.cons (ou h i<|hi i aB)<|BZ h r λj hj=>hi j<|aq _ hj
theorem MF:∀{ts:B Addr}{vs:B B5},bN (ts.map V.a) vs->vs=ts.map bU
|[],_,.nil=>rfl
|_::_,_,.cons h r=>by cases h;rw[MF r];rfl
def MG:mG X (.builtin "sorted") (λvs H Q=>∃a us kss,vs=[.a a]/\Rd H a (.a us)/\MD H us kss/\abb kss=L/\∀p,H p=S->Q (.a p) (upd H p<|.a<|(dX kss).map λi=>us.getD i .d)):=by
 intro pins s O H vs us Q I r h;let#[a,xs,kss,rfl,hd,hk,hs,q]:=h;let#[u,rfl,ru]:=Rh r;cases ru;let#[its,r1,p1,_]:=I.list (.inl hd:jo X.K H a xs);let#[k1,k2,k3]:=oB hs;have hl:its.length=kss.length:=by
  rw[<-r1.length];rcases hk with⟨ts,rfl,ht⟩|⟨ss,rfl,rfl⟩|⟨ss,rfl,rfl⟩
  .rw[aa];exact(Paired.length ht).symm
  .simp
  .simp
 refine OM (lt:=wy kss) p1.isList (λh' k h2=>?_) (by lia) λh' b c tk keep hle e=>?_
 .rcases hk with⟨ts,rfl,ht⟩|⟨ss,rfl,rfl⟩|⟨ss,rfl,rfl⟩
  .have e:=MF r1;subst e;exact AB (Paired.imp' (λv ks x=>o7.keep' x k)<|Fb I.ab ht) k2 k3 h2
  .exact hip r1 h2
  .exact hj4 r1 h2
 .have lt:∀i∈dX kss,i<xs.length:=λi hi=>by rw[r1.length,hl];exact vz _ _ i hi
  refine#[.a b,_,I.ad (o:=.a<|(dX kss).map λi=>xs.getD i .d) keep hle #[?_,_,c,BZ r1 _ lt,?_],rfl,q _<|I.ab.fresh hle]
  .rw[aa];unfold dX;rw[oA,cg];lia
  .have eo:gI its (wy kss)=(dX kss).map λi=>its.getD i fN:=by
    unfold gI dX;rw[hl]
   rw[<-eo];exact e
end
end L2
end
section
namespace PySem
section
variable{prog:bS}{w:bO}{K:Type} [fE K] {knd:KeyKind prog w K}{A:cY}{s:az}{R:C1->az->Prop}
def B0(knd:KeyKind prog w K)(h:Heap)(items:Array B5)(ps:B<|B K×Addr×B5):Prop:=
 items.size=zl ps/\∀(i:Nat) (k:B K) (b:Addr) (v:B5),ps[i]?=M (k,b,v)->∃t,items[i]?=M (.ref t)/\h.IsTuple t (List.toArray [.ref b,v])/\nS knd h k b
def B0.keep(x:B0 knd h items ps)(hk:∀t xs,h.IsTuple t xs->h'.IsTuple t xs)(hb:∀k b,nS knd h k b->nS knd h' k b):B0 knd h' items ps:=
 #[x.1,λi k b v e=>let⟨t,h1,h2,h3⟩:=x.2 i k b v e;#[t,h1,hk t _ h2,hb k b h3]]
def DE(x:nS knd h k b)(hb:∀o,h.get? b=M o->h'.get? b=M o):nS knd h' k b:=
 let⟨o,its,n,e,r⟩:=x;#[o,its,n,hb o e,r]
def yC{h h':Heap}(x:h.DictOfH (fB knd) d xs)(hd:∀o,h.get? d=M o->h'.get? d=M o)(hk:∀b o,h.get? b=M o->o.cls=.type "tuple"->h'.get? b=M o):h'.DictOfH (fB knd) d xs:=by
 let#[o,es,ep,e,r1,r2,r3,r4,r5]:=x;refine#[o,es,ep,hd o e,r1,r2,r3,λy hy=>?_,r5];let#[o',its,n,e',c',r]:=r4 y hy;exact#[o',its,n,hk _ o' e' c',c',r]
def zo{h:Heap}(e:h.get? b=M o)(c:o.cls=.type "tuple")(a:h.IsListIter it l i):b≠it:=by
 rintro rfl;let#[o',h3,h4,_]:=a;rw[e]at h3;cases h3;rw[c]at h4;exact aI h4<|by decide
def EA{h:Heap}(x:nS knd h k b)(a:h.IsListIter it l i):b≠it:=
 let⟨_,_,_,e,c,_⟩:=x;zo e c a
def yD{h:Heap}(e:h.get? b=M o)(x:h.DictOfH (fB knd) d xs)(hc:(o.cls==Value.type "dict")=W):b≠d:=by
 rintro rfl;let#[o',es,ep,h3,hx,_]:=x;rw[e]at h3;cases h3;rw[hx.1]at hc;exact aI hc<|by decide
def MH(x:nS knd h k b)(y:h.DictOfH (fB knd) d xs):b≠d:=
 let⟨_,_,_,e,c,_⟩:=x;yD e y (by rw[c];decide)
def IF{h:Heap}(a:h.IsTuple t us)(y:h.DictOfH (fB knd) d xs):t≠d:=
 let⟨_,e,c,_⟩:=a;yD e y (by rw[c];decide)
def Lh{h:Heap}(a:h.IsList t us)(y:h.DictOfH (fB knd) d xs):t≠d:=
 let⟨_,e,c,_⟩:=a;yD e y (by rw[c];decide)
def vV{h:Heap}(a:h.IsListIter it l i)(y:h.DictOfH (fB knd) d xs):it≠d:=
 let⟨_,e,c,_⟩:=a;yD e y (by rw[c];decide)
def OO(xs:B<|B K×Addr×B5)(k:B K)(a:Addr)(v:B5):zl (sV xs k a v)<=zl xs+1:=by
 unfold sV;split
 .simp
 .simp
noncomputable def wN(acc:B<|B K×Addr×B5)(ps:B<|B K×Addr×B5):B (B K×Addr×B5):=ps.foldl (λa p=>sV a p.1 p.2.1 p.2.2) acc
def Ed{it l d:Addr}(hh:A.in1.handled=S)(hu:A.in1.units<d_)(res:B5)(hsz:zl ps<=aj):∀(k i:Nat) (s:az) (acc:B<|B K×Addr×B5),zl ps-i=k->i<=zl ps->zl acc<=i->s.heap.IsListIter it l i->s.heap.IsList l items->B0 knd s.heap items ps->s.heap.DictOfH (fB knd) d acc->
  (∀(h':Heap) (tk:Nat),s.toks<=tk->h'.DictOfH (fB knd) d (wN acc<|ps.drop i)->(∀b o,b≠d->b≠it->s.heap.get? b=M o->h'.get? b=M o)->R (.ok<|.ret res) { s with heap:=h',toks:=tk })->
  lK (bf prog w) A (.builtin "dict.update.loop" #[[.ref d,.ref it,Ah (i:J),res],[]]) R s:=by
 intro k;induction k with
 |zero=>
  intro i s acc hk hi hacc hit hl hp hd hR;have hin:i=zl ps:=by lia
  subst hin;refine iz F.rD ?_;rw[fM F.jn _];refine ak (sP hh hit hl (by rw[rm];rw[hp.1];exact aM _) λh' hs=>?_);have:=hR h' s.toks (aM _) (by
   rw[FZ];exact yC hd (λo e=>hs d o (vV hit hd).symm e) λb o e c=>hs b o (zo e c hit) e) λb o _ hb e=>hs b o hb e
  exact ak<|aN<|aN this
 |succ k ih=>
  intro i s acc hk hi hacc hit hl hp hd hR;have hlt:i<zl ps:=by omega
  let#[t,e1,ht,hkey]:=hp.2 i ps[i].1 ps[i].2.1 ps[i].2.2<|ai hlt;refine iz F.rD ?_;rw[fM F.jn _];refine ak<|rq hit hl e1 λh' UW hs=>?_;have ht':=IsTuple.sameBut ht hs<|rE ht hit;have hl':=IsList.sameBut hl hs<|BQ hl hit;have hd':=yC hd (λo e=>(hs.2 d (vV hit hd).symm).trans e) λb o e c=>(hs.2 b<|zo e c hit).trans e;have spI:=DE hkey λo e=>(hs.2 _<|EA hkey hit).trans e;have Sl:=hp.keep (λt xs a=>IsTuple.sameBut a hs<|rE a hit) λk b x=>DE x λo e=>(hs.2 _<|EA x hit).trans e;refine ak<|fH ?_;refine ak<|Jz ?_;let#[o,ho,hc,n,hdat]:=ht';refine ak<|pV #[o,ho,hc] ?_;rw[aH<|by decide];refine ak<|Ai ho hdat<|aN ?_;refine fH ?_;refine wpAny_dictSet_heap hu spI hd' λh2 hd2 hs2=>?_;have Wc:=IsListIter.sameBut UW hs2<|vV UW hd';have hl2:=IsList.sameBut hl' hs2<|Lh hl' hd';have hp2:=Sl.keep (λt xs a=>IsTuple.sameBut a hs2<|IF a hd') λk b x=>DE x λo e=>(hs2.2 _<|MH x hd').trans e;have hlen:zl (sV acc ps[i].1 ps[i].2.1 ps[i].2.2)<=i+1:=by
   have:=OO acc ps[i].1 ps[i].2.1 ps[i].2.2
   lia
  have q:=ih (i+1) { s with heap:=h2,toks:=s.toks+(fB knd).draws ps[i].1 } (sV acc ps[i].1 ps[i].2.1 ps[i].2.2) (by lia) hlt hlen Wc hl2 hp2 hd2 (λh3 tk htk WZ RT=>by
   refine hR h3 tk (cu (kU _ _) htk) ?_ ?_
   .rw[iT hlt];exact WZ
   .intro b o hb1 hb2 e;exact RT b o hb1 hb2<|(hs2.2 b hb1).trans<|(hs.2 b hb2).trans e)
  exact aN #[jW F.jn _,q]
end
section
variable{prog:bS}{w:bO}{K:Type} [fE K] {knd:KeyKind prog w K}{A:cY}{E:B5->az->Prop}{s:az}
def Fc{l:Addr}{Q:B5->az->Prop}(hA:A.handled=S)(hu:A.in1.in1.units<d_)(ho:s.heap.get? l=M o)(hc:o.cls=.type "list")(hdat:o.data=.seq items n)(hno:o.dict=S)(hp:B0 knd s.heap items ps)(hsz:zl ps<=aj)(h:∀(h':Heap) (tk:Nat),h'.DictOfH (fB knd) s.heap.objs.size (wN [] ps)->(∀b o,s.heap.get? b=M o->h'.get? b=M o)->Q (.ref s.heap.objs.size) { s with heap:=h',toks:=tk }):a_ (bf prog w) A (call (.type "dict") [.ref l]) Q E s:=by
 refine u9 (Q₁:=λmade st=>made=.ref s.heap.objs.size/\st={ s with heap:=s.heap.push { cls:=.type "dict",data:=.dict #[] } }) F.kt_called_dict (F.kt_typeCall_dict_1 _) F.entry_dict_init (F6 _ #[rfl,rfl]) ?_;rintro made st ⟨rfl,rfl⟩;have void:(s.heap.push { cls:=.type "dict",data:=.dict #[] }).DictOfH (fB knd) s.heap.objs.size []:=rd' s.heap;have hl1:(s.heap.push { cls:=.type "dict",data:=.dict #[] }).get? l=M o:=aA _ ho;have hT1:({ s with heap:=s.heap.push { cls:=.type "dict",data:=.dict #[] } }:az).TypeIs (.ref l) "list":=#[o,hl1,hc];refine#[void.typeIs,F.args_dict_init_2 _ _,?_]
 delta Ae.«dict.__init__»;refine ak ?_;delta xX
 refine ak<|sQ void.typeIs ?_;change a_ _ _ (pure (s.heap.objs.size,[bU l])) _ _ _;refine aN ?_;show a_ _ _ (lC "dict.__init__" s.heap.objs.size (.ref l) [] .none) _ _ _
 delta lC
 refine ak<|pV hT1 ?_;rw[aH<|by decide];have US:A.in1.in1.handled=S:=hA;refine ak<|BR hl1 hc hdat hno US λh2 ltK2 hk2=>?_;show a_ _ _ (rule _ >>= _) _ _ _;refine ak<|H_ ?_;have hl2:h2.IsList l items:=#[o,hk2 _ _ hl1,hc,n,hdat];refine ak<|qK hl2 ?_;have hk1:∀b o,s.heap.get? b=M o->h2.get? b=M o:=λb o e=>hk2 b o<|aA _ e;have RT:∀b o,h2.get? b=M o->(h2.push { cls:=.type "list_iterator",data:=.fields (List.toArray [.ref l,.int 0 0]) }).get? b=M o:=λb o e=>aA _ e;have hd2:h2.DictOfH (fB knd) s.heap.objs.size []:=yC void (λo e=>hk2 _ o e) λb o e _=>hk2 b o e;refine aN #[jW F.jn _,Ed US hu .none hsz (zl ps) 0 _ [] rfl (cN _) (aM _)
  #[_,be _ rfl,rfl,rfl] (IsList.keep hl2 RT) (hp.keep (λt xs a=>IsTuple.keep (IsTuple.keep a hk1) RT) λk b x=>DE x λo e=>RT _ _<|hk1 _ _ e) (yC hd2 (λo e=>RT _ o e) λb o e _=>RT b o e) λh4 XM _ Wa Ti=>?_]
 refine#[rfl,h h4 XM Wa λb o e=>Ti b o ?_ ?_<|RT _ _<|hk1 _ _ e]
 .rintro rfl;exact aI (aQ e)<|cW _
 .rintro rfl;exact aI (aQ<|hk1 _ _ e)<|cW _
end
end PySem
end
section
namespace L2
open PySem PySem.W PySem.Calls PyProof.Rows
section
def QY(K:ao)(H:Hp):B V->B (B Key×V)->Prop:=Paired λx p=>∃t b,x=.a t/\ux K H t [.a b,p.2]/\H b=M (.b<|p.1.map kV)
def qO(kvs more:B<|B Key×V):B (B Key×V):=more.foldl (λa p=>QO a p.1 p.2) kvs
variable{X:Cx}
theorem Pu(I:Inv X pins O H s):∀{xs:B V}{ps:B<|B Key×V}{its:B B5},QY X.K H xs ps->bN xs its->
 ∃rs:B<|B Key×Addr×B5,KT H ps rs/\zl its=zl rs/\∀(i:Nat) (k:B Key) (b:Addr) (v:B5),rs[i]?=M (k,b,v)->∃t,its[i]?=M (.ref t)/\s.heap.IsTuple t (List.toArray [.ref b,v])/\nS (fy X.prog X.w) s.heap k b
|_,_,_,.nil,.nil=>#[[],.nil,rfl,λi k b v e=>by simp at e]
|_,_,_,.cons (b:=p) hp r,.cons hu ru=>by
 let#[rs,h1,h2,h3]:=Pu I r ru;let#[t,b,rfl,ht,hb]:=hp;cases hu;let#[jts,rj,tp,_]:=I.tuple ht;let#[uk,uv,rfl,rk,X8]:=TU rj;cases rk;refine#[(p.1,b,uv)::rs,.cons #[rfl,hb,X8] h1,by simp[h2],?_];intro i k b' v e;cases i with
 |zero=>
  simp at e;let#[rfl,rfl,rfl]:=e;exact#[t,rfl,tp,vq I.ab hb]
 |succ i=>exact h3 i k b' v<|by simpa using e
theorem Gz:∀{ps:B<|B Key×V}{rs:B<|B Key×Addr×B5}{kvs:B<|B Key×V}{xs:B<|B Key×Addr×B5},KT H ps rs->KT H kvs xs->KT H (qO kvs ps) (wN xs rs)
|_,_,_,_,.nil,x=>x
|_,_,kvs,xs,.cons (a:=p) (b:=r) h t,x=>by
 have e:sV xs r.1 r.2.1 r.2.2=sV xs p.1 r.2.1 r.2.2:=by rw[h.1]
 have q:=Gz t<|KT.put x p.1 h.2.1 h.2.2;rw[<-e]at q;exact q
theorem AD:∀(ps kvs:B<|B Key×V),zl (qO kvs ps)<=zl kvs+zl ps
|[],kvs=>aM _
|p::r,kvs=>by
 have h:=AD r<|QO kvs p.1 p.2;have h2:=zj kvs p.1 p.2;show(qO (QO kvs p.1 p.2) r).length<=_;rw[cX]
 lia
def IG(hc:X.ac=L)(hu:X.A.units+60<d_):mG X (.type "dict") (λvs H Q=>∃a xs ps,vs=[.a a]/\jo X.K H a xs/\QY X.K H xs ps/\∀p,H p=S->Q (.a p) (upd H p<|.c<|qO [] ps)):=by
 intro pins s O H vs us Q I r h;let#[a,xs,ps,rfl,hx,hp,q]:=h;let#[u,rfl,ru]:=Rh r;cases ru;let#[its,rv,#[o,n,e,hcl,hno,hdat],hz]:=I.list hx;let#[rs,kt,hl,hrs]:=Pu I hp rv;have hps:=(Paired.length hp).symm;have hlen:=(Paired.length kt).symm;refine Fc (I.ok.hd hc) (show X.A.units+1+1<d_ by lia) e (by first|exact hcl|exact hno) hdat (by first|exact hno|exact hcl) #[by simpa using hl,λi k b v z=>by
  let#[t,h1,h2,h3]:=hrs i k b v z;exact#[t,by simpa using h1,h2,h3]] (by lia) λh' tk hd hk=>?_
 let#[od,es,ep,d1,d2,d3,d4,_,d5]:=hd;have fresh:=I.ab.fresh<|aM _;refine#[.a s.heap.objs.size,_,I.ad (o:=.c<|qO [] ps) hk (aM _) #[?_,?_,wN [] rs,(Gz kt .nil).keeps λb ys eb=>?_,od,es,ep,d1,d2,d3,d4,d5],rfl,q _ fresh]
 .have:=AD ps [];rw[jT]at this
  lia
 .have:=I.aw;rw[dM];intro z;rw[z]at this;exact aI this<|cW _
 .rw[bg λz=>by rw[z,fresh]at eb;cases eb];exact eb
end
end L2
end
section
namespace L2
open PySem PySem.W PySem.Calls PyProof.Rows PySem.SeqAt
section
variable{prog:bS}{w:bO}{A:cY}{E:B5->az->Prop}{s:az}{l:Addr}{bs:B Bool}{its:B B5}{k:Bool}{Q:B5->az->Prop}
noncomputable def Zf(k:J):B5->Bool
|.int b _=>b==k
|_=>W
theorem Pw:∀{ns:B J}{its:B B5},bN (ns.map V.b) its->zl its=zl ns/\∀i,i<zl ns->∃t,its[i]?=M (.int (ns.getD i 0) t)
|[],_,.nil=>#[rfl,λi h=>aI h<|lX i]
|b::bs,_,.cons r q=>by
 let#[h1,h2]:=Pw q;let#[t,rfl]:=r;refine#[by simp[h1],λi hi=>?_];cases i with
 |zero=>exact#[t,rfl]
 |succ i=>simpa using h2 i<|by simpa using hi
noncomputable def ObT{ns:B J}{k:J}{tk:Tok}(hl:s.heap.IsList l its.toArray)(r:bN (ns.map V.b) its)(hz:zl ns<=aj)(hk:k∈ns)(h:Q (.int (ns.idxOf k:Nat) s.toks) { s with toks:=s.toks+1 }):a_ (bf prog w) A (call (.builtin "list.index") [.ref l,.int k tk]) Q E s:=by
 let#[h1,h2]:=Pw r;let#[#[cls,dd,data,sl],ho,hc,n,hd]:=id hl;simp only at hc hd;subst hc hd;have hj:ns.idxOf k<zl ns:=ye.mpr hk;have hs:=cg;have hat:∀i (hi:i<its.toArray.size),Zf k its.toArray[i]=(ns.getD i 0==k):=λi hi=>by
  have hi':i<zl ns:=by rw[aS,h1]at hi;exact hi
  let#[t,e]:=h2 i hi';rw[ai<|by omega]at e;have e:=cE e;simp only[List.getElem_toArray];rw[e];rfl
 refine nO OA #[_,ho,rfl] Oh (L4 _ _)
  (list_indexAt l _ n dd sl (.int k tk) (Zf k) (ns.idxOf k) (by rw[aS,h1];exact hj) (by lia) ?_ ?_) #[ho,λy hy=>?_,h]
 .rw[hat];have:=List.getElem_idxOf hj;rw[aV,ai hj];simp[this]
 .intro m hm hlt;have:=List.not_of_lt_findIdx (p:=(·==k)) (xs:=ns) (i:=m) hlt;rw[hat];have hm':m<zl ns:=kR hlt hj;rw[aV,ai hm'];simpa using this
 .have hy:y∈its:=by simpa using hy
  let#[i,hi,e]:=eF hy;let#[t,e2]:=h2 i (by lia);rw[ai hi,e]at e2;have e2:=cE e2;subst e2;exact EqAt.int_int _ t k tk
end
end L2
end
section
namespace L2
open PySem PySem.Spec PyProof.Rows
def Sz6(vs:Array B5):Prop:=vs.size=6/\vs[2]?=M .none
noncomputable def mU(P:bS)(w:bO):BW:=λ_ _ _ _ _ _=>bu
def Fe(X:Cx)(E:XK):B5->az->Prop:=λ_ _=>bu
section
variable{X:Cx}{E:XK}
def Px:vo (mU X.prog X.w) (X.s_<|Fe X E) E:=λ_ _ _ _ _ _ _ z=>z.elim
def Att(hst:X.stack=X.ab::X.outer)(hf:X.ab.frame=M X.ab.locals):yW (bf X.prog X.w) X.A X.ab (Fe X E):=λ_ _ z=>z.elim
end
def adl{P:bS}{w:bO}{K:ao}{mg:Str->LD B5}{base:Heap}{N:B Str}{qual:Str}{scope:fG}{f:Addr}{cd:B5}{A:cY}{outer:B Env}{s:az}{H:Hp}{E:XK}{v:B5}{s':az}(h:Fe (tw (mU P w) P w K mg base N qual scope f cd A outer s H E) E v s'):(tw (mU P w) P w K mg base N qual scope f cd A outer s H E).xe v s':=h.elim
def adm{P:bS}{w:bO}{K:ao}{mg:Str->LD B5}{base:Heap}{N:B Str}{qual:Str}{scope:fG}{f:Addr}{cd:B5}{A:cY}{outer:B Env}{s:az}{H:Hp}{E:XK}{body:B Stmt}{t:TS}(h:zP ((tw (mU P w) P w K mg base N qual scope f cd A outer s H E).s_<|Fe (tw (mU P w) P w K mg base N qual scope f cd A outer s H E) E) body t):zP (tw (mU P w) P w K mg base N qual scope f cd A outer s H E) body t:=
 λpins s1 O H1 D I hw=>gW (h pins s1 O H1 D (I.s_ _) hw) (λ_ _ q=>q.vn) λ_ _ q=>adl q
def exF(m:Bool)(e C:Addr)(od:LD Addr)(h:Heap):Prop:=∃oe vs,h.get? e=M oe/\oe.cls=.ref C/\oe.dict=od/\oe.data=.fields vs/\(Sz6 vs/\(m=L->vs[1]?=M .none))
noncomputable def W3(m:Bool)(e C:Addr)(od:LD Addr):HO:=.j<|exF m e C od
section
variable{X:Cx}{pins:B (Addr×Obj)}{O σ':St}{H:Hp}{s:az}
def Inv.bp(I:Inv X pins O H s)(f:tu X pins H b)(ok:fU X.prog X.w (upd H b o) s.heap b o):Inv X pins O (upd H b o) s:=by
 let#[f0,f1,f2,f3,f4,f5]:=f;have ne:∀c u,H c=M u->c≠b:=λc u q z=>by rw[z,f0]at q;cases q
 refine#[I.ok,I.os,I.bare,#[I.base.keep,I.base.slot,λc u q n x=>?_,I.base.there,λc xs q=>?_,λc u w q=>?_,λc ps q=>?_],I.loc,I.cell,?_,λx c q=>?_,λp hp=>?_,λa u q=>?_,I.len]
 .have hcb:c≠b:=λz=>by
   subst z;rcases f3 with z|z
   .exact x z
   .exact aI (bX (aQ q) z) (cW _)
  rw[bg hcb];exact I.base.free c u q n x
 .have z:=I.base.tups c xs q;rw[bg<|ne c _ z];exact z
 .have z:=I.base.aD c u w q;rw[bg<|ne c _ z];exact z
 .let#[more,z]:=I.base.tbls c ps q;exact#[more,by rw[bg<|ne c _ z];exact z]
 .rw[bg<|gi f1];exact I.free
 .rw[bg<|f4 x c q];exact I.freeC x c q
 .let#[h1,h2,h3]:=I.pin p hp;exact#[h1,by rw[bg<|f5 p hp];exact h2,h3]
 .by_cases z:a=b
  .subst z;rw[bZ]at q;cases q;exact ok
  .rw[bg z]at q;exact(I.ab a u q).ab (λ_ _ _ k=>k) (λc k=>by rw[bg<|ne c _ k];exact k) (λc xs k=>by rw[bg<|ne c _ k];exact k) λc o xs k=>by rw[bg<|ne c _ k];exact k
end
end L2
end
section
namespace L3
open PySem PySem.Spec L2
inductive Bf where
 |a|e|c|l|n|g|k|b|m|p|o|h|i|d|j
 deriving fE
noncomputable def Bf.name:Bf->Str
|.a=>"len"|.e=>"all"|.c=>"any"|.l=>"int"|.n=>"str"|.g=>"list"|.k=>"tuple"|.b=>"dict"|.m=>"sum"|.p=>"abs"|.o=>"bool"|.h=>"min"|.i=>"max"|.d=>"sorted"|.j=>"dict"
inductive Mt where
 |a|d|g|h|l|c|j|b|k|i|e|m|f
 deriving fE
noncomputable def Mt.name:Mt->Str
|.a=>"append"|.d=>"insert"|.g=>"startswith"|.h=>"split"|.l=>"count"|.c=>"index"|.j=>"join"|.b=>"get"|.k=>"items"|.i=>"pop"|.e=>"extend"|.m=>"clear"|.f=>"upper"
set_option genCtorIdx false
mutual
inductive CE where
|a (i:Nat)
|c (v:V)
|g (op:A8) (a b:CE)
|p (a:CE)
|y (a:CE)
|q (a:CE)
|k (a b:CE)
|n (a b:CE)
|r (c a b:CE)
|d (op:Ea) (a b:CE)
|s (o1 o2:Ea) (a b c:CE)
|e (g:Nat) (as:mV)
|h (f:Bf) (as:mV)
|l (m:Mt) (o:CE) (as:mV)
|b (a b:CE)
|m (a:CE) (lo hi:CO)
|i (as:mV)
|f (as:mV)
|z
|j (nl:B Str) (fr:B Nat) (elt:CE) (tg:CG) (src:CI) (cond:CO)
|o (g:Nat) (a:CE) (f:Str)
|t
|w (as:mV)
|x (g:Nat) (fr:B Nat) (n body:CE)
|u (a:CE)
|v (a:CE)
inductive mV where
|nil
|cons (a:CE) (r:mV)
inductive CO where
|none
|some (a:CE)
inductive CG where
|a (i:Nat)
|b (gs:yE)
|c (o i:CE)
inductive yE where
|nil
|cons (g:CG) (r:yE)
inductive CI where
|a (a:CE)
|b (as:mV)
|c (a:CE)
|d (a:CE)
|e (a:CE)
end
inductive CB where
|b (g:Nat) (as:mV)
|a (c:CE) (a b:CB)
mutual
inductive CS where
|e (e:CE)
|d (g:CG) (e:CE)
|h (i:Nat) (e:CE)
|f (g k:Nat) (f:Str) (e:CE)
|i (k j:Nat) (n:J)
|l (i:Nat) (nl:B Str) (j k:Nat)
|g (i:Nat) (e:CE)
|k (g:CG) (e:CE)
|a (e:CE)
|b (c:CE) (a b:cC)
|j (c:CE) (b:cC)
|c (g:CG) (src:CI) (b:cC)
|n
|m
|o
inductive cC where
|nil
|cons (s:CS) (r:cC)
end
noncomputable def yE.len:yE->Nat
|.nil=>0
|.cons _ r=>r.len+1
set_option genCtorIdx true
inductive G where
|d (v:V)
|e (a:Addr) (xs:B V)
|a (sp:Sp) (QL:B V)
|c (C:Addr) (as:B Str)
|f (sp:Sp)
|b (P:Addr)
|g
noncomputable def σ7(H:Hp)(e:Addr):Hp:=λb=>if b=e then S else H b
def isNo(e:Addr)(sp:Sp):Sp:=λvs H Q _=>∃C od,H e=M (W3 W e C od)/\sp vs (σ7 H e) (λv H2=>H2 e=S->Q v (upd H2 e<|W3 W e C od)) E0
def VV(K:ao)(a:Addr)(t:Bool)(xs:B V):Prop:=
 ∃(o:Obj) (its:Array B5) (n:Nat),K.lookup a=M o/\o.cls=.type (if t then "tuple" else "list")/\o.dict=S/\o.data=.seq its n/\its.size<=aj/\bN xs its.toList
noncomputable def MI(H:Hp)(a:Addr):LD (Bool×B V):=match H a with
|some (.a xs)=>M (W,xs)
|some (.b xs)=>M (L,xs)
|some (.f _<|.a xs)=>M (W,xs)
|some (.f _<|.b xs)=>M (L,xs)
|_=>S
def jt(K:ao)(H:Hp)(a:Addr)(t:Bool)(xs:B V):Prop:=MI H a=M (t,xs)\/VV K a t xs
def RS(h:H a=M (.b xs)):jt K H a L xs:=.inl (by unfold MI;rw[h])
def Ff(K:ao)(H:Hp)(a:Addr)(k:Bool->B V->Prop):Prop:=∃t xs,jt K H a t xs/\k t xs
inductive D where
|h|e (b:Bool)|b (i:J)|c (x:Str)
|a (o:Bool) (xs:B D)
|d (xs:B D)
|g (o:Bool) (ks:B Key) (xs:B D)
|f (o:Bool) (ks:B (B Key)) (xs:B D)
|i (o:Bool) (C:Addr) (ks:B Str) (xs:B D)
mutual
noncomputable def br:D->D
|.h=>.h
|.e b=>.e b
|.b i=>.b i
|.c x=>.c x
|.a _ xs=>.a W<|aD xs
|.d xs=>.d<|aD xs
|.g _ ks xs=>.g W ks<|aD xs
|.f _ ks xs=>.f W ks<|aD xs
|.i _ C ks xs=>.i W C ks<|aD xs
noncomputable def aD:B D->B D
|[]=>[]
|d::r=>br d::aD r
end
mutual
noncomputable def aX:D->Bool
|.a o xs=>o&&bq xs
|.d xs=>bq xs
|.g o _ xs=>o&&bq xs
|.f o _ xs=>o&&bq xs
|.i o _ _ xs=>o&&bq xs
|_=>L
noncomputable def bq:B D->Bool
|[]=>L
|d::r=>aX d&&bq r
end
mutual
noncomputable def gJ:D->D->Bool
|.h,y=>match y with
 |.h=>L
 |_=>W
|.e a,y=>match y with
 |.e b=>a==b
 |.b j=>(if a then 1 else 0)==j
 |_=>W
|.b i,y=>match y with
 |.b j=>i==j
 |.e b=>i==(if b then 1 else 0)
 |_=>W
|.c a,y=>match y with
 |.c b=>a==b
 |_=>W
|.a _ xs,y=>match y with
 |.a _ ys=>oH xs ys
 |_=>W
|.d xs,y=>match y with
 |.d ys=>oH xs ys
 |_=>W
|.g _ _ _,_=>W
|.f _ _ _,_=>W
|.i _ _ _ _,_=>W
noncomputable def oH:B D->B D->Bool
|[],ys=>match ys with
 |[]=>L
 |_=>W
|x::xs,ys=>match ys with
 |y::ys=>gJ x y&&oH xs ys
 |[]=>W
end
mutual
noncomputable def l9:D->Nat->Bool
|.a _ xs,n=>match n with
 |0=>W
 |n+1=>gA xs n
|.d xs,n=>match n with
 |0=>W
 |n+1=>gA xs n
|.g _ _ _,_=>W
|.f _ _ _,_=>W
|.i _ _ _ _,_=>W
|_,_=>L
noncomputable def gA:B D->Nat->Bool
|[],_=>L
|d::r,n=>l9 d n&&gA r n
end
def dS(d:D):Bool:=l9 d 12
def jw(ds:B D):Bool:=gA ds 12
noncomputable def Sg:Key->Bool
|.inr x=>decide<|x.length<=aj
|.inl _=>L
def keysOk(ks:B Key):Bool:=ks.all Sg
def nW(k:B Key):Bool:=keysOk k&&decide (zl k<=aj)
def fV(ks:B<|B Key):Bool:=ks.all nW
mutual
def bA(K:ao)(H:Hp):D->V->Prop
|.h,v=>v=.d
|.e b,v=>v=.c b
|.b i,v=>v=.b i
|.c x,v=>v=.e x/\x.length<=aj
|.a _ ds,v=>∃a vs,v=.a a/\Rd H a (.a vs)/\vs.length<=aj/\aT K H ds vs
|.d ds,v=>∃a vs,v=.a a/\H a=M (.b vs)/\vs.length<=aj/\aT K H ds vs
|.g _ ks ds,v=>∃a kvs,v=.a a/\H a=M (.e kvs)/\kvs.length<=aj/\(kvs.map (·.1)=ks/\keysOk ks=L)/\aT K H ds (kvs.map (·.2))
|.f _ ks ds,v=>∃a kvs,v=.a a/\H a=M (.c kvs)/\kvs.length<=aj/\(kvs.map (·.1)=ks/\fV ks=L)/\aT K H ds (kvs.map (·.2))
|.i _ C ks ds,v=>∃a dx fs,v=.a a/\(H a=M (.g C dx fs)/\H dx=M (.d a))/\fs.length<=1000/\(fs.map (·.1)=ks/\ks.Nodup)/\aT K H ds (fs.map (·.2))
def aT(K:ao)(H:Hp):B D->B V->Prop
|[],vs=>vs=[]
|d::ds,vs=>∃v r,vs=v::r/\bA K H d v/\aT K H ds r
end
def Wz(K:ao)(op:A8)(x y:V)(H:Hp)(Q:VK):Prop:=match op,x,y with
|.Add,.b i,.b j=>Q (.b<|i+j) H
|.Sub,.b i,.b j=>Q (.b<|i-j) H
|.Mult,.b i,.b j=>nF i j/\Q (.b<|i*j) H
|.FloorDiv,.b i,.b j=>vU i j/\Q (.b<|i / j) H
|.Mod,.b i,.b j=>0<j/\Q (.b<|i%j) H
|.Add,.e i,.e j=>i.length+j.length<=aj/\Q (.e<|i++j) H
|.Mult,.e i,.b j=>(0<=j/\j<2 ^ 40/\i.length*j.toNat<=aj)/\Q (.e ⟨(aL j.toNat i.cps.toList).flatten.toArray⟩) H
|.Pow,.b i,.b j=>xq i j/\Q (.b<|i ^ j.toNat) H
|.Add,.a a,.a b=>(∃xs ys,Rd H a (.a xs)/\Rd H b (.a ys)/\xs.length+ys.length<=aj/\∀p,H p=S->Q (.a p) (upd H p<|.a<|xs++ys))
  \/ (∃xs ys,jt K H a L xs/\jt K H b L ys/\xs≠[]/\ys≠[]/\xs.length+ys.length<=aj/\∀p,H p=S->Q (.a p) (upd H p<|.b<|xs++ys))
|.Mult,.a a,.b k=>∃xs,Rd H a (.a xs)/\(-(2 ^ 63)<=k/\k<2 ^ 63)/\xs.length*k.toNat<=aj/\∀p,H p=S->Q (.a p) (upd H p<|.a (aL k.toNat xs).flatten)
|_,_,_=>bu
def acM(x:D)(xs:B D):Bool:=xs.any λy=>gJ y x
def tB(K:ao)(op:Ea)(x y:V)(H:Hp)(Q:VK):Prop:=match op,x,y with
|.Lt,.b i,.b j=>Q (.c<|decide<|i<j) H
|.LtE,.b i,.b j=>Q (.c<|decide<|i<=j) H
|.Gt,.b i,.b j=>Q (.c<|decide<|j<i) H
|.Eq,x,y=>∃dx dy,bA K H dx x/\bA K H dy y/\dS dx=L/\dS dy=L/\Q (.c<|gJ dx dy) H
|.NotEq,x,y=>∃dx dy,bA K H dx x/\bA K H dy y/\dS dx=L/\dS dy=L/\Q (.c<|!gJ dx dy) H
|.Is,x,.d=>Q (.c<|decide<|x=.d) H
|.IsNot,x,.d=>Q (.c<|!decide (x=.d)) H
|.In,x,.a a=>(∃t xs dx ds,jt K H a t xs/\bA K H dx x/\aT K H ds xs/\dS dx=L/\jw ds=L/\Q (.c<|acM dx ds) H)
  \/ (∃kvs k,Rd H a (.e kvs)/\x=kV k/\Q (.c (iC kvs k).isSome) H)\/∃kvs k b,Rd H a (.c kvs)/\x=.a b/\H b=M (.b<|k.map kV)/\Q (.c (iC kvs k).isSome) H
|.NotIn,x,.a a=>(∃t xs dx ds,jt K H a t xs/\bA K H dx x/\aT K H ds xs/\dS dx=L/\jw ds=L/\Q (.c<|!acM dx ds) H)
  \/ (∃kvs k,Rd H a (.e kvs)/\x=kV k/\Q (.c<|!(iC kvs k).isSome) H)\/∃kvs k b,Rd H a (.c kvs)/\x=.a b/\H b=M (.b<|k.map kV)/\Q (.c<|!(iC kvs k).isSome) H
|_,_,_=>bu
def tD(K:ao)(x:V)(H:Hp)(Q:Bool->Prop):Prop:=match x with
|.c b=>Q b
|_=>bu
def Tq(K:ao)(x y:V)(H:Hp)(Q:VK):Prop:=match x,y with
|.e z,.b i=>z.length<=aj/\∃c,bL z.cps.toList i=M c/\Q (.e ⟨#[c]⟩) H
|.a a,y=>(∃t xs i v,y=.b i/\jt K H a t xs/\bL xs i=M v/\Q v H)\/(∃kvs k v,Rd H a (.e kvs)/\y=kV k/\iC kvs k=M v/\Q v H)
  \/ ∃kvs k b v,Rd H a (.c kvs)/\y=.a b/\H b=M (.b<|k.map kV)/\iC kvs k=M v/\Q v H
|_,_=>bu
noncomputable def cut{α:Type}(xs:B α)(lo hi:LD J):B α:=(xs.drop<|HT.oR (zl xs) 0 lo).take<|HT.oR (zl xs) (zl xs) hi-HT.oR (zl xs) 0 lo
def Zp(K:ao)(x:V)(lo hi:LD J)(H:Hp)(Q:VK):Prop:=match x with
|.e z=>z.length<=aj/\Q (.e ⟨(cut z.cps.toList lo hi).toArray⟩) H
|.a a=>(Ff K H a λt xs=>t=W/\∀p,H p=S->Q (.a p) (upd H p<|.a<|cut xs lo hi))
  \/ ∃(n:Nat) (xs:B V),jt K H a L xs/\lo=M (n:J)/\hi=S/\1<=n/\n<=xs.length/\∀p,H p=S->Q (.a p) (upd H p<|.b<|xs.drop n)
|_=>bu
def WA(vs:B V)(H:Hp)(Q:VK):Prop:=match vs with
|[.b i,.b j]=>(-(2 ^ 62)<=i/\i<2 ^ 62/\-(2 ^ 62)<=j/\j<2 ^ 62/\(j-i).toNat<=2 ^ 24)/\∀p,H p=S->Q (.a p) (upd H p<|.b<|(bW (j-i).toNat).map λ(k:Nat)=>V.b<|i+(k:J))
|_=>bu
noncomputable def tE:V->Bool
|.c L=>L
|_=>W
noncomputable def afu:V->Bool
|.c _=>L
|_=>W
def AE(xs:B V):Bool:=xs.all afu
def Tt(K:ao)(H:Hp):B V->B (Key×V)->Prop:=Paired λx p=>∃t,x=.a t/\ux K H t [kV p.1,p.2]
def AF(K:ao)(f:Bf)(vs:B V)(H:Hp)(Q:VK):Prop:=match f,vs with
|.a,[.e z]=>z.length<=aj/\Q (.b z.length) H
|.a,[.a a]=>Ff K H a λ_ xs=>Q (.b xs.length) H
|.e,[.a a]=>Ff K H a λt xs=>t=W/\AE xs=L/\Q (.c<|xs.all tE) H
|.c,[.a a]=>Ff K H a λt xs=>t=W/\AE xs=L/\Q (.c<|xs.any tE) H
|.l,[.c b]=>Q (.b (if b then 1 else 0)) H
|.i,[.b i,.b j]=>Q (.b (if j>i then j else i)) H
|.h,[.b i,.b j]=>Q (.b (if j<i then j else i)) H
|.k,[.a a]=>∃xs,Rd H a (.a xs)/\∀p,H p=S->Q (.a p) (upd H p<|.b xs)
|.g,[.a a]=>∃xs,Rd H a (.a xs)/\∀p,H p=S->Q (.a p) (upd H p<|.a xs)
|.b,[.a a]=>∃xs ps,jo K H a xs/\Tt K H xs ps/\∀p,H p=S->Q (.a p) (upd H p<|.e<|vt [] ps)
|.j,[.a a]=>∃xs ps,jo K H a xs/\QY K H xs ps/\∀p,H p=S->Q (.a p) (upd H p<|.c<|qO [] ps)
|.d,[.a a]=>(∃kvs,Rd H a (.c kvs)/\abb (kvs.map (·.1))=L/\∀ts,jX H (kvs.map (·.1)) ts->∀p,H p=S->Q (.a p) (upd H p (.a ((dX (kvs.map (·.1))).map λi=>.a<|ts.getD i 0))))\/∃us kss,Rd H a (.a us)/\MD H us kss/\abb kss=L/\∀p,H p=S->Q (.a p) (upd H p<|.a<|(dX kss).map λi=>us.getD i .d)
|_,_=>bu
def tF(H:Hp)(a:Addr):Prop:=match H a with
|some (.a _)=>True
|_=>bu
def AG(H:Hp)(a:Addr):Prop:=match H a with
|some (.e _)=>True
|some (.c _)=>True
|_=>bu
def yF(m:Mt)(x:V)(H:Hp):Prop:=match m,x with
|.a,.a a=>tF H a
|.d,.a a=>tF H a
|.e,.a a=>tF H a
|.b,.a a=>AG H a
|.c,.a a=>∃xs,Rd H a<|.a xs
|.c,.e _=>True
|_,_=>bu
def zp(K:ao)(m:Mt)(x:V)(vs:B V)(H:Hp)(Q:VK):Prop:=match m,x,vs with
|.a,.a l,[y]=>match H l with
 |some (.a xs)=>zl xs<aj/\Q .d (upd H l<|.a<|xs++[y])
 |_=>bu
|.d,.a l,[.b i,y]=>match H l with
 |some (.a xs)=>(0<=i/\i<2 ^ 40/\zl xs<aj)/\Q .d (upd H l<|.a (xs.take i.toNat++y::xs.drop i.toNat))
 |_=>bu
|.e,.a l,[.a b]=>match H l with
 |some (.a xs)=>∃zs,H b=M (.a zs)/\zl xs+zl zs<=aj/\Q .d (upd H l<|.a<|xs++zs)
 |_=>bu
|.b,.a l,[k]=>∃kvs k',Rd H l (.e kvs)/\k=kV k'/\Q ((iC kvs k').getD .d) H
|.b,.a l,[k,y]=>∃kvs k',Rd H l (.e kvs)/\k=kV k'/\Q ((iC kvs k').getD y) H
|.c,.a l,[.b k]=>∃ns:B J,Rd H l (.a<|ns.map V.b)/\k∈ns/\Q (.b<|ns.idxOf k) H
|_,_,_=>bu
inductive R6 where
|v (x:V)
|a (xs:B V)
def Uk(it:R6)(H:Hp)(k:V->Hp->Prop):Prop:=match it with
|.v x=>k x H
|.a xs=>∀p,H p=S->k (.a p) (upd H p<|.b xs)
noncomputable def rF:Nat->B V->B R6
|_,[]=>[]
|n,x::r=>.a [.b (n:J),x]::rF (n+1) r
abbrev V_:=St->Hp->((Hp->Prop)->B R6->Hp->Prop)->Prop
def SM(ok:Hp->Prop)(g:TG)(body:TS)(D:S3):B R6->St->Hp->Prop
|[],O,H=>ok H/\D.nx O H
|it::r,O,H=>ok H/\Uk it H λx H1=>g x O H1 fun σ2 H2=>body { D with nx:=SM ok g body D r,a:=SM ok g body D r,bk:=D.nx } σ2 H2
def tG(ok:Hp->Prop)(g:TG)(cond:TT)(elt:TE)(k:B V->Hp->Prop):B R6->B V->St->Hp->Prop
|[],acc,_,H=>ok H/\k acc H
|it::r,acc,O,H=>ok H/\zl acc<aj/\Uk it H λx H1=>g x O H1 fun σ2 H2=>cond σ2 H2 λb H3=>
  if b=L then elt σ2 H3 λy H4=>tG ok g cond elt k r (acc++[y]) σ2 H4 else tG ok g cond elt k r acc σ2 H3
noncomputable def TX(z:Str):B V:=z.cps.toList.map λc=>V.e ⟨#[c]⟩
def II(K:ao)(x:V)(H:Hp)(k:(Hp->Prop)->B R6->Hp->Prop):Prop:=match x with
|.e z=>z.length<=aj/\k (λ_=>True) ((TX z).map .v) H
|.a a=>Ff K H a λt xs=>k (λH'=>jt K H' a t xs) (xs.map .v) H
|_=>bu
def GA(vs:B V)(H:Hp)(k:(Hp->Prop)->B R6->Hp->Prop):Prop:=match vs with
|[.b j]=>(-(2 ^ 62)<=j/\j<2 ^ 62)/\k (λ_=>True) ((bW j.toNat).map λ(i:Nat)=>R6.v<|.b (i:J)) H
|_=>bu
def ir(O:St)(i:Nat)(k:V->Prop):Prop:=match O[i]? with
|some (M v)=>k v
|_=>bu
def zQ:B (B Key)->Hp->(B Addr->Hp->Prop)->Prop
|[],H,k=>k [] H
|x::r,H,k=>∀p,H p=S->zQ r (upd H p<|.b<|x.map kV) λts H'=>k (p::ts) H'
noncomputable def mW(ps:B<|Str×J):B (B Key):=ps.map λp=>[.inr p.1,.inl p.2]
def WB(x:V)(H:Hp)(Q:VK):Prop:=∃a ps,x=.a a/\Rd H a (.e (ps.map λp:Str×J=>(.inr p.1,V.b p.2)))/\zl ps<64 /\
 zQ (mW ps) H λts H1=>∀p,H1 p=S->Q (.a p) (upd H1 p<|.a<|(dX<|mW ps).map λi=>.a<|ts.getD i 0)
def WC(x:V)(H:Hp)(Q:VK):Prop:=∃b xs,x=.a b/\Rd H b (.a xs)/\∀p,H p=S->Q (.a p) (upd H p<|.a xs.reverse)
abbrev MJ(H:Hp)(a:Addr)(ob:Obj)(kvs:B<|B Key×V):Prop:=H a=M (.f ob<|.c kvs)
noncomputable def zR(ts:B Addr):B R6:=ts.map λt=>R6.v<|.a t
def Tu(x:V)(H:Hp)(k:(Hp->Prop)->B R6->Hp->Prop):Prop:=∃a kvs,x=.a a/\H a=M (.c kvs)/\∀ob ts,jX H (kvs.map (·.1)) ts->k (λH'=>MJ H' a ob kvs) (zR ts) (upd H a<|.f ob<|.c kvs)
noncomputable def tH(i:J):B Key->LD (B Key)
|[x,y,z]=>if z=.inl i then M [x,y]else S
|_=>S
def Q3(i:J)(x:V)(H:Hp)(Q:VK):Prop:=∃a kvs,x=.a a/\H a=M (.c kvs)/\(zl kvs<=aj/\fV (kvs.map (·.1))=L/\∀k∈kvs.map (·.1),zl k=3) /\
 zQ ((kvs.map (·.1)).filterMap<|tH i) H λts H1=>∀p,H1 p=S->Q (.a p) (upd H1 p<|.a<|ts.map V.a)
def MK(Y:B G)(g:Nat)(f:Str)(x:V)(H:Hp)(Q:VK):Prop:=match Y[g]? with
|some (.c C as)=>match x with
 |.a e=>∃dx fs v,H e=M (.g C dx fs)/\f∈as/\fs.lookup f=M v/\Q v H
 |_=>bu
|_=>bu
noncomputable def wQ(ss:B J):B J:=ss.foldl lF []
def Zr(x:V)(H:Hp)(Q:VK):Prop:=∃b ss,x=.a b/\Rd H b (.a<|ss.map V.b)/\zl ss<4000/\Q (.b<|zl<|wQ ss) H
def Q5(tb:TE)(cs:L2.St)(k:B (Addr×B Key)->Hp->Prop):Nat->Nat->B (Addr×B Key)->Hp->Prop
|0,_,ks,H=>k ks H
|m+1,i,ks,H=>tb (M (.b (i:J))::cs) H λy H1=>∃b kk,y=.a b/\Q5 tb cs k m (i+1) (ks++[(b,kk)]) H1
def Q6(te tb:TE)(fr:B Nat):TE:=λO H Q=>te O H λn H1=>∃k:Nat,n=.b (k:J)/\k<64/\∀H2,(H2=H1\/∃c oc P,H1 c=S/\H2=upd H1 c (.f oc<|.d P))->
 Q5 tb (fr.map λi=>O.getD i S) (λks H3=>((∀p∈ks,H3 p.1=M (.b<|p.2.map kV))/\L2.abb (ks.map (·.2))=L)/\∀p,H3 p=S->Q (.a p) (upd H3 p (.a ((dX (ks.map (·.2))).map λ(i:Nat)=>V.b (i:J))))) k 0 [] H2
mutual
def wE(K:ao)(Y:B G)(E:XK):CE->TE
|.a i=>λO H Q=>ir O i λv=>Q v H
|.c v=>λ_ H Q=>Q v H
|.g op a b=>λO H Q=>wE K Y E a O H λx H1=>wE K Y E b O H1 λy H2=>Wz K op x y H2 Q
|.y a=>λO H Q=>wE K Y E a O H λx H1=>Zr x H1 Q
|.p a=>λO H Q=>wE K Y E a O H λx H1=>match x with
 |.b i=>Q (.b<|-i) H1
 |_=>bu
|.q a=>λO H Q=>wE K Y E a O H λx H1=>tD K x H1 λb=>Q (.c<|!b) H1
|.k a b=>λO H Q=>wE K Y E a O H λx H1=>match x with
 |.c c=>if c=L then wE K Y E b O H1 Q else Q (.c W) H1
 |_=>bu
|.n a b=>λO H Q=>wE K Y E a O H λx H1=>match x with
 |.c c=>if c=L then Q (.c L) H1 else wE K Y E b O H1 Q
 |_=>bu
|.r c a b=>λO H Q=>wT K Y E c O H λk H1=>if k=L then wE K Y E a O H1 Q else wE K Y E b O H1 Q
|.d op a b=>λO H Q=>wE K Y E a O H λx H1=>wE K Y E b O H1 λy H2=>tB K op x y H2 Q
|.s o1 o2 a b c=>λO H Q=>wE K Y E a O H λx H1=>wE K Y E b O H1 λy H2=>tB K o1 x y H2 λz H3=>match z with
 |.c k=>if k=L then wE K Y E c O H3 λu H4=>tB K o2 y u H4 Q else Q (.c W) H3
 |_=>bu
|.e g as=>λO H Q=>match Y[g]? with
 |some (.a sp QL)=>wEs K Y E as O H λvs H1=>sp (vs++QL) H1 Q E
 |_=>bu
|.h f as=>λO H Q=>wEs K Y E as O H λvs H1=>AF K f vs H1 Q
|.l m o as=>λO H Q=>wE K Y E o O H λx H1=>yF m x H1/\wEs K Y E as O H1 λvs H2=>zp K m x vs H2 Q
|.b a b=>λO H Q=>wE K Y E a O H λx H1=>wE K Y E b O H1 λy H2=>Tq K x y H2 Q
|.m a lo hi=>λO H Q=>wE K Y E a O H λx H1=>wO K Y E lo O H1 λl H2=>wO K Y E hi O H2 λh H3=>Zp K x l h H3 Q
|.i as=>λO H Q=>wEs K Y E as O H λvs H1=>zl vs<=aj/\∀p,H1 p=S->Q (.a p) (upd H1 p<|.a vs)
|.f as=>λO H Q=>wEs K Y E as O H λvs H1=>zl vs<=aj/\∀p,H1 p=S->Q (.a p) (upd H1 p<|.b vs)
|.z=>λ_ H Q=>∀p,H p=S->Q (.a p) (upd H p<|.e [])
|.j nl fr elt tg src cond=>λO H Q=>wI K Y E src O H λok items H1=>
  tG ok (wG K Y E0 tg) (wC K Y E0 cond) (wE K Y E0 elt) (λvs H2=>∀p,H2 p=S->Q (.a p) (upd H2 p<|.a vs)) items [] (nl.map (λ_=>S)++fr.map λi=>O.getD i S) H1
|.o g a f=>λO H Q=>wE K Y E a O H λx H1=>MK Y g f x H1 Q
|.t=>λ_ H Q=>∀p,H p=S->Q (.a p) (upd H p<|.c [])
|.w as=>λO H Q=>wEs K Y E as O H λvs H1=>WA vs H1 Q
|.x g fr n body=>λO H Q=>match Y[g]? with
 |some (.b _)=>Q6 (wE K Y E n) (wE K Y E0 body) fr O H Q
 |_=>bu
|.u a=>λO H Q=>wE K Y E a O H λx H1=>WB x H1 Q
|.v a=>λO H Q=>wE K Y E a O H λx H1=>WC x H1 Q
def wT(K:ao)(Y:B G)(E:XK):CE->TT
|.q a=>λO H Q=>wT K Y E a O H λb H1=>Q (!b) H1
|.k a b=>λO H Q=>wT K Y E a O H λc H1=>if c=L then wT K Y E b O H1 Q else Q W H1
|.n a b=>λO H Q=>wT K Y E a O H λc H1=>if c=L then Q L H1 else wT K Y E b O H1 Q
|.r c a b=>λO H Q=>wT K Y E c O H λk H1=>if k=L then wT K Y E a O H1 Q else wT K Y E b O H1 Q
|.d op a b=>λO H Q=>wE K Y E a O H λx H1=>wE K Y E b O H1 λy H2=>tB K op x y H2 λz H3=>match z with
 |.c k=>Q k H3
 |_=>bu
|.s o1 o2 a b c=>λO H Q=>wE K Y E a O H λx H1=>wE K Y E b O H1 λy H2=>tB K o1 x y H2 λz H3=>match z with
 |.c k=>if k=L then wE K Y E c O H3 λu H4=>tB K o2 y u H4 λz H5=>match z with
  |.c k=>Q k H5
  |_=>bu
  else Q W H3
 |_=>bu
|.a i=>λO H Q=>ir O i λv=>tD K v H λb=>Q b H
|.b a b=>λO H Q=>wE K Y E a O H λx H1=>wE K Y E b O H1 λy H2=>Tq K x y H2 λv H3=>tD K v H3 λb=>Q b H3
|.e g as=>λO H Q=>match Y[g]? with
 |some (.a sp QL)=>wEs K Y E as O H λvs H1=>sp (vs++QL) H1 (λx H2=>tD K x H2 λb=>Q b H2) E
 |_=>bu
|.h f as=>λO H Q=>wEs K Y E as O H λvs H1=>AF K f vs H1 λx H2=>tD K x H2 λb=>Q b H2
|.l m o as=>λO H Q=>wE K Y E o O H λx H1=>yF m x H1/\wEs K Y E as O H1 λvs H2=>zp K m x vs H2 λy H3=>tD K y H3 λb=>Q b H3
|_=>λ_ _ _=>bu
def wEs(K:ao)(Y:B G)(E:XK):mV->TA
|.nil=>λ_ H Q=>Q [] H
|.cons a r=>λO H Q=>wE K Y E a O H λx H1=>wEs K Y E r O H1 λxs H2=>Q (x::xs) H2
def wO(K:ao)(Y:B G)(E:XK):CO->St->Hp->(LD J->Hp->Prop)->Prop
|.none=>λ_ H Q=>Q S H
|.some a=>λO H Q=>wE K Y E a O H λx H1=>match x with
 |.b i=>Q (M i) H1
 |_=>bu
def wC(K:ao)(Y:B G)(E:XK):CO->TT
|.none=>λ_ H Q=>Q L H
|.some a=>wT K Y E a
def wG(K:ao)(Y:B G)(E:XK):CG->TG
|.a i=>λv O H Q=>Q (O.set i<|M v) H
|.b gs=>λv O H Q=>match v with
 |.a a=>Ff K H a λt xs=>t=L/\zl xs=gs.len/\Py K Y E gs xs O H Q
 |_=>bu
|.c o i=>λv O H Q=>wE K Y E o O H λx H1=>wE K Y E i O H1 λy H2=>match x with
 |.a a=>match H2 a with
  |some (.a xs)=>∃k j,y=.b k/\kq (zl xs) k=M j/\Q O (upd H2 a<|.a<|xs.set j v)
  |some (.e kvs)=>∃k,y=kV k/\zl kvs<aj/\Q O (upd H2 a<|.e<|QO kvs k v)
  |some (.c kvs)=>∃k b,y=.a b/\H2 b=M (.b<|k.map kV)/\zl kvs<aj/\Q O (upd H2 a<|.c<|QO kvs k v)
  |_=>bu
 |_=>bu
def Py(K:ao)(Y:B G)(E:XK):yE->Mg
|.nil=>λvs O H Q=>match vs with
 |[]=>Q O H
 |_=>bu
|.cons g r=>λvs O H Q=>match vs with
 |v::vr=>wG K Y E g v O H fun σ' H'=>Py K Y E r vr σ' H' Q
 |_=>bu
def wI(K:ao)(Y:B G)(E:XK):CI->V_
|.a a=>λO H k=>wE K Y E a O H λx H1=>II K x H1 k
|.b as=>λO H k=>wEs K Y E as O H λvs H1=>GA vs H1 k
|.c a=>λO H k=>wE K Y E a O H λx H1=>match x with
 |.a b=>∃xs,Rd H1 b (.a xs)/\k (λH'=>Rd H' b<|.a xs) (rF 0 xs) H1
 |_=>bu
|.d a=>λO H k=>wE K Y E a O H λx H1=>match x with
 |.a b=>∃xs,Rd H1 b (.a xs)/\k (λH'=>Rd H' b<|.a xs) (xs.reverse.map .v) H1
 |_=>bu
|.e a=>λO H k=>wE K Y E a O H λx H1=>Tu x H1 k
end
mutual
def wS(K:ao)(Y:B G)(E:XK):CS->TS
|.e e=>λD O H=>wE K Y E e O H λ_ H1=>D.nx O H1
|.d g e=>λD O H=>wE K Y E e O H λx H1=>wG K Y E g x O H1 D.nx
|.h i e=>λD O H=>wE K Y E e O H λx H1=>D.nx (O.set i<|M x) H1
|.i k j n=>λD O H=>ir O k λx=>ir O j λy=>∃a xs i p m,x=.a a/\H a=M (.a xs)/\y=.b i/\kq (zl xs) i=M p/\xs[p]?=M (.b m)/\D.nx O (upd H a<|.a<|xs.set p<|.b<|m+n)
|.l i nl j k=>λD O H=>zl nl=3/\ir O j λy=>ir O k λx=>∃n,y=.b n/\Q3 n x H λv H'=>D.nx (O.set i<|M v) H'
|.f g k f e=>λD O H=>wE K Y E e O H λy H1=>match Y[g]? with
 |some (.c C as)=>f∈as/\ir O k λv=>∃a dx fs,v=.a a/\H1 a=M (.g C dx fs)/\zl fs<1000/\D.nx O (upd H1 a<|.g C dx<|kH f y fs)
 |_=>bu
|.g i e=>L2.acP i (wE K Y E e)<|L2.ipI λi j=>i+j
|.k g e=>λD O H=>wE K Y E e O H λx H1=>wG K Y E g x O H1 D.nx
|.a e=>λD O H=>wE K Y E e O H D.rt
|.b c a b=>λD O H=>wT K Y E c O H λk H1=>if k=L then wSs K Y E a D O H1 else wSs K Y E b D O H1
|.j c b=>λD O H=>∃QI:Nat->St->Hp->Prop,(∃m,QI m O H)/\∀m O H,QI m O H->
  wT K Y E c O H λk H1=>if k=L then ∃N:St->Hp->Prop,(∀σ' H',N σ' H'->∃m',m'<m/\QI m' σ' H')/\wSs K Y E b { D with nx:=N,a:=N,bk:=D.nx } O H1 else D.nx O H1
|.c g src b=>λD O H=>wI K Y E src O H λok items H1=>SM ok (wG K Y E g) (wSs K Y E b) D items O H1
|.n=>λD O H=>D.bk O H
|.m=>λD O H=>D.a O H
|.o=>λ_ _ _=>bu
def wSs(K:ao)(Y:B G)(E:XK):cC->TS
|.nil=>λD O H=>D.nx O H
|.cons s r=>λD O H=>wS K Y E s { D with nx:=wSs K Y E r D } O H
end
end L3
end
section
namespace L3
open PySem PySem.Spec PyProof.Rows L2
def jt.sq{K:ao}(h:jt K H a t xs):(t=W/\jo K H a xs)\/(t=L/\ux K H a xs):=by
 rcases h with h|⟨o,its,n,hk,hc,hd,hs,hz,r⟩
 .unfold MI at h;split at h<;>first|(cases h)|skip
  .exact .inl #[rfl,.inl (.inl<|by assumption)]
  .exact .inr #[rfl,.inl (.inl<|by assumption)]
  .exact .inl #[rfl,.inl (.inr #[_,by assumption])]
  .exact .inr #[rfl,.inl (.inr #[_,by assumption])]
 .cases t with
  |false=>exact .inl #[rfl,.inr #[o,its,n,hk,hc,hd,hs,hz,r]]
  |true=>exact .inr #[rfl,.inr #[o,its,n,hk,hc,hs,hz,r]]
def jt.vA{K:ao}(h:jt K H a L xs):ux K H a xs:=by
 rcases h.sq with⟨z,_⟩|⟨_,z⟩
 .cases z
 .exact z
def jt.Tv{K:ao}(h:jt K H a W xs):jo K H a xs:=by
 rcases h.sq with⟨_,z⟩|⟨z,_⟩
 .exact z
 .cases z
section
variable{X:Cx}
def adN(j:Nat)(x:Str):(⟨(aL j x.cps).foldl (·++·) #[]⟩:Str)=⟨(aL j x.cps.toList).flatten.toArray⟩:=by
 have h:∀(j:Nat) (acc:Array Nat),((aL j x.cps).foldl (·++·) acc)=acc++(aL j x.cps.toList).flatten.toArray:=by
  intro j;induction j with
  |zero=>intro acc;simp
  |succ j ih=>
   intro acc;rw[eE,y9,ih,eE,gH];apply Sv;simp
 rw[h];simp
def Eqs:nC X (jC .Mult) (λx y H Q=>∃i j,x=.e i/\y=.b j/\(0<=j/\j<2 ^ 40/\i.length*j.toNat<=aj)/\Q (.e ⟨(aL j.toNat i.cps.toList).flatten.toArray⟩) H):=by
 intro pins s O H x y v u Q I rx ry h;let#[i,j,rfl,rfl,#[h0,h1,h2],q]:=h;let#[t,rfl]:=rx;let#[t',rfl]:=ry;have hs:=cg;refine SB.mul #[?_,λhn hc=>?_,λhn hc=>?_] λt' k=>#[.e<|QD i j,H,I.tok _,#[_,rfl],?_]
 .have e1:decide (j < -(2 ^ 63:J))=W:=bM (by lia);have e2:decide (j≥2 ^ 63)=W:=bM (by lia);rw[e1,e2];rfl
 .have hj:0<j:=by omega
  intro hgt;have h3:=hgt;have h4:=(Int.ediv_lt_iff_lt_mul hj).mp h3;have h5:((i.length*j.toNat:Nat):J)=(i.length:J)*j:=by
   rw[Int.natCast_mul,Int.toNat_of_nonneg h0]
  omega
 .unfold adA;simp only[decide_eq_false_iff_not]
  lia
 .have e:QD i j=⟨(aL j.toNat i.cps.toList).flatten.toArray⟩:=by
   unfold QD;by_cases h3:j<1
   .have:j.toNat=0:=by lia
    rw[aH h3,this];rfl
   .rw[aG h3];by_cases h4:(j==1||i.length==0)=L
    .rw[aH h4];rw[Il]at h4;rcases h4 with h4|h4
     .have:j=1:=by simpa using h4
      subst this;simp
     .have h5:i.length=0:=by simpa using h4
      have h6:i.cps.toList=[]:=by
       apply jr;simpa[iJ]using h5
      rw[h6];cases i with
      |mk c=>
       simp at h6;subst h6;simp
    .rw[aG h4,adN]
  rw[e];exact q
def Inv.ab(I:L2.Inv X pins O H s)(hH:Rd H l<|.a xs):xs.length<=aj/\∃(its:B B5) (n:Nat),bN xs its/\xs.length=its.length/\s.heap.get? l=M { cls:=.type "list",data:=.seq its.toArray n }:=by
 let#[z,its,n,r,e]:=hH.ok I.ab;exact#[z,its,n,r,r.length,e]
def TruR:nC X (jC .Add) (λx y H Q=>∃l b xs zs,x=.a l/\y=.a b/\Rd H l (.a xs)/\Rd H b (.a zs)/\zl xs+zl zs<=aj/\∀p,H p=S->Q (.a p) (upd H p<|.a<|xs++zs)):=by
 intro pins s O H x y v u Q I rx ry h;let#[l,b,xs,zs,rfl,rfl,hH,hB,hz,q]:=h;cases rx;cases ry;let#[z,its,n,r,hl,e]:=Inv.ab I hH;let#[z2,its2,n2,r2,hl2,e2]:=Inv.ab I hB;refine reD e e2 ?_ (by grind);have ea:its.toArray++its2.toArray=(its++its2).toArray:=by simp
 rw[ea];exact#[.a _,_,I.bc (r.append r2) (by rw[aZ];omega),rfl,q _ I.fresh]
def a10':nC X (jC .Mult) (λx y H Q=>∃l k xs,x=.a l/\y=.b k/\Rd H l (.a xs)/\-(2 ^ 63)<=k/\k<2 ^ 63/\zl xs*k.toNat<=aj/\∀p,H p=S->Q (.a p) (upd H p<|.a (aL k.toNat xs).flatten)):=by
 intro pins s O H x y v u Q I rx ry h;let#[l,k,xs,rfl,rfl,hH,h1,h2,hz,q]:=h;cases rx;let#[t,rfl]:=ry;let#[z,its,n,r,hl,e]:=Inv.ab I hH;have hlen:its.toArray.size*k.toNat<=aj:=by rw[aS,<-hl];exact hz
 have hcap:¬its.toArray.size*k.toNat>(2 ^ 63-1) / 8:=by
  have:(aj:Nat)<=(2 ^ 63-1) / 8:=by decide
  lia
 have hfit:¬(!wm k)=L:=by
  rw[JI h1 h2];exact bY
 have Wg:¬pW (its.toArray.size*k.toNat)=L:=by
  rw[Mv hlen];exact bY
 have hnew:Ih (λx1 x2=>x1++x2) #[] (aL (if its.toArray.isEmpty=L then 0 else k.toNat) its.toArray)=(aL k.toNat its).flatten.toArray:=by
  have f0:∀m:Nat,Ih (λx1 x2=>x1++x2) #[] (aL m its.toArray)=(aL m its).flatten.toArray:=λm=>by
   have:=YL its m [];rw[lY]at this;exact this
  rw[f0];cases its with
  |nil=>simp
  |cons a r'=>rfl
 refine wpAny_binaryOp_repeat_ref (by decide) #[_,e,rfl] (λs'=>Ig s' k t) noFill_list_mul F.fills_int_mul F.slot_int_rmul repeat_list F.slot_int_index.lookup
  (nO F.slot_int_rmul (Ig s k t) F.entry_int_rmul (F.args_int_rmul_2 _ _) (int___rmul___int_list k t l its.toArray n)
   #[e,rfl,#[_,e,rfl],nO F.slot_list_mul #[_,e,rfl] F.entry_list_mul (F.args_list_mul_2 _ _) (E6 l its.toArray n k t hfit hcap Wg) #[e,?_]])
 rw[hnew];exact#[.a _,_,I.bc (r.rep k.toNat) (by rw[agt,Nat.mul_comm];exact hz),rfl,q _ I.fresh]
def afv(op:A8):nC X (jC op) (Wz X.K op):=by
 intro pins s O H x y v u Q I rx ry h;cases op<;>first|(cases x<;>first|exact aE h|(cases y<;>exact aE h))|skip
 case Add=>
  cases x<;>first|exact aE h|(cases y<;>first|exact aE h|skip)
  .exact acX pins s O H _ _ v u Q I rx ry #[_,_,rfl,rfl,h]
  .exact ItF pins s O H _ _ v u Q I rx ry #[_,_,rfl,rfl,h]
  .rcases h with⟨xs,ys,h1,h2,h3,h4⟩|⟨xs,ys,h1,h2,h3,h4,h5,h6⟩
   .exact TruR pins s O H _ _ v u Q I rx ry #[_,_,xs,ys,rfl,rfl,h1,h2,h3,h4]
   .have t1:=h1.vA;have t2:=h2.vA;exact aaB pins s O H _ _ v u Q I rx ry #[_,_,xs,ys,rfl,rfl,t1,t2,h3,h5,λz=>aI z h4,λ_=>h6]
 case Sub=>
  cases x<;>first|exact aE h|(cases y<;>first|exact aE h|skip)
  .exact acY pins s O H _ _ v u Q I rx ry #[_,_,rfl,rfl,h]
 case Mult=>
  cases x<;>first|exact aE h|(cases y<;>first|exact aE h|skip)
  .exact acZ pins s O H _ _ v u Q I rx ry #[_,_,rfl,rfl,h]
  .exact Eqs pins s O H _ _ v u Q I rx ry #[_,_,rfl,rfl,h]
  .let#[xs,h1,#[h2,h3],h4,h5]:=h;exact a10' pins s O H _ _ v u Q I rx ry #[_,_,xs,rfl,rfl,h1,h2,h3,h4,h5]
 case FloorDiv=>
  cases x<;>first|exact aE h|(cases y<;>first|exact aE h|skip)
  .exact aas pins s O H _ _ v u Q I rx ry #[_,_,rfl,rfl,h]
 case Mod=>
  cases x<;>first|exact aE h|(cases y<;>first|exact aE h|skip)
  .exact ac0 pins s O H _ _ v u Q I rx ry #[_,_,rfl,rfl,h]
 case Pow=>
  cases x<;>first|exact aE h|(cases y<;>first|exact aE h|skip)
  .exact ac1 pins s O H _ _ v u Q I rx ry #[_,_,rfl,rfl,h]
section
open PySem.SeqAt
variable{pins:B (Addr×Obj)}{O:L2.St}{H:Hp}{s:az}
theorem aT.len'{K:ao}:∀{ds:B D}{vs:B V},aT K H ds vs->zl vs=zl ds
|[],_,h=>by cases h;rfl
|d::ds,_,h=>by
 let#[v,r,rfl,_,h3]:=h;simp[aT.len' h3]
def Rd.vW{K:ao}(h:Rd H a<|.a xs):jo K H a xs:=.inl h
mutual
theorem IJ(I:L2.Inv X pins O H s):∀(dx dy:D) (v:V) (n m:Nat),l9 dx n=L->l9 dy m=L->bA X.K H dx v->bA X.K H dy v->gJ dx dy=L
|.h,dy,v,n,m,hn,hm,r,q=>by
 cases r;cases dy with
 |h=>rfl
 |c z=>cases q.1
 |a o es=>let#[a,vs,z,_]:=q;cases z
 |d es=>let#[a,vs,z,_]:=q;cases z
 |g o ks es=>cases hm
 |f o ks es=>cases hm
 |i _ _ _ _=>cases hm
 |_=>cases q
|.e b,dy,v,n,m,hn,hm,r,q=>by
 cases r;cases dy with
 |e c=>cases q;simp[gJ]
 |c z=>cases q.1
 |a o es=>let#[a,vs,z,_]:=q;cases z
 |d es=>let#[a,vs,z,_]:=q;cases z
 |g o ks es=>cases hm
 |f o ks es=>cases hm
 |i _ _ _ _=>cases hm
 |_=>cases q
|.b b,dy,v,n,m,hn,hm,r,q=>by
 cases r;cases dy with
 |b c=>cases q;simp[gJ]
 |c z=>cases q.1
 |a o es=>let#[a,vs,z,_]:=q;cases z
 |d es=>let#[a,vs,z,_]:=q;cases z
 |g o ks es=>cases hm
 |f o ks es=>cases hm
 |i _ _ _ _=>cases hm
 |_=>cases q
|.c b,dy,v,n,m,hn,hm,r,q=>by
 let#[rfl,_]:=r;cases dy with
 |c c=>cases q.1;simp[gJ]
 |a o es=>let#[a,vs,z,_]:=q;cases z
 |d es=>let#[a,vs,z,_]:=q;cases z
 |g o ks es=>cases hm
 |f o ks es=>cases hm
 |i _ _ _ _=>cases hm
 |_=>cases q
|.a o ds,dy,v,n,m,hn,hm,r,q=>by
 let#[a,vs,rfl,h2,h3,h4]:=r;cases n with
 |zero=>cases hn
 |succ n=>
 cases dy with
 |a o' es=>
  let#[a',us,e,k2,k3,k4]:=q;cases e;cases m with
  |zero=>cases hm
  |succ m=>
  have e:=I.Ax (Rd.vW h2)<|Rd.vW k2;subst e;exact Fg I ds es vs n m hn hm h4 k4
 |d es=>
  let#[a',us,e,k2,k3,k4]:=q;cases e;let#[its,_,#[o1,n1,e1,c1,_],_]:=I.list<|Rd.vW h2;let#[its2,_,#[o2,e2,c2,_],_]:=I.tuple (RS k2).vA;rw[e1]at e2;cases e2;rw[c1]at c2;exact aI c2<|by decide
 |c z=>cases q.1
 |g o ks es=>cases hm
 |f o ks es=>cases hm
 |i _ _ _ _=>cases hm
 |_=>cases q
|.d ds,dy,v,n,m,hn,hm,r,q=>by
 let#[a,vs,rfl,h2,h3,h4]:=r;cases n with
 |zero=>cases hn
 |succ n=>
 cases dy with
 |d es=>
  let#[a',us,e,k2,k3,k4]:=q;cases e;cases m with
  |zero=>cases hm
  |succ m=>
  have e:=I.JM (RS h2).vA (RS k2).vA;subst e;exact Fg I ds es vs n m hn hm h4 k4
 |a o es=>
  let#[a',us,e,k2,k3,k4]:=q;cases e;let#[its,_,#[o1,n1,e1,c1,_],_]:=I.list<|Rd.vW k2;let#[its2,_,#[o2,e2,c2,_],_]:=I.tuple (RS h2).vA;rw[e1]at e2;cases e2;rw[c1]at c2;exact aI c2<|by decide
 |c z=>cases q.1
 |g o ks es=>cases hm
 |f o ks es=>cases hm
 |i _ _ _ _=>cases hm
 |_=>cases q
|.g _ _ _,dy,v,n,m,hn,hm,r,q=>by cases hn
|.f _ _ _,dy,v,n,m,hn,hm,r,q=>by cases hn
|.i _ _ _ _,dy,v,n,m,hn,hm,r,q=>by cases hn
theorem Fg(I:L2.Inv X pins O H s):∀(ds es:B D) (vs:B V) (n m:Nat),gA ds n=L->gA es m=L->aT X.K H ds vs->aT X.K H es vs->oH ds es=L
|[],es,vs,n,m,hn,hm,r,q=>by
 cases r;cases es with
 |nil=>rfl
 |cons e es=>let#[_,_,z,_]:=q;cases z
|d::ds,es,vs,n,m,hn,hm,r,q=>by
 let#[v,r',rfl,r1,r2]:=r;cases es with
 |nil=>cases q
 |cons e es=>
  let#[w,q',z,q1,q2]:=q;cases z;have hn':l9 d n=L/\gA ds n=L:=by simpa[gA]using hn
  have hm':l9 e m=L/\gA es m=L:=by simpa[gA]using hm
  show(gJ d e&&oH ds es)=L;rw[IJ I d e v n m hn'.1 hm'.1 r1 q1,Fg I ds es r' n m hn'.2 hm'.2 r2 q2];rfl
end
structure um (A:cY) (s:az) (v u:B5) (b:Bool):Prop where
 eq:EqAt A s v u b
 rc:RcAt A s v u b
 ne:RcNeAt A s v u (!b)
def uM(A:cY)(s:az):B D->B D->B B5->B B5->Prop
|d::ds,e::es,v::vs,u::us=>EqAt A s v u (gJ d e)/\uM A s ds es vs us
|_,_,_,_=>True
theorem uM.get:∀{ds es:B D}{vs us:B B5} (j:Nat) {d e:D}{v u:B5},uM A s ds es vs us->ds[j]?=M d->es[j]?=M e->vs[j]?=M v->us[j]?=M u->EqAt A s v u (gJ d e)
|d::ds,e::es,v::vs,u::us,0,_,_,_,_,h,a,b,c,f=>by
 simp at a b c f;subst a b c f;exact h.1
|d::ds,e::es,v::vs,u::us,j+1,_,_,_,_,h,a,b,c,f=>uM.get j h.2 (by simpa using a) (by simpa using b) (by simpa using c)<|by simpa using f
|[],_,_,_,j,_,_,_,_,_,a,_,_,_=>by simp at a
|_::_,[],_,_,j,_,_,_,_,_,_,b,_,_=>by simp at b
|_::_,_::_,[],_,j,_,_,_,_,_,_,_,c,_=>by simp at c
|_::_,_::_,_::_,[],j,_,_,_,_,_,_,_,_,f=>by simp at f
def TZ(ds es:B D)(j:Nat):Bool:=match ds[j]?,es[j]? with
|some d,M e=>gJ d e
|_,_=>L
theorem Fi:∀(ds es:B D),zl ds=zl es->(bW<|zl ds).all (TZ ds es)=oH ds es
|[],[],_=>rfl
|d::ds,e::es,h=>by
 have ih:=Fi ds es (by simpa using h);rw[cX,List.range_succ_eq_map,wo,Oi];show(gJ d e&&(bW<|zl ds).all (TZ (d::ds) (e::es)∘Nat.succ))=(gJ d e&&oH ds es);rw[<-ih];congr 1
|[],_::_,h=>by simp at h
|_::_,[],h=>by simp at h
theorem Fj:∀(ds es:B D),zl ds≠zl es->oH ds es=W
|[],[],h=>aI rfl h
|[],_::_,_=>rfl
|_::_,[],_=>rfl
|d::ds,e::es,h=>by
 show(gJ d e&&oH ds es)=W;rw[Fj ds es λz=>h<|by simp[z]];simp
def aeh(hl:s.heap.IsList a its.toArray)(hb:s.heap.IsList b its2.toArray)(l1:zl its=zl ds)(l2:zl its2=zl es)(hu:A.units<d_)(he:uM A.in1 s ds es its its2):RcAt A s (.ref a) (.ref b) (oH ds es)/\RcNeAt A s (.ref a) (.ref b) (!oH ds es):=by
 by_cases hz:zl ds=zl es
 .have hsz:its.toArray.size=its2.toArray.size:=by simp;lia
  have he':∀j (h1:j<its.toArray.size) (h2:j<its2.toArray.size),EqAt A.in1 s its.toArray[j] its2.toArray[j] (TZ ds es j):=by
   intro j h1 h2;have g1:j<zl its:=by simpa using h1
   have g2:j<zl its2:=by simpa using h2
   have e1:=ai (l:=ds) (i:=j) (by lia);have e2:=ai (l:=es) (i:=j) (by lia);have:=he.get j e1 e2 (ai g1)<|ai g2;unfold TZ;rw[e1,e2];simpa using this
  have r1:=RcAt.lists hl hb hsz hu he';have r2:=RcNeAt.lists hl hb hsz hu he';have ez:its.toArray.size=zl ds:=by simp;omega
  rw[ez,Fi ds es hz]at r1 r2;exact#[r1,r2]
 .have hsz:(its.toArray.size != its2.toArray.size)=L:=by simp;lia
  rw[Fj ds es hz];exact#[RcAt.lists_lengths hl hb hsz hu,RcNeAt.lists_lengths hl hb hsz hu]
def FpS(hl:s.heap.IsTuple a its.toArray)(hb:s.heap.IsTuple b its2.toArray)(l1:zl its=zl ds)(l2:zl its2=zl es)(hu:A.units<d_)(he:uM A.in1 s ds es its its2):RcAt A s (.ref a) (.ref b) (oH ds es)/\RcNeAt A s (.ref a) (.ref b) (!oH ds es):=by
 have he':∀j (h1:j<its.toArray.size) (h2:j<its2.toArray.size),EqAt A.in1 s its.toArray[j] its2.toArray[j] (TZ ds es j):=by
  intro j h1 h2;have g1:j<zl its:=by simpa using h1
  have g2:j<zl its2:=by simpa using h2
  have e1:=ai (l:=ds) (i:=j) (by lia);have e2:=ai (l:=es) (i:=j) (by lia);have:=he.get j e1 e2 (ai g1)<|ai g2;unfold TZ;rw[e1,e2];simpa using this
 have r1:=RcAt.tuples hl hb hu he';have r2:=RcNeAt.tuples hl hb hu he';have key:((bW<|min its.toArray.size its2.toArray.size).all (TZ ds es)&&its.toArray.size==its2.toArray.size)=oH ds es:=by
  by_cases hz:zl ds=zl es
  .have e1:min its.toArray.size its2.toArray.size=zl ds:=by simp;lia
   have e2:(its.toArray.size==its2.toArray.size)=L:=by simp;lia
   rw[e1,e2,Fi ds es hz,n_]
  .have e2:(its.toArray.size==its2.toArray.size)=W:=by simp;lia
   rw[e2,Ao,Fj ds es hz]
 rw[key]at r1 r2;exact#[r1,r2]
def PlainL.is(p:PlainL h a its):h.IsList a its:=by
 let#[o,n,e,c,_,d]:=p;exact#[o,e,c,n,d]
def IsTup.is(p:IsTup h a its):h.IsTuple a its:=p
mutual
theorem LG(I:L2.Inv X pins O H s):∀(dx dy:D) (n m:Nat) (x y:V) (v u:B5) (A:cY),l9 dx n=L->l9 dy m=L->bA X.K H dx x->L2.acb x v->bA X.K H dy y->L2.acb y u->A.units+n<d_->um A s v u (gJ dx dy)
|.h,dy,n,m,x,y,v,u,A,hn,hm,r,rv,q,qu,hu=>by
 have QC:A.units<d_:=by omega
 cases r;cases rv;cases dy with
 |h=>cases q;cases qu;exact#[EqAt.same _,RcAt.none_none,RcNeAt.none_none]
 |e b=>cases q;cases qu;exact#[EqAt.none_bool b,RcAt.none_bool b,RcNeAt.none_bool b]
 |b i=>cases q;let#[t,rfl]:=qu;exact#[EqAt.none_int i t,RcAt.none_int i t,RcNeAt.none_int i t]
 |c z=>let#[rfl,_]:=q;let#[t,rfl]:=qu;exact#[EqAt.none_str z t,RcAt.none_str z t,RcNeAt.none_str z t]
 |a o es=>
  let#[b,us,rfl,k2,k3,k4]:=q;cases qu;let#[its,_,p,_]:=I.list<|Rd.vW k2;exact#[EqAt.none_list (PlainL.is p) QC,RcAt.none_list (PlainL.is p) QC,RcNeAt.none_list (PlainL.is p) QC]
 |d es=>
  let#[b,us,rfl,k2,k3,k4]:=q;cases qu;let#[its,_,p,_]:=I.tuple (RS k2).vA;exact#[EqAt.none_tuple (IsTup.is p) QC,RcAt.none_tuple (IsTup.is p) QC,RcNeAt.none_tuple (IsTup.is p) QC]
 |g _ _ _=>cases hm
 |f _ _ _=>cases hm
 |i _ _ _ _=>cases hm
|.e a,dy,n,m,x,y,v,u,A,hn,hm,r,rv,q,qu,hu=>by
 have QC:A.units<d_:=by omega
 cases r;cases rv;cases dy with
 |h=>cases q;cases qu;exact#[EqAt.bool_none a,RcAt.bool_none a,RcNeAt.bool_none a]
 |e b=>cases q;cases qu;exact#[EqAt.bool_bool a b,RcAt.bool_bool a b,RcNeAt.bool_bool a b]
 |b i=>cases q;let#[t,rfl]:=qu;exact#[EqAt.bool_int a i t,RcAt.bool_int a i t,RcNeAt.bool_int a i t]
 |c z=>let#[rfl,_]:=q;let#[t,rfl]:=qu;exact#[EqAt.bool_str a z t,RcAt.bool_str a z t,RcNeAt.bool_str a z t]
 |a o es=>
  let#[b,us,rfl,k2,k3,k4]:=q;cases qu;let#[its,_,p,_]:=I.list<|Rd.vW k2;exact#[EqAt.bool_list a (PlainL.is p) QC,RcAt.bool_list a (PlainL.is p) QC,RcNeAt.bool_list a (PlainL.is p) QC]
 |d es=>
  let#[b,us,rfl,k2,k3,k4]:=q;cases qu;let#[its,_,p,_]:=I.tuple (RS k2).vA;exact#[EqAt.bool_tuple a (IsTup.is p) QC,RcAt.bool_tuple a (IsTup.is p) QC,RcNeAt.bool_tuple a (IsTup.is p) QC]
 |g _ _ _=>cases hm
 |f _ _ _=>cases hm
 |i _ _ _ _=>cases hm
|.b a,dy,n,m,x,y,v,u,A,hn,hm,r,rv,q,qu,hu=>by
 have QC:A.units<d_:=by omega
 cases r;let#[tt,rfl]:=rv;cases dy with
 |h=>cases q;cases qu;exact#[EqAt.int_none a tt,RcAt.int_none a tt,RcNeAt.int_none a tt]
 |e b=>cases q;cases qu;exact#[EqAt.int_bool a tt b,RcAt.int_bool a tt b,RcNeAt.int_bool a tt b]
 |b i=>cases q;let#[t,rfl]:=qu;exact#[EqAt.int_int a tt i t,RcAt.int_int a tt i t,RcNeAt.int_int a tt i t]
 |c z=>let#[rfl,_]:=q;let#[t,rfl]:=qu;exact#[EqAt.int_str a tt z t,RcAt.int_str a tt z t,RcNeAt.int_str a tt z t]
 |a o es=>
  let#[b,us,rfl,k2,k3,k4]:=q;cases qu;let#[its,_,p,_]:=I.list<|Rd.vW k2;exact#[EqAt.int_list a tt (PlainL.is p) QC,RcAt.int_list a tt (PlainL.is p) QC,RcNeAt.int_list a tt (PlainL.is p) QC]
 |d es=>
  let#[b,us,rfl,k2,k3,k4]:=q;cases qu;let#[its,_,p,_]:=I.tuple (RS k2).vA;exact#[EqAt.int_tuple a tt (IsTup.is p) QC,RcAt.int_tuple a tt (IsTup.is p) QC,RcNeAt.int_tuple a tt (IsTup.is p) QC]
 |g _ _ _=>cases hm
 |f _ _ _=>cases hm
 |i _ _ _ _=>cases hm
|.c a,dy,n,m,x,y,v,u,A,hn,hm,r,rv,q,qu,hu=>by
 have QC:A.units<d_:=by omega
 let#[rfl,_]:=r;let#[tt,rfl]:=rv;cases dy with
 |h=>cases q;cases qu;exact#[EqAt.str_none a tt,RcAt.str_none a tt,RcNeAt.str_none a tt]
 |e b=>cases q;cases qu;exact#[EqAt.str_bool a tt b,RcAt.str_bool a tt b,RcNeAt.str_bool a tt b]
 |b i=>cases q;let#[t,rfl]:=qu;exact#[EqAt.str_int a tt i t,RcAt.str_int a tt i t,RcNeAt.str_int a tt i t]
 |c z=>let#[rfl,_]:=q;let#[t,rfl]:=qu;exact#[EqAt.str_str a tt z t,RcAt.str_str a tt z t,RcNeAt.str_str a tt z t]
 |a o es=>
  let#[b,us,rfl,k2,k3,k4]:=q;cases qu;let#[its,_,p,_]:=I.list<|Rd.vW k2;exact#[EqAt.str_list a tt (PlainL.is p) QC,RcAt.str_list a tt (PlainL.is p) QC,RcNeAt.str_list a tt (PlainL.is p) QC]
 |d es=>
  let#[b,us,rfl,k2,k3,k4]:=q;cases qu;let#[its,_,p,_]:=I.tuple (RS k2).vA;exact#[EqAt.str_tuple a tt (IsTup.is p) QC,RcAt.str_tuple a tt (IsTup.is p) QC,RcNeAt.str_tuple a tt (IsTup.is p) QC]
 |g _ _ _=>cases hm
 |f _ _ _=>cases hm
 |i _ _ _ _=>cases hm
|.a o ds,dy,n,m,x,y,v,u,A,hn,hm,r,rv,q,qu,hu=>by
 have QC:A.units<d_:=by omega
 have hr:=r;let#[a,vs,rfl,h2,h3,h4]:=r;cases rv;let#[its,Ug,p,_]:=I.list<|Rd.vW h2;have hn0:=hn;cases n with
 |zero=>cases hn
 |succ n=>
 cases dy with
 |h=>cases q;cases qu;exact#[EqAt.list_none (PlainL.is p) QC,RcAt.list_none (PlainL.is p) QC,RcNeAt.list_none (PlainL.is p) QC]
 |e b=>cases q;cases qu;exact#[EqAt.list_bool b (PlainL.is p) QC,RcAt.list_bool b (PlainL.is p) QC,RcNeAt.list_bool b (PlainL.is p) QC]
 |b i=>cases q;let#[t,rfl]:=qu;exact#[EqAt.list_int i t (PlainL.is p) QC,RcAt.list_int i t (PlainL.is p) QC,RcNeAt.list_int i t (PlainL.is p) QC]
 |c z=>let#[rfl,_]:=q;let#[t,rfl]:=qu;exact#[EqAt.list_str z t (PlainL.is p) QC,RcAt.list_str z t (PlainL.is p) QC,RcNeAt.list_str z t (PlainL.is p) QC]
 |a o' es=>
  have hq:=q;let#[b,us,rfl,k2,k3,k4]:=q;cases qu;let#[its2,Uh,p2,_]:=I.list<|Rd.vW k2;have hm0:=hm;cases m with
  |zero=>cases hm
  |succ m=>
  let#[r1,r2]:=aeh (A:=A) (ds:=ds) (es:=es) (PlainL.is p) (PlainL.is p2) (by rw[<-Ug.length,aT.len' h4]) (by rw[<-Uh.length,aT.len' k4]) QC (ML I ds es n m vs us its its2 A.in1 hn hm h4 Ug k4 Uh (by show A.units+1+n<d_;omega));refine#[?_,r1,r2];by_cases e:a=b
  .subst e;have z:=IJ I (.a o ds) (.a o' es) (.a a) (n+1) (m+1) hn0 hm0 hr hq;rw[z];exact EqAt.same _
  .exact EqAt.of_refs e r1
 |d es=>
  let#[b,us,rfl,k2,k3,k4]:=q;cases qu;let#[its2,_,p2,_]:=I.tuple (RS k2).vA;exact#[EqAt.list_tuple (PlainL.is p) (IsTup.is p2) QC,RcAt.list_tuple (PlainL.is p) (IsTup.is p2) QC,RcNeAt.list_tuple (PlainL.is p) (IsTup.is p2) QC]
 |g _ _ _=>cases hm
 |f _ _ _=>cases hm
 |i _ _ _ _=>cases hm
|.d ds,dy,n,m,x,y,v,u,A,hn,hm,r,rv,q,qu,hu=>by
 have QC:A.units<d_:=by omega
 have hr:=r;let#[a,vs,rfl,h2,h3,h4]:=r;cases rv;let#[its,Ug,p,_]:=I.tuple (RS h2).vA;have hn0:=hn;cases n with
 |zero=>cases hn
 |succ n=>
 cases dy with
 |h=>cases q;cases qu;exact#[EqAt.tuple_none (IsTup.is p) QC,RcAt.tuple_none (IsTup.is p) QC,RcNeAt.tuple_none (IsTup.is p) QC]
 |e b=>cases q;cases qu;exact#[EqAt.tuple_bool b (IsTup.is p) QC,RcAt.tuple_bool b (IsTup.is p) QC,RcNeAt.tuple_bool b (IsTup.is p) QC]
 |b i=>cases q;let#[t,rfl]:=qu;exact#[EqAt.tuple_int i t (IsTup.is p) QC,RcAt.tuple_int i t (IsTup.is p) QC,RcNeAt.tuple_int i t (IsTup.is p) QC]
 |c z=>let#[rfl,_]:=q;let#[t,rfl]:=qu;exact#[EqAt.tuple_str z t (IsTup.is p) QC,RcAt.tuple_str z t (IsTup.is p) QC,RcNeAt.tuple_str z t (IsTup.is p) QC]
 |d es=>
  have hq:=q;let#[b,us,rfl,k2,k3,k4]:=q;cases qu;let#[its2,Uh,p2,_]:=I.tuple (RS k2).vA;have hm0:=hm;cases m with
  |zero=>cases hm
  |succ m=>
  let#[r1,r2]:=FpS (A:=A) (ds:=ds) (es:=es) (IsTup.is p) (IsTup.is p2) (by rw[<-Ug.length,aT.len' h4]) (by rw[<-Uh.length,aT.len' k4]) QC (ML I ds es n m vs us its its2 A.in1 hn hm h4 Ug k4 Uh (by show A.units+1+n<d_;omega));refine#[?_,r1,r2];by_cases e:a=b
  .subst e;have z:=IJ I (.d ds) (.d es) (.a a) (n+1) (m+1) hn0 hm0 hr hq;rw[z];exact EqAt.same _
  .exact EqAt.of_refs e r1
 |a o es=>
  let#[b,us,rfl,k2,k3,k4]:=q;cases qu;let#[its2,_,p2,_]:=I.list<|Rd.vW k2;exact#[EqAt.tuple_list (IsTup.is p) (PlainL.is p2) QC,RcAt.tuple_list (IsTup.is p) (PlainL.is p2) QC,RcNeAt.tuple_list (IsTup.is p) (PlainL.is p2) QC]
 |g _ _ _=>cases hm
 |f _ _ _=>cases hm
 |i _ _ _ _=>cases hm
|.g _ _ _,dy,n,m,x,y,v,u,A,hn,hm,r,rv,q,qu,hu=>by cases hn
|.f _ _ _,dy,n,m,x,y,v,u,A,hn,hm,r,rv,q,qu,hu=>by cases hn
|.i _ _ _ _,dy,n,m,x,y,v,u,A,hn,hm,r,rv,q,qu,hu=>by cases hn
theorem ML(I:L2.Inv X pins O H s):∀(ds es:B D) (n m:Nat) (vs us:B V) (its its2:B B5) (A:cY),gA ds n=L->gA es m=L->aT X.K H ds vs->bN vs its->aT X.K H es us->bN us its2->A.units+n<d_->uM A s ds es its its2
|[],es,n,m,vs,us,its,its2,A,hn,hm,r,rv,q,qu,hu=>by cases its<;>trivial
|d::ds,[],n,m,vs,us,its,its2,A,hn,hm,r,rv,q,qu,hu=>by cases its<;>trivial
|d::ds,e::es,n,m,vs,us,its,its2,A,hn,hm,r,rv,q,qu,hu=>by
 have hn':l9 d n=L/\gA ds n=L:=by simpa[gA]using hn
 have hm':l9 e m=L/\gA es m=L:=by simpa[gA]using hm
 let#[x,vr,rfl,r1,r2]:=r;let#[y,nown,rfl,q1,q2]:=q;cases rv with
 |cons idxD if_1=>
  cases qu with
  |cons hneG hocd=>
   exact#[(LG I d e n m x y _ _ A hn'.1 hm'.1 r1 idxD q1 hneG hu).eq,ML I ds es n m vr nown _ _ A hn'.2 hm'.2 r2 if_1 q2 hocd hu]
end
end
def afw(hu:X.A.units+60<d_):nC X (kB .Eq) (λx y H Q=>∃dx dy,bA X.K H dx x/\bA X.K H dy y/\dS dx=L/\dS dy=L/\Q (.c<|gJ dx dy) H):=by
 intro pins s O H x y v u Q I rx ry h;let#[dx,dy,h1,h2,h3,h4,q]:=h;exact(LG I dx dy 12 12 x y v u X.A h3 h4 h1 rx h2 ry<|by lia).rc X.prog X.w X.xe _ #[.c<|gJ dx dy,H,I,rfl,q]
def afx(hu:X.A.units+60<d_):nC X (kB .NotEq) (λx y H Q=>∃dx dy,bA X.K H dx x/\bA X.K H dy y/\dS dx=L/\dS dy=L/\Q (.c<|!gJ dx dy) H):=by
 intro pins s O H x y v u Q I rx ry h;let#[dx,dy,h1,h2,h3,h4,q]:=h;exact(LG I dx dy 12 12 x y v u X.A h3 h4 h1 rx h2 ry<|by lia).ne X.prog X.w X.xe _ #[.c<|!gJ dx dy,H,I,rfl,q]
def Tz:∀(ds:B D) (its:B B5),zl its=zl ds->(∀(j:Nat) d v,ds[j]?=M d->its[j]?=M v->yf A s v x (gJ d dx))->
  ∃e:B5->Bool,(∀y,y∈its.toArray->yf A s y x (e y))/\its.toArray.any e=acM dx ds:=by
 intro ds its hl he
 classical
 refine#[λv=>decide (∃(j:Nat) (d:D),its[j]?=M v/\ds[j]?=M d/\gJ d dx=L),λy hy=>?_,?_]
 .have hy:y∈its:=by simpa using hy
  let#[j,hj,ej]:=eF hy;dsimp only;by_cases h:∃(j:Nat) (d:D),its[j]?=M y/\ds[j]?=M d/\gJ d dx=L
  .rw[aU h];let#[k,d,h1,h2,h3]:=h;have:=he k d y h2 h1;rw[h3]at this;exact this
  .rw[bM h];have e1:ds[j]?=M ds[j]:=ai (by omega);have e2:its[j]?=M y:=by rw[ai hj,ej]
   have:=he j _ y e1 e2;cases q:gJ ds[j] dx with
   |true=>exact aI #[j,_,e2,e1,q] h
   |false=>rw[q]at this;exact this
 .rw[zc];unfold acM;simp only[List.any_toArray,fm,eS];constructor
  .intro z0;let#[v,_,j,d,h1,h2,h3]:=z0;exact#[d,dz h2,h3]
  .intro z0;let#[d,hd,h3]:=z0;let#[j,hj,ej]:=eF hd;have g1:its[j]?=M its[j]:=ai (by omega);exact#[its[j],cK _,j,d,g1,by rw[ai hj,ej],h3]
theorem Fk(hu:X.A.units+60<d_)(I:L2.Inv X pins O H s)(rx:bA X.K H dx x)(rv:L2.acb x v)(hx:l9 dx 12=L):∀{ds:B D}{xs:B V}{its:B B5},aT X.K H ds xs->bN xs its->gA ds 12=L->∀(j:Nat) d w,ds[j]?=M d->its[j]?=M w->yf X.A.in1 s w v (gJ d dx)
|[],_,_,_,_,_,j,d,w,h,_=>by simp at h
|e::ds,_,_,r,rr,ho,j,d,w,h1,h2=>by
 let#[y,ys,rfl,r1,r2]:=r;have ho':l9 e 12=L/\gA ds 12=L:=by simpa[gA]using ho
 cases rr with
 |cons ra rb=>
  cases j with
  |zero=>
   simp at h1 h2;subst h1 h2;exact(LG I e dx 12 12 y x _ v X.A.in1 ho'.1 hx r1 ra rx rv<|by lia).eq
  |succ j=>exact Fk hu I rx rv hx r2 rb ho'.2 j d w (by simpa using h1)<|by simpa using h2
set_option tactic.hygienic true in
def DF(hu:X.A.units+60<d_)(op:Ea):nC X (kB op) (tB X.K op):=by
 intro pins s O H x y v u Q I rx ry h;cases op<;>first|(cases x<;>first|exact aE h|(cases y<;>exact aE h))|skip
 case Lt=>
  cases x<;>first|exact aE h|(cases y<;>first|exact aE h|skip)
  exact afh pins s O H _ _ v u Q I rx ry #[_,_,rfl,rfl,h]
 case LtE=>
  cases x<;>first|exact aE h|(cases y<;>first|exact aE h|skip)
  exact afi pins s O H _ _ v u Q I rx ry #[_,_,rfl,rfl,h]
 case Gt=>
  cases x<;>first|exact aE h|(cases y<;>first|exact aE h|skip)
  exact afj pins s O H _ _ v u Q I rx ry #[_,_,rfl,rfl,h]
 case Eq=>exact afw hu pins s O H _ _ v u Q I rx ry h
 case NotEq=>exact afx hu pins s O H _ _ v u Q I rx ry h
 case Is=>
  cases y<;>first|exact aE h|skip
  exact ac3 pins s O H _ _ v u Q I rx ry #[rfl,h]
 case IsNot=>
  cases y<;>first|exact aE h|skip
  exact aat pins s O H _ _ v u Q I rx ry #[rfl,h]
 all_goals
  cases y<;>first|exact aE h|skip
  rename_i a;cases(show u=bU a from ry);rcases h with⟨t,xs,dx,ds,hx,h1,h2,h3,h4,q⟩|⟨kvs,k,hk,rfl,q⟩|⟨kvs,k,b,hk,rfl,hb,q⟩;rcases t with _|_
  .let#[its,r,p,_]:=I.list hx.Tv;let#[e,e1,e2]:=Tz (A:=X.A.in1) (s:=s) (x:=v) (dx:=dx) ds its (by rw[<-r.length,aT.len' h2])<|Fk hu I h1 rx h3 h2 r h4;rw[<-e2]at q
   first|exact HdC e (PlainL.is p) e1 ⟨.c _,H,I,rfl,q⟩|exact Oj e (PlainL.is p) e1 ⟨.c _,H,I,rfl,q⟩
  .let#[its,r,p,_]:=I.tuple hx.vA;let#[e,e1,e2]:=Tz (A:=X.A.in1) (s:=s) (x:=v) (dx:=dx) ds its (by rw[<-r.length,aT.len' h2])<|Fk hu I h1 rx h3 h2 r h4;rw[<-e2]at q
   first|exact Pc e (IsTup.is p) e1 ⟨.c _,H,I,rfl,q⟩|exact L5 e (IsTup.is p) e1 ⟨.c _,H,I,rfl,q⟩
  .have w:AA H a (kV k) (iC kvs k):=.inl #[kvs,k,hk,rfl,rfl]
   first|exact Y7 (by lia) I w rx λs3 I3=>#[.c _,H,I3,rfl,q]|exact Pp (by lia) I w rx λs3 I3=>#[.c _,H,I3,rfl,q]
  .have w:AA H a (.a b) (iC kvs k):=.inr #[kvs,k,b,hk,rfl,hb,rfl]
   first|exact Y7 (by lia) I w rx λs3 I3=>#[.c _,H,I3,rfl,q]|exact Pp (by lia) I w rx λs3 I3=>#[.c _,H,I3,rfl,q]
def Zt:aeg X (λx H Q=>tD X.K x H λb=>Q b H):=by
 intro pins s O H x v Q I rx h;cases x with
 |c b=>cases rx;exact ie #[H,I,h]
 |_=>cases h
def Pz(hu:X.A.units+60<d_):Po X (λx y H Q=>∃a v,x=.a a/\AA H a y (M v)/\Q v H):=by
 intro value slice pins s O H x y v u Q I rx ry h hs;let#[a,z,rfl,g,q]:=h;cases(show v=bU a from rx);have hT:=OJ I g;unfold LA;refine ak ?_;rw[getitemInPython_of_ne hT.not_modules];refine ak<|zd hT L6.lookup ?_;have fin:a_ (bf X.prog X.w) X.A (E4 slice W (.ref a) u) (λr Sh=>a_ (bf X.prog X.w) X.A (letTemporaryGo value (.ref a) r >>= λ_=>pure r) (EP X pins O Q) X.xe Sh) X.xe s:=by
  rw[hs];exact wpAny_operating (gW (aeW (by lia) I g ry λw' s3 I3 rw'=>(#[z,H,I3,rw',q]:EP X pins O Q w' s3)) (λr Sh Vi=>ak<|wpAny_letTemporaryGo<|aN Vi) λ_ _ x=>x)
 first
  |exact aN<|ak fin
  |exact ak<|aN<|ak fin
  |exact ak fin
def tbI(hu:X.A.units+60<d_):Po X (Tq X.K):=by
 intro value slice pins s O H x y v u Q I rx ry h;unfold Tq at h;split at h
 .let#[hz,c,e,q]:=h;exact ac_ value slice pins s O H _ _ v u Q I rx ry #[_,_,c,rfl,rfl,hz,e,q]
 .rcases h with⟨t,xs,i,w,rfl,hx,e,q⟩|⟨kvs,k,w,hk,rfl,e,q⟩|⟨kvs,k,b,w,hk,rfl,hb,e,q⟩
  .rcases hx.sq with⟨_,z⟩|⟨_,z⟩
   .exact aaC value slice pins s O H _ _ v u Q I rx ry #[_,xs,_,w,rfl,rfl,z,e,q]
   .exact ac9 value slice pins s O H _ _ v u Q I rx ry #[_,xs,_,w,rfl,rfl,z,e,q]
  .exact Pz hu value slice pins s O H _ _ v u Q I rx ry #[_,w,rfl,.inl #[kvs,k,hk,rfl,e.symm],q]
  .exact Pz hu value slice pins s O H _ _ v u Q I rx ry #[_,w,rfl,.inr #[kvs,k,b,hk,rfl,hb,e.symm],q]
 .exact h.elim
end
def LH(n d:Nat)(v:J):max 0 (min (if v<0 then v+(n:J)else v) (n:J))=((HT.oR n d (M v):Nat):J):=by
 show max 0 (min (if v<0 then v+(n:J)else v) (n:J))=(((if v<0 then(v+(n:J)).toNat else min v.toNat n):Nat):J);by_cases hv:v<0
 .simp only[aH hv];lia
 .simp only[aG hv];lia
def IK(a b:Nat):Sw (a:J) (b:J) 1=(bW<|b-a).map λm=>a+m:=by
 unfold Sw;have h1:(1:J)>0:=by lia
 simp only[h1,kF];have e3:(if(a:J)<(b:J)then((b:J)-(a:J)+1-1) / 1 else 0).toNat=b-a:=by lia
 rw[e3];congr 1;funext k
 lia
def YO(lo hi:LD J)(n:Nat):fC lo hi 1 n=(bW<|HT.oR n n hi-HT.oR n 0 lo).map λm=>HT.oR n 0 lo+m:=by
 rw[<-IK];have h1:(1:J)>0:=by lia
 unfold fC;simp only[h1,kF];cases lo with
 |none=>cases hi with
  |none=>rfl
  |some v=>simp only[LH n n v];rfl
 |some w=>cases hi with
  |none=>simp only[LH n 0 w];rfl
  |some v=>simp only[LH n n v,LH n 0 w]
def GOk{α:Type}(l:B α)(i:Nat):∀k:Nat,((bW k).map λ(m:Nat)=>i+m).filterMap (l[·]?)=(l.drop i).take k:=by
 intro k;induction k with
 |zero=>simp
 |succ k ih=>
  rw[Im,bl,List.filterMap_append,ih,vP,oK,List.filterMap_nil];cases h:l[i+k]? with
  |none=>
   have hl:=List.getElem?_eq_none_iff.mp h;simp only[ee];rw[fP (by rw[cR];omega),fP (by rw[cR];omega)]
  |some c=>
   rw[List.take_succ,Dm,h];rfl
def fzu(a:Array Nat):∀is:B Nat,is.filterMap (a[·]?)=is.filterMap (a.toList[·]?)
|[]=>rfl
|i::r=>by simp
def MM(x:Str)(lo hi:LD J):(fC lo hi 1 x.length).filterMap (x.cps[·]?)=cut x.cps.toList lo hi:=by
 have len:x.cps.toList.length=x.length:=by rfl
 rw[fzu,YO,GOk];unfold cut;rw[len]
def zS{α:Type}(l:B α)(lo hi:LD J):zl (cut l lo hi)<=zl l:=by
 unfold cut;rw[cM,cR]
 lia
def aaJ(x:Str)(lo hi:LD J)(h:(fC lo hi 1 x.length).length=x.length):cut x.cps.toList lo hi=x.cps.toList:=by
 have len:x.cps.toList.length=x.length:=by simp[iJ]
 rw[YO,aa,ig]at h;have h2:=HT.ac7 x.length x.length (aM _) hi;unfold cut;rw[len];by_cases hz:x.length=0
 .have:x.cps.toList=[]:=jr (by lia);rw[this];simp
 .have e0:HT.oR x.length 0 lo=0:=by lia
  rw[e0,JJ,fP<|by lia]
section
variable{X:Cx}
set_option tactic.hygienic true in
def slOk:VZ X (Zp X.K):=by
 intro pins s O H x v vl vu lo hi sl Q I rx hs pl pu h;unfold Zp at h;split at h
 .rename_i z;let#[hz,q]:=h;let#[t,rfl]:=rx;refine#["str",_,Ga.lookup,Ie s z t,?_];have key:∀l u:LD<|J×Tok,vl=partValue l->vu=partValue u->l.map (·.1)=lo->u.map (·.1)=hi->a_ (bf X.prog X.w) X.A (Ak (.str z t)<|.ref sl) (EP X pins O Q) X.xe s:=by
   rintro l u rfl rfl rfl rfl;have hs':=hs;refine wpAny_getItem_str_slice (st:=S) hs' rfl ?_;have len:z.cps.toList.length=z.length:=by rfl
   have hle:=zS z.cps.toList (l.map (·.1)) (u.map (·.1));have ec:=MM z (l.map (·.1)) (u.map (·.1));have fin:∀t' k,EP X pins O Q (.str ⟨(cut z.cps.toList (l.map (·.1)) (u.map (·.1))).toArray⟩ t') { s with toks:=k }:=λt' k=>#[V.e ⟨(cut z.cps.toList (l.map (·.1)) (u.map (·.1))).toArray⟩,H,I.tok _,#[t',rfl],q];show(if((1:J)==1&&(fC (l.map (·.1)) (u.map (·.1)) 1 z.length).length==z.length)=L then Made.val (.str z t)else Made.str ⟨((fC (l.map (·.1)) (u.map (·.1)) 1 z.length).filterMap (z.cps[·]?)).toArray⟩).post (EP X pins O Q) s;rw[ec];by_cases hc:((1:J)==1&&(fC (l.map (·.1)) (u.map (·.1)) 1 z.length).length==z.length)=L
   .rw[aH hc];have hall:cut z.cps.toList (l.map (·.1)) (u.map (·.1))=z.cps.toList:=aaJ z _ _ (by
     rw[cG]at hc;simpa using hc.2)
    have f:=fin t s.toks;rw[hall]at f;exact f
   .rw[aG hc];exact#[by show(List.toArray _).size<=aj;rw[aS];lia,fin _ _]
  cases pl with
  |none=>cases pu with
   |none=>exact key S S rfl rfl rfl rfl
   |int j tj=>exact key S (M (j,tj)) rfl rfl rfl rfl
  |int i ti=>cases pu with
   |none=>exact key (M (i,ti)) S rfl rfl rfl rfl
   |int j tj=>exact key (M (i,ti)) (M (j,tj)) rfl rfl rfl rfl
 .rcases h with⟨t,xs,hx,ht,q⟩|⟨n,xs,hx,rfl,rfl,h1,h2,q⟩
  .rcases hx.sq with⟨_,z⟩|⟨hf,z⟩
   .exact aaD pins s O H _ v vl vu lo hi sl Q I rx hs pl pu #[_,xs,rfl,z,q]
   .rw[ht]at hf;cases hf
  .cases rx;let#[its,r,pt,hz]:=I.tuple hx.vA;have hlen:=r.length;cases pl with
   |int _ tl=>
    cases pu;refine#["tuple",_,De.lookup,IsTup.typeIs pt,?_];refine getItem_tuple_from pt hs h1 (by grind) ?_ (by grind);refine#[.a s.heap.objs.size,_,I.ad (o:=.b<|xs.drop n) (λb ob q=>aA _ q) (aM _) #[by rw[cR];lia,its.drop n,r.drop n,IsTup.new _ _],rfl,q _<|I.ab.fresh<|aM _]
 .exact h.elim
end
def Bf.val:Bf->B5
|.a=>.builtin "len"|.e=>.builtin "all"|.c=>.builtin "any"|.l=>.type "int"|.n=>.type "str"|.g=>.type "list"|.k=>.type "tuple"|.b=>.type "dict"|.m=>.builtin "sum"|.p=>.builtin "abs"|.o=>.type "bool"|.h=>.builtin "min"|.i=>.builtin "max"|.d=>.builtin "sorted"|.j=>.type "dict"
def Bf.ab:∀f:Bf,xY f.name=M f.val:=by
 intro f;cases f<;>decide +kernel
def Bf.ok(f:Bf):f.name≠"__name__"/\(f.name==("__debug__":Str))=W:=by
 cases f<;>decide +kernel
section
variable{X:Cx}
def GB{Q:B5->az->Prop}{E:B5->az->Prop}(hc:X.ac=L)(I:L2.Inv X pins O H s)(hx:jo X.K H a xs)(h:∀(its:B B5),bN xs its->zl xs<=aj->∀QX:az,QX={ s with heap:=s.heap.push { cls:=.type "list_iterator",data:=.fields (List.toArray [.ref a,.int 0 0]) } }->
   Walks X.prog X.w X.A.in1 s.heap.objs.size [s.heap.objs.size,a] [s.heap.objs.size] its.toArray.size (λi v=>its.toArray[i]?=M v) (λi h=>h.IsListIter s.heap.objs.size a i/\h.IsList a its.toArray)->
   (QX.heap.IsListIter s.heap.objs.size a 0/\QX.heap.IsList a its.toArray)->(∀b∈[s.heap.objs.size,a],b<QX.heap.objs.size)->
   (∀h' tk,(∀b o,b∉[s.heap.objs.size]->QX.heap.get? b=M o->h'.get? b=M o)->L2.Inv X pins O H { QX with heap:=h',toks:=tk })->Q (.ref s.heap.objs.size) QX):
  a_ (bf X.prog X.w) X.A.in1 (xZ<|.ref a) Q E s:=by
 let#[its,r,pl,hz]:=I.list hx;have hlt:a<s.heap.objs.size:=by let#[o,n,e,_]:=pl;exact aQ e
 refine qK pl.isList ?_;have hh:X.A.in1.handled=S:=I.ok.hd hc;refine h its r hz _ rfl (Walks.list hh s.heap.objs.size a (bI hlt) its.toArray) #[#[_,be _ rfl,rfl,rfl],pl.isList.push _] (λb hb=>?_) λh' tk k=>?_
 .rw[gY];rcases aO.mp hb with rfl|hb
  .exact iM _
  .rw[aK.mp hb];exact qN hlt
 .exact I.ac λb o e=>k b o (λz=>aI (aQ e) (by rw[aK.mp z];exact cW _))<|aA _ e
def aff{p:Nat->Bool}{xs:B V}(f:V->Bool)(h:∀i x,xs[i]?=M x->p i=f x):(bW<|zl xs).all p=xs.all f:=by
 rw[zc,bC,bC];constructor
 .intro q x hx;let#[i,hi]:=Bc hx;rw[<-h i x hi];exact q i<|fJ.mpr (aW.mp hi).1
 .intro q i hi;have hi:=fJ.mp hi;rw[h i xs[i]<|ai hi];exact q _<|cK hi
def PC{A:cY}{xs:B V}{its:B B5}(rv:bN xs its)(hb:AE xs=L){i:Nat}{v:B5}{s':az}{Q':Bool->az->Prop}{E':B5->az->Prop}(hi:its[i]?=M v)(hQ:Q' ((xs[i]?.map tE).getD W) s'):a_ (bf X.prog X.w) A (Oc v) Q' E' s':=by
 have hlen:=rv.length;have hl:i<xs.length:=by grind
 have hxi:xs[i]?=M xs[i]:=ai hl;let#[u,hu,ru]:=rv.get hxi;rw[hi]at hu;cases hu;have hQ:Q' ((xs[i]?.map tE).getD W) s':=hQ;rw[hxi]at hQ;have V3:∃b,xs[i]=.c b:=by
  have:=bC.mp hb _<|cK hl;revert this;cases xs[i]<;>intro this<;>first|exact⟨_,rfl⟩|(exact aI (show W=L from this) bY)
 let#[b,eb]:=V3;rw[eb]at ru hQ;cases ru;refine ie ?_;cases b<;>exact hQ
def Li(hc:X.ac=L):mG X (.builtin "all") (λvs H Q=>∃a xs,vs=[.a a]/\jo X.K H a xs/\AE xs=L/\Q (.c<|xs.all tE) H):=by
 intro pins s O H vs us Q I r h;let#[a,xs,rfl,hx,hb,q]:=h;let#[u,rfl,ru]:=Rh r;cases ru;refine call_all_walk<|GB hc I hx λits rv hz QX e QI st hfp fin=>#[_,_,_,_,_,_,λi=>(xs[i]?.map tE).getD W,rfl,QI,st,?_,λh' tk k=>?_]
 .intro i v s' Q' E' hP hQ;exact PC rv hb (by simpa using hP) hQ
 .have e1:its.toArray.size=zl xs:=by rw[aS];exact rv.length.symm
  rw[e1];have e2:=aff (p:=λi=>(xs[i]?.map tE).getD W) (xs:=xs) tE (λi x hi=>by rw[hi];rfl);rw[e2];exact#[.c _,H,fin h' tk k,rfl,q]
def ae7{p:Nat->Bool}{xs:B V}(f:V->Bool)(h:∀i x,xs[i]?=M x->p i=f x):(bW<|zl xs).any p=xs.any f:=by
 rw[zc,fm,fm];constructor
 .intro z0;let#[i,hi,q]:=z0;have hi:=fJ.mp hi;rw[h i xs[i]<|ai hi]at q;exact#[_,cK hi,q]
 .intro z0;let#[x,hx,q]:=z0;let#[i,hi]:=Bc hx;rw[<-h i x hi]at q;exact#[i,fJ.mpr (aW.mp hi).1,q]
def Lj(hc:X.ac=L):mG X (.builtin "any") (λvs H Q=>∃a xs,vs=[.a a]/\jo X.K H a xs/\AE xs=L/\Q (.c<|xs.any tE) H):=by
 intro pins s O H vs us Q I r h;let#[a,xs,rfl,hx,hb,q]:=h;let#[u,rfl,ru]:=Rh r;cases ru;refine call_any_walk<|GB hc I hx λits rv hz QX e QI st hfp fin=>#[_,_,_,_,_,_,λi=>(xs[i]?.map tE).getD W,rfl,QI,st,?_,λh' tk k=>?_]
 .intro i v s' Q' E' hP hQ;exact PC rv hb (by simpa using hP) hQ
 .have e1:its.toArray.size=zl xs:=by rw[aS];exact rv.length.symm
  rw[e1];have e2:=ae7 (p:=λi=>(xs[i]?.map tE).getD W) (xs:=xs) tE (λi x hi=>by rw[hi];rfl);rw[e2];exact#[.c _,H,fin h' tk k,rfl,q]
def wM(h:acb (kV k) u):(fy P w).is k u=L:=by
 cases k with
 |inl i=>let#[t,rfl]:=h;exact Es P w i t
 |inr x=>let#[t,rfl]:=h;exact Et P w x t
theorem TF(I:L2.Inv X pins O H s):∀{xs:B V}{ps:B<|Key×V}{its:B B5},Tt X.K H xs ps->bN xs its->
 ∃rs:B<|Key×B5,KV ps rs/\zl its=zl rs/\∀(i:Nat) (k:Key) (v:B5),rs[i]?=M (k,v)->∃t kv,its[i]?=M (.ref t)/\s.heap.IsTuple t (List.toArray [kv,v])/\(fy X.prog X.w).is k kv=L
|_,_,_,.nil,.nil=>#[[],.nil,rfl,λi k v e=>by simp at e]
|_,_,_,.cons (b:=p) hp r,.cons hu ru=>by
 let#[rs,h1,h2,h3]:=TF I r ru;let#[t,rfl,ht]:=hp;cases hu;let#[jts,rj,tp,_]:=I.tuple ht;let#[uk,uv,rfl,rk,X8]:=TU rj;refine#[(p.1,uv)::rs,.cons #[rfl,X8] h1,by simp[h2],?_];intro i k v e;cases i with
 |zero=>
  simp at e;let#[rfl,rfl]:=e;exact#[t,uk,rfl,tp,wM rk]
 |succ i=>exact h3 i k v<|by simpa using e
theorem GC:∀(ps acc:B<|Key×V),zl (vt acc ps)<=zl acc+zl ps
|[],acc=>aM _
|p::r,acc=>by
 have h:=GC r<|QO acc p.1 p.2;have h2:zl (QO acc p.1 p.2)<=zl acc+1:=by
  unfold QO;split
  .rw[aa];lia
  .rw[aZ,gQ];lia
 show(vt (QO acc p.1 p.2) r).length<=_;rw[cX]
 lia
def Lk(hc:X.ac=L):mG X (.type "dict") (λvs H Q=>∃a xs ps,vs=[.a a]/\jo X.K H a xs/\Tt X.K H xs ps/\∀p,H p=S->Q (.a p) (upd H p<|.e<|vt [] ps)):=by
 intro pins s O H vs us Q I r h;let#[a,xs,ps,rfl,hx,hp,q]:=h;let#[u,rfl,ru]:=Rh r;cases ru;let#[its,rv,#[o,n,e,hcl,hno,hdat],hz]:=I.list hx;let#[rs,kv,hl,hrs]:=TF I hp rv;have hps:=(Paired.length hp).symm;have hlen:=(Paired.length kv).symm;refine Gu (I.ok.hd hc) e (by first|exact hcl|exact hno) hdat (by first|exact hno|exact hcl) #[by simpa using hl,λi k v z=>by
  let#[t,uk,h1,h2,h3]:=hrs i k v z;exact#[t,uk,by simpa using h1,h2,h3]] (by lia) λh' tk hd hk=>?_
 refine#[.a s.heap.objs.size,_,I.ad (o:=.e<|vt [] ps) hk (aM _) #[?_,?_,merged [] rs,KV.merge kv .nil,hd],rfl,q _<|I.ab.fresh<|aM _]
 .have:=GC ps [];rw[jT]at this
  lia
 .have:=I.aw;rw[dM];intro z;rw[z]at this;exact aI this<|cW _
set_option tactic.hygienic true in
def afy(hc:X.ac=L)(hu:X.A.units+60<d_)(f:Bf):mG X f.val (AF X.K f):=by
 intro pins s O H vs us Q I r h;cases f<;>cases vs<;>first|exact aE h|skip
 case a.cons y w=>
  cases y<;>first|exact aE h|(cases w<;>first|exact aE h|skip)
  .let#[hz,q]:=h;exact Ms pins s O H _ us Q I r #[_,rfl,hz,q]
  .let#[t,xs,hx,q]:=h;refine Mr pins s O H _ us Q I r #[_,xs,rfl,?_,q];rcases hx.sq with⟨_,z⟩|⟨_,z⟩
   .exact .inl z
   .exact .inr z
 case e.cons y w=>
  cases y<;>first|exact aE h|(cases w<;>first|exact aE h|skip)
  .let#[t,xs,hx,ht,hb,q]:=h;subst ht;exact Li hc pins s O H _ us Q I r #[_,xs,rfl,hx.Tv,hb,q]
 case c.cons y w=>
  cases y<;>first|exact aE h|(cases w<;>first|exact aE h|skip)
  .let#[t,xs,hx,ht,hb,q]:=h;subst ht;exact Lj hc pins s O H _ us Q I r #[_,xs,rfl,hx.Tv,hb,q]
 case l.cons y w=>
  cases y<;>first|exact aE h|(cases w<;>first|exact aE h|skip)
  .exact ad1 pins s O H _ us Q I r (.inr #[_,rfl,h])
 case g.cons y w=>
  cases y<;>first|exact aE h|(cases w<;>first|exact aE h|skip)
  .let#[xs,hx,q]:=h;exact Mu pins s O H _ us Q I r #[_,xs,rfl,.inl<|.inl hx,q]
 case k.cons y w=>
  cases y<;>first|exact aE h|(cases w<;>first|exact aE h|skip)
  .let#[xs,h1,h2]:=h;exact Lg pins s O H _ us Q I r #[_,xs,rfl,.inl #[.inl h1,h2]]
 case b.cons y w=>
  cases y<;>first|exact aE h|(cases w<;>first|exact aE h|skip)
  .let#[xs,ps,h1,h2,q]:=h;exact Lk hc pins s O H _ us Q I r #[_,xs,ps,rfl,h1,h2,q]
 case h.cons y w=>
  cases y<;>first|exact aE h|(cases w<;>first|exact aE h|skip)
  rename_i y w;cases y<;>first|exact aE h|(cases w<;>first|exact aE h|skip)
  .exact acy hc pins s O H _ us Q I r #[_,_,rfl,h]
 case i.cons y w=>
  cases y<;>first|exact aE h|(cases w<;>first|exact aE h|skip)
  rename_i y w;cases y<;>first|exact aE h|(cases w<;>first|exact aE h|skip)
  .exact acq hc pins s O H _ us Q I r #[_,_,rfl,h]
 case d.cons y w=>
  cases y<;>first|exact aE h|(cases w<;>first|exact aE h|skip)
  .rcases h with⟨kvs,h1,h2,h3⟩|⟨xs,kss,h1,h2,h3,h4⟩
   .exact ME hc pins s O H _ us Q I r #[_,kvs,rfl,h1,h2,h3]
   .exact MG pins s O H _ us Q I r #[_,xs,kss,rfl,h1,h2,h3,h4]
 case j.cons y w=>
  cases y<;>first|exact aE h|(cases w<;>first|exact aE h|skip)
  .let#[xs,ps,h1,h2,q]:=h;exact IG hc hu pins s O H _ us Q I r #[_,xs,ps,rfl,h1,h2,q]
end
end L3
end
section
namespace L3
open PySem PySem.Spec PyProof.Rows L2
open PySem.Builtin PySem.Builtin.Str
section
variable{X:Cx}
noncomputable def LI:Mt->V->String
|_,.e _=>"str"
|.b,_=>"dict"
|_,_=>"list"
noncomputable def Q_:Mt->V->String
|.a,_=>"list.append"
|.d,_=>"list.insert"
|.e,_=>"list.extend"
|.b,_=>"dict.get"
|.c,.e _=>"str.index"
|.c,_=>"list.index"
|_,_=>""
structure aaK (T:String) (m:Mt) (id:String):Prop where
 pa:PlainAttrs T
 slot:Slot T m.name id
 ty:typeOf (.builtin id)=pure (.type "method_descriptor")
def MN(m:Mt)(x:V)(H:Hp)(h:yF m x H):aaK (LI m x) m (Q_ m x):=by
 cases m<;>cases x<;>first
  |exact aE h
  |exact⟨F.plainAttrs_list,F.slot_list_append,F.type_list_append⟩
  |exact⟨F.plainAttrs_list,F.slot_list_insert,F.type_list_insert⟩
  |exact⟨F.plainAttrs_str,F.slot_str_startswith,F.type_str_startswith⟩
  |exact⟨F.plainAttrs_str,F.slot_str_upper,F.type_str_upper⟩
  |exact⟨F.plainAttrs_str,F.slot_str_split,F.type_str_split⟩
  |exact⟨F.plainAttrs_str,F.slot_str_count,F.type_str_count⟩
  |exact⟨F.plainAttrs_str,F.slot_str_index,F.type_str_index⟩
  |exact⟨F.plainAttrs_str,F.slot_str_join,F.type_str_join⟩
  |exact⟨F.plainAttrs_dict,F.slot_dict_get,F.type_dict_get⟩
  |exact⟨F.plainAttrs_list,F.slot_list_pop,F.type_list_pop⟩
  |exact⟨F.plainAttrs_list,F.slot_list_count,F.type_list_count⟩
  |exact⟨F.plainAttrs_list,F.slot_list_index,F.type_list_index⟩
  |exact⟨F.plainAttrs_list,F.slot_list_extend,F.type_list_extend⟩
  |exact⟨F.plainAttrs_list,F.slot_list_clear,F.type_list_clear⟩
def PD(I:L2.Inv X pins O H s)(r:acb x v)(h:yF m x H):s.TypeIs v (LI m x)/\∀a,v=.ref a->∃ob,s.heap.get? a=M ob/\ob.dict=S:=by
 have hl:∀a,x=.a a->tF H a->Tc X.K "list" x H:=by
  rintro a rfl h;unfold tF at h;split at h
  .exact .inl #[rfl,_,.inl (.inl<|by assumption)]
  .exact h.elim
 have hd:∀a,x=.a a->AG H a->Tc X.K "dict" x H:=by
  rintro a rfl h;unfold AG at h;split at h
  .exact .inr (.inr (.inl #[rfl,.inl #[_,by assumption]]))
  .exact .inr (.inr (.inl #[rfl,.inr #[_,by assumption]]))
  .exact h.elim
 have hr:∀a,x=.a a->(∃xs,Rd H a<|.a xs)->Tc X.K "list" x H:=by
  rintro a rfl ⟨xs,h⟩;exact .inl #[rfl,xs,.inl h]
 cases m<;>cases x<;>first|exact aE h|exact Gw I r (hl _ rfl h)|exact Gw I r (hr _ rfl h)|exact Gw I r rfl|exact Gw I r<|hd _ rfl h
def aaL(its:B B5)(u:B5)(j:Nat):(its.toArray.extract 0<|min j its.toArray.size).push u++its.toArray.extract (min j its.toArray.size)=(its.take j++u::its.drop j).toArray:=by
 apply Sv;rw[k8,Array.toList_push,Be,Be];simp only[aS];by_cases h:j<=zl its
 .rw[Io h];simp[w6];rw[fP (by rw[cR];lia)]
 .rw[Gk<|by lia];have e1:its.take j=its:=fP (by lia);have e2:its.drop j=[]:=jG (by lia);rw[e1,e2];simp[w6]
def adu:VW X "list.insert" (λx vs H Q=>∃l xs i y,x=.a l/\vs=[.b i,y]/\H l=M (.a xs)/\(0<=i/\i<2 ^ 40/\zl xs<aj)/\Q .d (upd H l<|.a (xs.take i.toNat++y::xs.drop i.toNat))):=by
 intro pins s O H x vs v us Q I rx rv h;let#[l,xs,i,y,rfl,rfl,hH,#[h0,h1,hz],q]:=h;cases rx;let#[u,w,rfl,ru,rw']:=TU rv;let#[t,rfl]:=ru;let#[z,its,n,r,hl,e]:=I.QT hH;have hfit:¬(!wm i)=L:=by
  rw[JI (by lia)<|by lia];exact bY
 refine nO F.slot_list_insert #[_,e,rfl] F.entry_list_insert (F.args_list_insert_3 _ _ _) (Dn l its.toArray n i t w hfit<|by grind) #[e,?_];refine#[.d,_,I.Wp hH e ?_ ((bN.take _ r).append<|.cons rw'<|bN.drop _ r) ?_,rfl,q]
 .have e2:(if i<0 then(i+((its.toArray.size:Nat):J)).toNat else min i.toNat its.toArray.size)=min i.toNat its.toArray.size:=aG (by lia);rw[e2];exact aaL its w i.toNat
 .rw[aZ,cM,cX,cR]
  lia
set_option tactic.hygienic true in
def PF(hu:X.A.units+60<d_)(I:L2.Inv X pins O H s)(rx:acb x v)(rv:bN vs us)(h:zp X.K m x vs H Q):a_ (bf X.prog X.w) X.A (call (.builtin<|Q_ m x) (v::us)) (EP X pins O Q) X.xe s:=by
 cases m<;>cases x<;>first|exact aE h|skip
 case a.a l=>
  cases vs<;>first|exact aE h|skip
  rename_i y r;cases r<;>first|exact aE h|skip
  .dsimp only[zp]at h;split at h
   .exact aeE pins s O H _ _ v us Q I rx rv #[_,_,_,rfl,rfl,by assumption,h.1,h.2]
   .exact h.elim
 case d.a l=>
  cases vs<;>first|exact aE h|skip
  rename_i c r;cases c<;>first|exact aE h|(cases r<;>first|exact aE h|skip)
  rename_i c r;cases r<;>first|exact aE h|skip
  .dsimp only[zp]at h;split at h
   .exact adu pins s O H _ _ v us Q I rx rv #[_,_,_,_,rfl,rfl,by assumption,h.1,h.2]
   .exact h.elim
 case c.a l=>
  cases vs<;>first|exact aE h|skip
  rename_i c r;cases c<;>first|exact aE h|(cases r<;>first|exact aE h|skip)
  .let#[ns,hx,hk,q]:=h;let#[u,rfl,ru]:=Rh rv;cases rx;let#[t,rfl]:=ru;let#[its,r,p,hz]:=I.list (.inl hx:jo X.K H l _);exact ObT (PlainL.is p) r (by rw[aa]at hz;exact hz) hk #[.b _,H,I.tok _,#[_,rfl],q]
 case b.a l=>
  cases vs<;>first|exact aE h|skip
  rename_i c r;cases r with
  |nil=>
   let#[kvs,k',hk,rfl,q]:=h;let#[u,rfl,ru]:=Rh rv;cases rx;exact adj (by lia) I (.inl #[kvs,k',hk,rfl,rfl]) ru λw' s' I' r'=>#[_,H,I',r',q]
  |cons d r=>
  cases r<;>first|exact aE h|skip
  .let#[kvs,k',hk,rfl,q]:=h;let#[u,w,rfl,ru,rw']:=TU rv;cases rx;exact adk (by lia) I (.inl #[kvs,k',hk,rfl,rfl]) ru rw' λw' s' I' r'=>#[_,H,I',r',q]
 case e.a l=>
  cases vs<;>first|exact aE h|skip
  rename_i c r;cases c<;>first|exact aE h|(cases r<;>first|exact aE h|skip)
  rename_i b
  .dsimp only[zp]at h;split at h
   .let#[zs,h1,h2,h3]:=h;exact aeL pins s O H _ _ v us Q I rx rv #[_,_,_,zs,rfl,rfl,by assumption,h1,h2,h3]
   .exact h.elim
end
end L3
end
section
namespace L3
open PySem PySem.Spec PyProof.Rows L2
noncomputable def Zu(z:Str):It:=#[λi _=>i<z.length,λi H x H'=>H'=H/\∃c,z.cps[i]?=M c/\x=.e ⟨#[c]⟩,λi _=>z.length<=i]
def fzw{w:bO}{K:ao}{tg:Expr}(it:Addr)(z:Str)(t:Tok)(T:String)(hT:T="str_ascii_iterator"\/T="str_iterator"):SN P w K tg (Zu z) [it] it (λi h=>h.IsStrIter it T z t i) where
 mem:=by simp
 obj:=λi h st b hb=>by
  have e:b=it:=by simpa using hb
  subst e;let#[o,e,c,d]:=st;exact#[o,e,λv z=>by rw[d]at z;cases z]
 keep:=λi h h' st k=>let⟨o,ho,r⟩:=st;#[o,k it (by simp) o ho,r]
 item:=by
  intro X hP hw hK hc i pins s O H E I hf st hg;subst hP hw hK;let#[f0,f1,f2,f3,f4,f5]:=hf it (by simp);have hh:=I.ok.hd hc;have QI:Walks X.prog X.w X.A it [it] [it] z.cps.size (SignAt z) (λi h=>h.IsStrIter it T z t i):=by
   rcases hT with rfl|rfl
   .exact Walks.strAscii hh it z t
   .exact Walks.strWide hh it z t
  refine QI.item i s _ _ hg st λv h' tk hv st' kk=>?_;let#[c,u,hc,rfl]:=hv;have I1:L2.Inv X pins O H { s with heap:=h',toks:=tk }:=I.am (λb o hb e=>kk b o (by simpa using hb) e) f0 f1 f3 f4 f5;let#[o,e,c',d]:=id st';refine#[_,rfl,DA e c' d (by rcases hT with rfl|rfl<;>decide) #[.e ⟨#[c]⟩,H,I1,#[u,rfl],#[rfl,c,hc,rfl],st',λb hb=>(hf b hb).1]]
 done:=by
  intro X hP hw hK hc i pins s O H E I hf st hg;subst hP hw hK;let#[f0,f1,f2,f3,f4,f5]:=hf it (by simp);have hn:=Array.getElem?_eq_none_iff.mpr hg;rcases hT with rfl|rfl
  .exact wpAny_pyNext_ascii_end (I.ok.hd hc) st hn λh' eb=>#[rfl,I.am (λb o hb e=>eb b o hb e) f0 f1 f3 f4 f5]
  .exact wpAny_pyNext_wide_end (I.ok.hd hc) st hn λh' eb=>#[rfl,I.am (λb o hb e=>eb b o hb e) f0 f1 f3 f4 f5]
 self:=λ_ _ _ _ _ st h=>by
  rcases hT with rfl|rfl
  .exact wpAny_pyIter_striter_ascii st h
  .exact wpAny_pyIter_striter_wide st h
def Inv.IL{t':Nat}{ch:B Addr}(I:L2.Inv X pins O H s)(hf:∀b∈ch,tu X pins H b)(k:∀b o,b∉ch->s.heap.get? b=M o->h'.get? b=M o)(free:∀b o,b∉ch->s.heap.get? b=M o->H b=S->H' b=S)(grow:∀b o,H b=M o->H' b=M o)(hok:gM X.prog X.w H' h'):L2.Inv X pins O H' { s with heap:=h',toks:=t' }:=by
 refine I.step (λb hb=>?_) (λb o _ _ hc e _=>k b o hc e) (λb o _ _ hc e _=>#[o.slots,k b o hc e]) free
  (λb o hc e=>#[o,k b o hc e]) (λ_ _ e=>grow _ _ e) (λ_ _ _ e=>grow _ _ e) (λb ps e=>#[#[],by rw[grow _ _ e];simp]) (λm hm=>?_) hok I.bare
 .let#[f0,f1,f2,f3,f4,f5]:=hf b hb;exact#[f3,f1,f4,f5]
 .let#[o,es,ep,ho,r]:=hm;exact#[o,es,ep,k _ o (λz=>(hf _ z).2.1 rfl) ho,r]
def GD{X:Cx}{pins:B<|Addr×Obj}{H:Hp}{h h':Heap}{ch:B Addr}(x:gM X.prog X.w H h)(hf:∀b∈ch,H b=S)(k:∀b o,b∉ch->h.get? b=M o->h'.get? b=M o):gM X.prog X.w H h':=λb u e=>by
 refine(x b u e).ab (λc v hc q=>k c v (λz=>?_) q) (λ_ q=>q) (λ_ _ q=>q) λ_ _ _ q=>q;rcases hc with rfl|hc
 .simp_all
 .simp_all
def Y8(a:Addr):It:=
 #[λi H=>∃xs x,Rd H a (.a xs)/\xs[i]?=M x,λi H x H'=>∃p v,H p=S/\x=.a p/\H'=upd H p (.b [.b (i:J),v])/\∀xs,Rd H a (.a xs)->xs[i]?=M v,λi H=>∃xs,Rd H a (.a xs)/\zl xs<=i]
def adv{P:bS}{w:bO}{K:ao}{elts:B Expr}{x1}{pos:Pos}(a e it:Addr)(hne:e≠it):SN P w K (.Tuple elts x1 pos) (Y8 a) [e,it] e (λi h=>(∃old,IsEnum h e it (i:J) old)/\h.IsListIter it a i) where
 mem:=by simp
 obj:=λi h st b hb=>by
  let#[#[old,st1],st2]:=st;have hb:b=e\/b=it:=by simpa using hb
  rcases hb with rfl|rfl
  .exact#[_,st1,λv z=>by cases z]
  .let#[o,e,c,d]:=st2;exact#[o,e,λv z=>by rw[d]at z;cases z]
 keep:=λi h h' st k=>by
  let#[#[old,st1],st2]:=st;exact#[#[old,k e (by simp) _ st1],st2.at λo q=>k it (by simp) o q]
 item:=by
  intro X hP hw hK hc i pins s O H E I hf st hg;subst hP hw hK;let#[#[old,st1],st2]:=st;let#[xs,x,hq,hx]:=hg;let#[its,rv,p,hz]:=I.list (.inl hq:jo X.K H a xs);let#[u,hu,ru]:=rv.get hx;refine wpAny_pyNext_enum_item st1 st2 p.isList (by simpa using hu) hne λh1 TN spE ht1 hz1 hk1=>?_;refine#[_,rfl,wpAny_letOwnedTupleGo_enum TN λh2 Wb hs2=>?_];have c7:=aQ st1;have wt2:=jc c7;have ht2:=(hs2.2 _ wt2).trans ht1;have hk2:∀b o,b∉[e,it]->s.heap.get? b=M o->h2.get? b=M o:=λb o hb q=>by
   have hb:b≠e/\b≠it:=by simpa using hb
   exact(hs2.2 b hb.1).trans (hk1 b o hb.1 hb.2 q)
  have hn:=I.ab.fresh<|aM _;have hfr:=λb hb=>(hf b hb).1;have V8:gM X.prog X.w (upd H s.heap.objs.size<|.b [.b (i:J),x]) h2:=by
   have h0:=GD (pins:=pins) I.ab hfr hk2;intro b o q;by_cases hb:b=s.heap.objs.size
   .subst hb;rw[bZ]at q;cases q;refine#[by show(2:Nat)<=_;have:=cg;lia,[.int (i:J) s.toks,u],.cons #[_,rfl] #v[ru],#[_,ht2,rfl,_,rfl]]
   .rw[bg hb]at q;exact(h0 b o q).ab (λ_ _ _ r=>r) (λc r=>by rw[bg<|cj r hn];exact r) (λc ys r=>by rw[bg<|cj r hn];exact r) λc o ys r=>by rw[bg<|cj r hn];exact r
  have I2:L2.Inv X pins O (upd H s.heap.objs.size<|.b [.b (i:J),x]) { s with heap:=h2,toks:=s.toks+1 }:=
   Inv.IL I hf hk2 (λb o hb q n=>by rw[bg<|bI<|aQ q];exact n) (λb o q=>by rw[bg<|cj q hn];exact q) V8
  refine#[.a s.heap.objs.size,_,I2,rfl,#[_,x,hn,rfl,rfl,λys hy=>by rw[I.Ax (.inl hy) (.inl hq:jo X.K H a xs)];exact hx],#[#[u,?_],?_],λb hb=>?_]
  .have:((i:J)+1)=((i+1:Nat):J):=by lia
   rw[<-this];exact Wb
  .exact spE.at λo q=>(hs2.2 it<|gi hne).trans q
  .have hlt:b<s.heap.objs.size:=by
    have hb:b=e\/b=it:=by simpa using hb
    rcases hb with rfl|rfl
    .exact c7
    .let#[o,q,_]:=st2;exact aQ q
   rw[bg<|bI hlt];exact hfr b hb
 done:=by
  intro X hP hw hK hc i pins s O H E I hf st hg;subst hP hw hK;let#[#[old,st1],st2]:=st;let#[xs,hq,hx]:=hg;let#[its,rv,p,hz]:=I.list (.inl hq:jo X.K H a xs);have hl:=rv.length;have hfr:=λb hb=>(hf b hb).1;refine wpAny_pyNext_enum_end (I.ok.hd hc) st1 st2 p.isList (by simp;lia) λh' eb=>#[rfl,?_];have hk:∀b o,b∉[e,it]->s.heap.get? b=M o->h'.get? b=M o:=λb o hb q=>eb b o (λz=>hb<|by simp[z]) q;exact Inv.IL (ch:=[e,it]) I hf hk (λ_ _ _ _ n=>n) (λ_ _ q=>q) (GD (X:=X) (pins:=pins) I.ab hfr hk)
 self:=λ_ _ _ _ _ st h=>by
  let#[#[old,st1],_]:=st;exact El st1 h
noncomputable def Y9(K:ao)(a:Addr)(n:Nat):It:=
 #[λi H=>∃xs x,jo K H a xs/\zl xs=n/\xs.reverse[i]?=M x,λi H x H'=>H'=H/\∀xs,jo K H a xs->xs.reverse[i]?=M x,λi _=>n<=i]
def g12{w:bO}{K:ao}{tg:Expr}(a it:Addr)(n:Nat):SN P w K tg (Y9 K a n) [it] it (λi h=>i<=n/\h.IsRevIter it a ((n:J)-1-(i:J))) where
 mem:=by simp
 obj:=λi h st b hb=>by
  have e:b=it:=by simpa using hb
  subst e;let#[_,o,e,c,d]:=st;exact#[o,e,λv z=>by rw[d]at z;cases z]
 keep:=λi h h' st k=>#[st.1,st.2.at λo e=>k it (by simp) o e]
 item:=by
  intro X hP hw hK hc i pins s O H E I hf st hg;subst hP hw hK;let#[xs,x,hq,hn,hx]:=hg;let#[its,rv,p,hz]:=I.list hq;have hi:i<zl xs:=by
   have:=(aW.mp hx).1;simpa using this
  have hx':xs[zl xs-1-i]?=M x:=by
   rw[List.getElem?_reverse hi]at hx;exact hx
  let#[u,hu,ru]:=rv.get hx';let#[f0,f1,f2,f3,f4,f5]:=hf it (by simp);have e1:(n:J)-1-(i:J)=((zl xs-1-i:Nat):J):=by omega
  have st2:=st.2;rw[e1]at st2;refine wpAny_pyNext_rev_item st2 p.isList (by simpa using hu) λh' st' sb=>?_;have I1:=I.am (t':=s.toks) (λb o hb e=>(sb.2 b hb).trans e) f0 f1 f3 f4 f5;let#[o,e,c,d]:=id st';refine#[u,rfl,DA e c d (by decide) #[x,H,I1,ru,#[rfl,λys hy=>by rw[I.Ax hy hq];exact hx],#[by lia,?_],λb hb=>(hf b hb).1]];have e2:(n:J)-1-((i+1:Nat):J)=((zl xs-1-i:Nat):J)-1:=by lia
  rw[e2];exact st'
 done:=by
  intro X hP hw hK hc i pins s O H E I hf st hg;subst hP hw hK;have e:=Nat.le_antisymm st.1 hg;subst e;let#[f0,f1,f2,f3,f4,f5]:=hf it (by simp);have st2:=st.2;have e1:(i:J)-1-(i:J)=-1:=by lia
  rw[e1]at st2;exact wpAny_pyNext_rev_end (I.ok.hd hc) st2 λh' eb=>#[rfl,I.am (λb o hb e=>eb b o hb e) f0 f1 f3 f4 f5]
 self:=λ_ _ _ _ _ st h=>Bg st.2 h
structure tL (acv:It) (ok:Hp->Prop) (items:B R6):Prop where
 go:∀i H it,ok H->items[i]?=M it->acv.go i H
 yld:∀i H it x H',ok H->items[i]?=M it->acv.yld i H x H'->∀k,Uk it H k->k x H'
 stop:∀i H,ok H->zl items<=i->acv.stop i H
def adw{K:ao}:tL (XT K a) (λH=>jo K H a xs) (xs.map .v) where
 go:=λi H it ok hi=>by
  rw[aJ]at hi;cases e:xs[i]? with
  |none=>rw[e]at hi;cases hi
  |some x=>exact#[xs,x,ok,e]
 yld:=λi H it x H' ok hi hy k hk=>by
  let#[rfl,hy]:=hy;rw[aJ,hy xs ok]at hi;cases hi;exact hk
 stop:=λi H ok hi=>#[xs,ok,by rw[aa]at hi;exact hi]
theorem B6:∀(xs:B V) (n i:Nat),(rF n xs)[i]?=(xs[i]?).map λx=>R6.a [.b ((n+i:Nat):J),x]
|[],n,i=>by simp[rF]
|x::r,n,0=>by simp[rF]
|x::r,n,i+1=>by
 simp only[rF,yw,B6 r (n+1) i];have:n+1+i=n+(i+1):=by lia
 rw[this]
theorem JW:∀(xs:B V) (n:Nat),zl (rF n xs)=zl xs
|[],_=>rfl
|x::r,n=>by simp[rF,JW r<|n+1]
def adx:tL (Y8 a) (λH=>Rd H a<|.a xs) (rF 0 xs) where
 go:=λi H it ok hi=>by
  rw[B6]at hi;cases e:xs[i]? with
  |none=>rw[e]at hi;cases hi
  |some x=>exact#[xs,x,ok,e]
 yld:=λi H it x H' ok hi hy k hk=>by
  let#[p,v,hp,rfl,rfl,hy]:=hy;rw[B6,hy xs ok,Dp]at hi;cases hi;exact hk p hp
 stop:=λi H ok hi=>#[xs,ok,by rw[JW]at hi;exact hi]
def hA2{K:ao}:tL (Y9 K a<|zl xs) (λH=>jo K H a xs) (xs.reverse.map .v) where
 go:=λi H it ok hi=>by
  rw[aJ]at hi;cases e:xs.reverse[i]? with
  |none=>rw[e]at hi;cases hi
  |some x=>exact#[xs,x,ok,rfl,e]
 yld:=λi H it x H' ok hi hy k hk=>by
  let#[rfl,hy]:=hy;rw[aJ,hy xs ok]at hi;cases hi;exact hk
 stop:=λi H ok hi=>by rw[aa,oN]at hi;exact hi
def hCX{K:ao}:tL (XU K a) (λH=>ux K H a xs) (xs.map .v) where
 go:=λi H it ok hi=>by
  rw[aJ]at hi;cases e:xs[i]? with
  |none=>rw[e]at hi;cases hi
  |some x=>exact#[xs,x,ok,e]
 yld:=λi H it x H' ok hi hy k hk=>by
  let#[rfl,hy]:=hy;rw[aJ,hy xs ok]at hi;cases hi;exact hk
 stop:=λi H ok hi=>#[xs,ok,by rw[aa]at hi;exact hi]
def hKb:tL (Zu z) (λ_=>True) ((TX z).map .v) where
 go:=λi H it ok hi=>by
  have:=(aW.mp hi).1;have:i<z.length:=by simpa[TX,iJ]using this
  exact this
 yld:=λi H it x H' ok hi hy k hk=>by
  let#[rfl,c,hc,rfl]:=hy;unfold TX at hi;rw[bG,aJ,iQ,hc]at hi;cases hi;exact hk
 stop:=λi H ok hi=>by
  have:z.length<=i:=by simpa[TX,iJ]using hi
  exact this
def aae{lo:J}:tL (Zl lo n) (λ_=>True) ((bW n).map λ(i:Nat)=>R6.v<|.b<|lo+(i:J)) where
 go:=λi H it ok hi=>by
  have:=(aW.mp hi).1;have:i<n:=by simpa using this
  exact this
 yld:=λi H it x H' ok hi hy k hk=>by
  let#[rfl,rfl]:=hy;have hl:=(aW.mp hi).1;have hl:i<n:=by simpa using hl
  rw[aJ,uB hl]at hi;cases hi;exact hk
 stop:=λi H ok hi=>by
  have:n<=i:=by simpa using hi
  exact this
def tL.ac{ok ok':Hp->Prop}(h:tL acv ok items)(m:∀H,ok' H->ok H):tL acv ok' items:=
 #[λi H it o=>h.go i H it<|m H o,λi H it x H' o=>h.yld i H it x H'<|m H o,λi H o=>h.stop i H<|m H o]
def hM0{ok:Hp->Prop}{items:B R6}{g:TG}{body:TS}{D:S3}{O:L2.St}{H:Hp}(hJ:tL acv ok items)(h:SM ok g body D items O H):∃QI:Nat->Nat->L2.St->Hp->Prop,(∃m,QI 0 m O H)/\∀i m O H,QI i m O H->
   (acv.stop i H/\D.nx O H)\/(acv.go i H/\∃N:L2.St->Hp->Prop,(∀σ' H',N σ' H'->∃m',m'<m/\QI (i+1) m' σ' H')/\∀x H',acv.yld i H x H'->g x O H' fun σ2 H2=>body { D with nx:=N,a:=N,bk:=D.nx } σ2 H2):=by
 refine#[λi m O H=>m=zl items-i/\i<=zl items/\SM ok g body D (items.drop i) O H,#[zl items,by simp,cN _,by simpa using h],?_];intro i m O H z0;let#[rfl,hi,p]:=z0;by_cases hlt:i<zl items
 .rw[iT hlt]at p;let#[hok,p]:=p;have e:=ai hlt;refine .inr #[hJ.go i H _ hok e,SM ok g body D<|items.drop<|i+1,fun σ' H' p'=>#[zl items-(i+1),by omega,rfl,hlt,p'],λx H' y=>?_];exact hJ.yld i H _ x H' hok e y _ p
 .rw[jG<|by omega]at p;let#[hok,p]:=p;exact .inl #[hJ.stop i H hok<|by omega,p]
section
variable{X:Cx}{tg:Expr}
def WL(X:Cx)(pins:B<|Addr×Obj)(O:L2.St)(tg:Expr)(k:(Hp->Prop)->B R6->Hp->Prop)(itv:B5)(s2:az):Prop:=
 ∃(it:Addr) (fp:B Addr) (tn:Nat->Heap->Prop) (acv:It) (H':Hp),itv=.ref it/\L2.Inv X pins O H' s2/\SN X.prog X.w X.K tg acv fp it tn/\tn 0 s2.heap/\(∀b∈fp,tu X pins H' b)/\∃ok items,tL acv ok items/\k ok items H'
def GH(X:Cx)(tg iter:Expr)(wi:V_):Prop:=
 ∀(pins:B<|Addr×Obj) (s:az) (O:L2.St) (H:Hp) (k:(Hp->Prop)->B R6->Hp->Prop),L2.Inv X pins O H s->wi O H k->
  a_ (bf X.prog X.w) X.A (eval iter X.ab) (λv s1=>a_ (bf X.prog X.w) X.A (xZ v) (WL X pins O tg k) X.xe s1) X.xe s
def afz(hp:yW (bf X.prog X.w) X.A X.ab X.xe)(hc:X.ac=L)(hi:GH X tg iter wi)(hg:PG X tg g)(hb:zP X body tb)(hs:∀x,mO iter X.ab x=pure x):PS X (.For tg iter body [] pos) (λD O H=>wi O H λok items H1=>SM ok g tb D items O H1):=by
 intro pins s O H D I h;have hI:PI X tg iter (fun XQ H0 R=>wi XQ H0 (λok items H1=>SM ok g tb D items O H1)/\∀ok items H1 acv,SM ok g tb D items O H1->tL acv ok items->R acv H1):=by
  intro X6 s' σ' H' R I' h';refine bH (hi X6 s' σ' H' _ I' h'.1) λv s1 h1=>bH h1 λitv s2 h2=>?_;let#[it,fp,tn,acv,H2,e,I2,T,st,hf,ok,items,hJ,hk]:=h2;exact#[it,fp,tn,acv,H2,e,I2,T,st,hf,h'.2 ok items H2 acv hk hJ]
 exact acU hp hc hI hg hb hs pins s O H D I #[h,λok items H1 acv hk hJ=>hM0 hJ hk]
def aaM{e:Expr}{te:TE}(he:PE X e te):GH X tg e (λO H k=>te O H λx H1=>II X.K x H1 k):=by
 intro pins s O H k I h;refine bH (he pins s O H _ I h) λv s1 z0=>?_;let#[x,H1,I1,r1,q1]:=z0;cases x with
 |e z=>
  let#[t,rfl]:=r1;let#[hz,q]:=q1;have fin:∀T,T="str_ascii_iterator"\/T="str_iterator"->WL X pins O tg k (.ref s1.heap.objs.size) { s1 with heap:=s1.heap.push { cls:=.type T,data:=.fields (List.toArray [.str z t,.int 0 0]) } }:=λT hT=>by
   refine#[s1.heap.objs.size,[s1.heap.objs.size],_,_,H1,rfl,I1.ac λb o e=>aA _ e,fzw s1.heap.objs.size z t T hT,#[_,be _ rfl,rfl,rfl],λb hb=>?_,_,_,hKb,q];have e:b=s1.heap.objs.size:=by simpa using hb
   subst e;exact I1.uF (aM _)<|I1.ab.fresh<|aM _
  cases ha:z.cps.all (·<128)
  .exact wpAny_pyIter_wide ha (fin _<|.inr rfl)
  .exact wpAny_pyIter_ascii ha (fin _<|.inl rfl)
 |a a=>
  let#[t,xs,hx,q]:=q1;cases r1;rcases hx.sq with⟨rfl,z⟩|⟨rfl,z⟩
  .let#[its,rv,p,hz]:=I1.list z;refine qK p.isList ?_;refine#[s1.heap.objs.size,[s1.heap.objs.size],_,_,H1,rfl,I1.ac λb o e=>aA _ e,adS a _,#[_,be _ rfl,rfl,rfl],λb hb=>?_,λH'=>jt X.K H' a W xs,_,adw.ac λH' o=>?_,q]
   .have e:b=s1.heap.objs.size:=by simpa using hb
    subst e;exact I1.uF (aM _)<|I1.ab.fresh<|aM _
   .rcases o.sq with⟨_,z⟩|⟨hf,_⟩
    .exact z
    .cases hf
  .let#[its,rv,p,hz]:=I1.tuple z;refine wpAny_pyIter_tuple p ?_;refine#[s1.heap.objs.size,[s1.heap.objs.size],_,_,H1,rfl,I1.ac λb o e=>aA _ e,I10 a _,#[_,be _ rfl,rfl,rfl],λb hb=>?_,λH'=>jt X.K H' a L xs,_,hCX.ac λH' o=>?_,q]
   .have e:b=s1.heap.objs.size:=by simpa using hb
    subst e;exact I1.uF (aM _)<|I1.ab.fresh<|aM _
   .rcases o.sq with⟨hf,_⟩|⟨_,z⟩
    .cases hf
    .exact z
 |_=>cases q1
def hokT{k:(Hp->Prop)->B R6->Hp->Prop}{E:B5->az->Prop}{lo hi:J}{t u v:Tok}{tk:Nat}(I:L2.Inv X pins O H s)(h1:-(2 ^ 62)<=lo)(h2:lo<2 ^ 62)(h3:-(2 ^ 62)<=hi)(h4:hi<2 ^ 62)(q:k (λ_=>True) ((bW (hi-lo).toNat).map λ(i:Nat)=>R6.v<|.b<|lo+(i:J)) H):a_ (bf X.prog X.w) X.A (xZ<|.ref s.heap.objs.size) (WL X pins O tg k) E { s with heap:=s.heap.push { cls:=.type "range",data:=.fields (List.toArray [.int lo t,.int hi u,.int 1 v]) },toks:=tk }:=by
 refine bH (hbo (tg:=tg) (R:=λacv H'=>acv=Zl lo (hi-lo).toNat/\H'=H) I h1 h2 h3 h4 #[rfl,rfl]) λitv s2 h=>?_;let#[it,fp,tn,acv,H',e,I2,T,st,hf,rfl,rfl]:=h;exact#[it,fp,tn,_,H',e,I2,T,st,hf,_,_,aae,q]
def hMl{x1:Nat}{tp:Pos}{e:Expr}{te:TE}{p pos:Pos}(hg:Gl X "enumerate")(hm:X.mg "enumerate"=S)(he:PE X e te)(hs:gp [e] X.ab=[(W,eval e X.ab)]):GH X (.Tuple elts x1 tp) (.Call (.Name "enumerate" p) [e] [] pos) (λO H k=>te O H λx H1=>match x with
   |.a b=>∃xs,Rd H1 b (.a xs)/\k (λH'=>Rd H' b<|.a xs) (rF 0 xs) H1
   |_=>bu):=by
 intro pins s O H k I h;have ha:=IB he Ml hs;refine Ip (mR I hg hm boot_enumerate (cZ (bH (ha pos pins s O H (λvs H1=>match vs with
   |[x]=>(match x with
    |.a b=>∃xs,Rd H1 b (.a xs)/\k (λH'=>Rd H' b<|.a xs) (rF 0 xs) H1
    |_=>bu)
   |_=>bu) I h) λus s1 ⟨vs,H1,I1,r1,q⟩=>?_) hs rfl))
 match vs,r1,q with
 |[],r1,q=>cases q
 |_::_::_,r1,q=>cases q
 |[x],r1,q=>
  let#[u,rfl,ru]:=Rh r1;cases x with
  |a b=>
   cases ru;let#[xs,hx,q]:=q;let#[its,rv,pl,hz]:=I1.list (.inl hx:jo X.K H1 b xs);refine call_enumerate_list pl.isList λh' he' hi' hz' hk'=>?_;refine El he' ?_;refine#[s1.heap.objs.size+1,[s1.heap.objs.size+1,s1.heap.objs.size],_,_,H1,rfl,I1.ac hk',adv b _ _<|Nat.succ_ne_self _,#[#[_,he'],hi'],λc hc=>?_,_,_,adx,q];have hc:c=s1.heap.objs.size+1\/c=s1.heap.objs.size:=by simpa using hc
   rcases hc with rfl|rfl
   .exact I1.uF (rA _) (I1.ab.fresh<|rA _)
   .exact I1.uF (aM _) (I1.ab.fresh<|aM _)
  |_=>cases q
def aaN{te:TE}{p pos:Pos}(hg:Gl X "reversed")(hm:X.mg "reversed"=S)(he:PE X e te)(hs:gp [e] X.ab=[(W,eval e X.ab)]):GH X tg (.Call (.Name "reversed" p) [e] [] pos) (λO H k=>te O H λx H1=>match x with
   |.a b=>∃xs,Rd H1 b (.a xs)/\k (λH'=>Rd H' b<|.a xs) (xs.reverse.map .v) H1
   |_=>bu):=by
 intro pins s O H k I h;have ha:=IB he Ml hs;refine Ip (mR I hg hm LF (cZ (bH (ha pos pins s O H (λvs H1=>match vs with
   |[x]=>(match x with
    |.a b=>∃xs,Rd H1 b (.a xs)/\k (λH'=>Rd H' b<|.a xs) (xs.reverse.map .v) H1
    |_=>bu)
   |_=>bu) I h) λus s1 ⟨vs,H1,I1,r1,q⟩=>?_) hs rfl))
 match vs,r1,q with
 |[],r1,q=>cases q
 |_::_::_,r1,q=>cases q
 |[x],r1,q=>
  let#[u,rfl,ru]:=Rh r1;cases x with
  |a b=>
   cases ru;let#[xs,hx,q]:=q;let#[its,rv,pl,hz]:=I1.list (.inl hx:jo X.K H1 b xs);refine Dq pl.isList ?_;have el:its.toArray.size=zl xs:=by rw[aS];exact rv.length.symm
   rw[el];refine Bg #[_,be _ rfl,rfl,rfl] ?_;refine#[s1.heap.objs.size,[s1.heap.objs.size],_,_,H1,rfl,I1.ac λb o e=>aA _ e,g12 b _<|zl xs,#[cN _,_,be _ rfl,rfl,by simp[revObj]],λc hc=>?_,λH'=>Rd H' b<|.a xs,_,hA2.ac λH' o=>.inl o,q];have hc:c=s1.heap.objs.size:=by simpa using hc
   subst hc;exact I1.uF (aM _)<|I1.ab.fresh<|aM _
  |_=>cases q
def ady{p pos:Pos}(hg:Gl X "range")(hm:X.mg "range"=S)(ha:PA X (e::es) ta)(he:gp (e::es) X.ab=(W,eval e X.ab)::gp es X.ab)(hpl:(ud pos<|gp es X.ab).any (·.1)=W):GH X tg (.Call (.Name "range" p) (e::es) [] pos) (λO H k=>ta O H λvs H1=>GA vs H1 k):=by
 intro pins s O H k I h;refine Ip<|mR I hg hm boot_range<|cZ (bH (ha pos pins s O H _ I h) λus s1 ⟨vs,H1,I1,r1,q⟩=>?_) he hpl;have q:GA vs H1 k:=q;rcases vs with _|⟨v,_|⟨v2,r⟩⟩
 .exact aE q
 .cases v<;>first|exact aE q|skip
  let#[#[q1,q2],q]:=q;let#[u,rfl,ru]:=Rh r1;let#[t,rfl]:=ru;refine Ol (hokT I1 (by lia) (by lia) q1 q2 ?_);simpa using q
 .cases v<;>exact aE q
end
section
variable{P:bS}{w:bO}{H:Hp}{h h':Heap}{a:Addr}{o:HO}
def adz(x:gM P w H h)(hn:H a=S)(new:fU P w (upd H a o) h a o):gM P w (upd H a o) h:=λb u e=>by
 by_cases hb:b=a
 .subst hb;rw[bZ]at e;cases e;exact new
 .rw[bg hb]at e;exact(x b u e).ab (λc v _ q=>q) (λc q=>by rw[bg<|cj q hn];exact q) (λc xs q=>by rw[bg<|cj q hn];exact q) λc o xs q=>by rw[bg<|cj q hn];exact q
end
noncomputable def nG(cells:B<|Str×Addr):B (Str×je)->B (Str×Addr)->B (Str×Addr)
|[],acc=>acc
|(n,k)::r,acc=>if(k==.free)=L then(match cells.lookup n with|some c=>nG cells r ((n,c)::acc)|none=>nG cells r acc)else nG cells r acc
theorem AH:∀(names:B<|Str×je) (acc:B<|Str×Addr),(∀n,(n,dF)∈names->∃c,env.cells.lookup n=M c)->
 (forIn names acc λ(x:Str×je) (r:B<|Str×Addr)=>(match x with
  |(name,kind)=>if(kind==.free)=L then(do let a <-VT env name;pure (l0 ((name,a)::r)))else pure (l0 r):Sem<|ForInStep<|B<|Str×Addr))=pure (nG env.cells names acc)
|[],acc,_=>rfl
|(n,k)::r,acc,hn=>by
 rw[List.forIn_cons];have hr:=λm hm=>hn m<|aq _ hm;unfold nG;by_cases hk:(k==dF)=L
 .have e:k=.free:=by simpa using hk
  subst e;let#[c,hc]:=hn n aB;have hco:VT env n=pure c:=by unfold VT;rw[hc]
  simp only[hc,hco,beq_self_eq_true,kF];exact AH r _ hr
 .simp only[hk,iN];exact AH r _ hr
def vX(h:∀n,(n,dF)∈scope.names->∃c,env.cells.lookup n=M c):Sx scope env=pure (nG env.cells scope.names []):=by
 have e:=AH scope.names [] h;exact pY (fY (λt=>t >>= λcs=>pure cs) e) rfl
theorem xA:∀(names:B<|Str×je) (acc:B<|Str×Addr),(∀x c,acc.lookup x=M c->cells.lookup x=M c)->∀x c,(nG cells names acc).lookup x=M c->cells.lookup x=M c
|[],acc,h=>h
|(n,k)::r,acc,h=>by
 unfold nG;by_cases hk:(k==dF)=L
 .simp only[hk,kF];cases hc:cells.lookup n with
  |none=>exact xA r acc h
  |some c=>
   refine xA r _ λx d hx=>?_;rw[dB]at hx;cases e:x==n with
   |true=>lia
   |false=>rw[e]at hx;exact h x d hx
 .simp only[hk,iN];exact xA r acc h
theorem rV:∀(names:B<|Str×je) (acc:B<|Str×Addr) (x:Str),((∃c,acc.lookup x=M c)\/((x,dF)∈names/\∃c,cells.lookup x=M c))->∃c,(nG cells names acc).lookup x=M c
|[],acc,x,h=>by
 rcases h with h|⟨h,_⟩
 .exact h
 .cases h
|(n,k)::r,acc,x,h=>by
 unfold nG;by_cases hk:(k==dF)=L
 .simp only[hk,kF];have ek:k=.free:=by simpa using hk
  subst ek;cases hc:cells.lookup n with
  |none=>
   refine rV r acc x ?_;rcases h with h|⟨h,h2⟩
   .exact .inl h
   .rcases aO.mp h with e|h
    .cases e;let#[c,hc2]:=h2;rw[hc]at hc2;cases hc2
    .exact .inr #[h,h2]
  |some c=>
   refine rV r _ x ?_;by_cases e:x=n
   .subst e;exact .inl #[c,by rw[dB];simp]
   .grind
 .simp only[hk,iN];refine rV r acc x ?_;rcases h with h|⟨h,h2⟩
  .exact .inl h
  .grind
def tM{α:Type}{m x:Str}{n c:α}{acc:B<|Str×α}(h:((m,n)::acc).lookup x=M c):(x=m/\c=n)\/((x=m->bu)/\acc.lookup x=M c):=by grind
theorem AI:∀(names:B<|Str×je) (n:Nat) (acc:B<|Str×Addr) (x:Str) (c:Addr),(gc n names acc).lookup x=M c->(n<=c/\(x,dG)∈names)\/((x,dG)∉names/\acc.lookup x=M c)
|[],_,_,_,_,h=>.inr #[(λz=>nomatch z),h]
|(m,k)::r,n,acc,x,c,h=>by
 unfold gc at h;by_cases hk:(k==dG)=L
 .rw[aH hk]at h;have ek:k=.cell:=by simpa using hk
  subst ek;rcases AI r (n+1) _ x c h with⟨h1,h2⟩|⟨h1,h2⟩
  .exact .inl #[by lia,aq _ h2]
  .rcases tM h2 with⟨e1,e2⟩|⟨e1,e2⟩
   .subst e1;subst e2;exact .inl #[aM _,aB]
   .refine .inr #[λz=>?_,e2];rcases aO.mp z with q|q
    .cases q;exact e1 rfl
    .exact h1 q
 .rw[aG hk]at h;rcases AI r n acc x c h with⟨h1,h2⟩|⟨h1,h2⟩
  .exact .inl #[h1,aq _ h2]
  .grind
theorem Fo:∀(names:B<|Str×je) (n:Nat) (acc:B<|Str×Addr) (x:Str),(x,dG)∉names->(gc n names acc).lookup x=acc.lookup x
|[],_,_,_,_=>rfl
|(m,k)::r,n,acc,x,h=>by
 unfold gc;by_cases hk:(k==dG)=L
 .rw[aH hk,Fo r _ _ x λz=>h<|aq _ z,dB];have ek:k=.cell:=by simpa using hk
  have ne:(x==m)=W:=dM.mpr λz=>h (by rw[z,ek];exact aB);rw[ne]
 .rw[aG hk];exact Fo r _ _ x λz=>h<|aq _ z
theorem IM:∀(names:B<|Str×je) (n:Nat) (acc:B<|Str×Addr) (x:Str),(x,dG)∈names\/(∃c,acc.lookup x=M c)->∃c,(gc n names acc).lookup x=M c
|[],_,_,_,h=>by
 rcases h with h|h
 .cases h
 .exact h
|(m,k)::r,n,acc,x,h=>by
 unfold gc;by_cases hk:(k==dG)=L
 .rw[aH hk];refine IM r _ _ x ?_;by_cases e:x=m
  .subst e;exact .inr #[n,by rw[dB];simp]
  .grind
 .rw[aG hk];refine IM r _ _ x ?_;rcases h with h|h
  .grind
  .exact .inr h
theorem IP:∀(names:B<|Str×je) (n:Nat) (acc:B<|Str×Addr),(∀x c,acc.lookup x=M c->c<n)->(∀x y c,acc.lookup x=M c->acc.lookup y=M c->x=y)->∀x y c,(gc n names acc).lookup x=M c->(gc n names acc).lookup y=M c->x=y
|[],_,_,_,h=>h
|(m,k)::r,n,acc,hb,h=>by
 unfold gc;by_cases hk:(k==dG)=L
 .rw[aH hk];refine IP r _ _ (λx c hx=>?_) λx y c hx hy=>?_
  .rcases tM hx with⟨_,e⟩|⟨_,e⟩
   .rw[e];exact iM _
   .exact qN (hb x c e)
  .rcases tM hx with⟨e1,e2⟩|⟨_,e2⟩<;>rcases tM hy with⟨e3,e4⟩|⟨_,e4⟩
   .rw[e1,e3]
   .exact aI (hb y c e4) (by rw[e2];exact cW _)
   .exact aI (hb x c e2) (by rw[e4];exact cW _)
   .exact h x y c e2 e4
 .rw[aG hk];exact IP r n acc hb h
theorem Fp:∀(names:B<|Str×je) (h:Heap) (acc:B<|Str×Addr) (x:Str) (c:Addr),(gc h.objs.size names acc).lookup x=M c->(pushCells h names).IsCell c S\/acc.lookup x=M c
|[],_,_,_,_,e=>.inr e
|(m,k)::r,h,acc,x,c,e=>by
 unfold gc at e;unfold pushCells;by_cases hk:(k==dG)=L
 .rw[aH hk]at e ⊢;have e':(gc (h.push { cls:=.type "cell",data:=.cell S }).objs.size r ((m,h.objs.size)::acc)).lookup x=M c:=by rw[gY];exact e
  rcases Fp r _ _ x c e' with q|q
  .exact .inl q
  .rcases tM q with⟨_,e2⟩|⟨_,e2⟩
   .subst e2;exact .inl #[_,ze r _ _ _<|be _ rfl,rfl]
   .exact .inr e2
 .rw[aG hk]at e ⊢;exact Fp r h acc x c e
def hP1{E:B5->az->Prop}{Q:Env->az->Prop}(hQ:∀h',h'.Ns s.heap.objs.size (λ_=>S)->(∀b o,s.heap.get? b=M o->h'.get? b=M o)->(∀x c,(gc (s.heap.objs.size+1) scope.names closure).lookup x=M c->h'.IsCell c S\/closure.lookup x=M c)->
   Q { scope,locals:=s.heap.objs.size,globals:=env.globals,cells:=gc (s.heap.objs.size+1) scope.names closure,qual:=env.qual,func:=S,code:=env.code,frame:=env.frame,builtins:=env.builtins } { s with heap:=h' }):
  a_ R4 A (As scope env.globals closure [] env.qual S .none<|M env) Q E s:=by
 simp only[As,Dg,kF];refine ak<|wpAny_alloc ?_;refine ak (wpAny_layCells _ (λname kind cells=>by cases hkc:kind==dG<;>simp[hkc]) _ _ _ _ ?_);have hc:=Fp scope.names (s.heap.push { cls:=.type "dict",data:=.dict #[] }) closure;rw[gY]at hc;rw[show({ s with heap:=s.heap.push { cls:=.type "dict",data:=.dict #[] } }:az).heap.objs.size=s.heap.objs.size+1 from gY ..];rw[List.forIn_nil];exact ak<|aN<|aN<|hQ _ ((Heap.Ns.new s.heap<|.type "dict").keeps<|ze _ _) (λb o e=>ze _ _ b o<|aA _ e) hc
def jY(X:Cx)(N:B Str)(scope:fG)(C:Addr)(ais:az)(aiD:Hp)(ex:B Addr):Cx where
 prog:=X.prog
 w:=X.w
 K:=X.K
 mg:=X.mg
 base:=X.base
 A:=X.A
 N:=N
 ais:=ais
 aiD:=aiD
 ab:=compEnvC scope (gc (C+1) scope.names<|nG X.ab.cells scope.names []) C X.ab
 outer:=X.stack
 stack:=X.stack
 ex:=ex
 fn:=λx=>scope.names.lookup x==M .cell
 ac:=X.ac
 pn:=[]
 xe:=λ_ _=>bu
def GJ(X:Cx):Prop:=bu
def PJ(X:Cx)(ifs:B Expr)(t:TT):Prop:=
 ∀(pins:B<|Addr×Obj) (s:az) (O:L2.St) (H:Hp) (Q:Bool->Hp->Prop),L2.Inv X pins O H s->t O H Q->
  a_ (bf X.prog X.w) X.A (forIn ifs L λc r=>if r=L then do let ok <-C8 c X.ab (eval c X.ab);pure (l0 ok)else pure (l0 r)) (TP X pins O Q) X.xe s
def aaO:PJ X [] (λ_ H Q=>Q L H):=λ_ _ _ H _ I h=>wpAny_tests_nil #[H,I,h]
def aaP(h:PT X c t):PJ X [c] t:=λpins s O H Q I q=>wpAny_tests_one<|h pins s O H Q I q
section
variable{prog:bS}{w:bO}{A:cY}{R:C1->az->Prop}{s:az}
def ae1(I:Nat->az->Prop)(turn:∀n s,I n s->a_ (bf prog w) A (Al it) (λr QE=>match r with
   |none=>R (.ok .next) QE
   |some v=>a_ (bf prog w) A (ue target it v) (λ_ QX=>a_ (bf prog w) A (C9 target env v) (λ_ Sh=>
     a_ (bf prog w) A (forIn ifs L λc r=>if r=L then do let ok <-C8 c env (eval c env);pure (l0 ok)else pure (l0 r))
      (λok UE=>if ok=L then a_ (bf prog w) A (eval elt env) (λx YS=>a_ (bf prog w) A (call (.builtin "list.append") [acc,x]) (λ_ YT=>∃m,m<n/\I m YT) (λ_ _=>bu) YS) (λ_ _=>bu) UE
       else ∃m,m<n/\I m UE) (λ_ _=>bu) Sh) (λ_ _=>bu) QX) (λ_ _=>bu) QE) (λ_ _=>bu) s)(n:Nat)(h:I n s):lK (bf prog w) A (.compLoop (.ListComp elt [#[target,iter,ifs,0]] scope pos) 0 it acc env) R s:=by
 refine codeAny_loop rfl I (λn s hI=>?_) n h;show a_ _ A ((compTurn (.ListComp elt [#[target,iter,ifs,0]] scope pos) 0 it acc env).onRaise λx=>do noteFrame x env;theTreesLotGoes x) _ _ s;refine wpAny_noted<|wpAny_noRaise ?_;rw[compTurn_list];refine ak<|BA<|ak<|bH (turn n s hI) λr QE aiz=>?_;cases r with
 |none=>exact aN aiz
 |some v=>
  refine ak<|bH aiz λ_ QX UG=>ak<|bH UG λ_ Sh Vi=>ak<|bH Vi λok UE YU=>?_;cases ok with
  |false=>exact aN #[rfl,YU]
  |true=>exact ak<|ak<|bH YU λx YS aiV=>ak<|bH aiV λ_ YT aiW=>aN<|aN #[rfl,aiW]
end
structure Zv (Cm:Cx->Prop) (P:bS) (w:bO) (K:ao) (tg:Expr) (acv:It) (fp:B Addr) (it:Addr) (tn:Nat->Heap->Prop):Prop where
 obj:∀i h,tn i h->∀b∈fp,∃o,h.get? b=M o/\∀v,o.data≠.cell v
 keep:∀i h h',tn i h->(∀b∈fp,∀o,h.get? b=M o->h'.get? b=M o)->tn i h'
 item:∀(X:Cx),X.prog=P->X.w=w->X.K=K->Cm X->∀(i:Nat) (pins:B (Addr×Obj)) (s:az) (O:L2.St) (H:Hp) (E:B5->az->Prop),L2.Inv X pins O H s->(∀b∈fp,tu X pins H b)->tn i s.heap->acv.go i H->
  a_ (bf P w) X.A (Al (.ref it)) (λr s1=>∃u,r=M u /\
   a_ (bf P w) X.A (ue tg (.ref it) u) (λ_ s2=>∃x H',L2.Inv X pins O H' s2/\acb x u/\acv.yld i H x H'/\tn (i+1) s2.heap/\∀b∈fp,H' b=S) E s1) E s
 done:∀(X:Cx),X.prog=P->X.w=w->X.K=K->Cm X->∀(i:Nat) (pins:B (Addr×Obj)) (s:az) (O:L2.St) (H:Hp) (E:B5->az->Prop),L2.Inv X pins O H s->(∀b∈fp,tu X pins H b)->tn i s.heap->acv.stop i H->
  a_ (bf P w) X.A (Al (.ref it)) (λr s1=>r=S/\L2.Inv X pins O H s1) E s
 self:∀(A:cY) (i:Nat) (s:az) (Q:B5->az->Prop) (E:B5->az->Prop),tn i s.heap->Q (.ref it) s->a_ (bf P w) A (xZ (.ref it)) Q E s
def Zw{w:bO}{K:ao}{tg:Expr}{acv:It}{fp:B Addr}{it:Addr}{tn:Nat->Heap->Prop}(T:SN P w K tg acv fp it tn):Zv (λX=>X.ac=L) P w K tg acv fp it tn:=#[T.obj,T.keep,T.item,T.done,T.self]
noncomputable abbrev uO(its:B B5)(n:Nat):Obj:={ cls:=.type "list",data:=.seq its.toArray n }
section
variable{X:Cx}{pins:B (Addr×Obj)}{O:L2.St}{H:Hp}{QX:az}{tgt iter elt:Expr}{ifs:B Expr}{scope:fG}{pos:Pos}{N:B Str}{σ':L2.St}{it:Addr}{fp:B Addr}{tn:Nat->Heap->Prop}{acv:It}
 {ok:Hp->Prop}{items:B R6}{g:TG}{cond:TT}{te:TE}{k:B V->Hp->Prop}{E:B5->az->Prop}{RR:B5->Addr->C1->az->Prop}
def GK{Cm:Cx->Prop}(hc:∀(C:Addr) (ais:az) (ex:B Addr),(∀b o,QX.heap.get? b=M o->ais.heap.get? b=M o)->(∀b∈ex,QX.heap.objs.size<=b\/b∈fp)->Cm (jY X N scope C ais H ex))(I:L2.Inv X pins O H QX)(T:Zv Cm X.prog X.w X.K tgt acv fp it tn)(st:tn 0 QX.heap)(hf:∀b∈fp,tu X pins H b)(hJ:tL acv ok items)(hcell:∀y∈scope.names,y.2=.free->(y.1,dG)∉scope.names)(hkind:scope.kind=.function)(hfree:∀n,(n,dF)∈scope.names->∃c,X.ab.cells.lookup n=M c)(hlen:σ'.length=N.length)(hσ:∀(i:Nat) (x:Str) (v:V),N[i]?=M x->σ'[i]?=M (M v)->(x,dF)∈scope.names/\(qI scope X.ab).names.lookup x≠M .local/\∃c u,X.ab.cells.lookup x=M c/\acb v u/\QX.heap.IsCell c (M u))(srZ:∀x,(qI scope X.ab).names.lookup x=M .cell\/(qI scope X.ab).names.lookup x=M .free->(x,dF)∈scope.names\/(x,dG)∈scope.names)(hg:∀(C:Addr) (ais:az) (ex:B Addr),Cm (jY X N scope C ais H ex)->PG (jY X N scope C ais H ex) tgt g)(ht:∀(C:Addr) (ais:az) (ex:B Addr),Cm (jY X N scope C ais H ex)->PJ (jY X N scope C ais H ex) ifs cond)(he:∀(C:Addr) (ais:az) (ex:B Addr),Cm (jY X N scope C ais H ex)->PE (jY X N scope C ais H ex) elt te)(h:tG ok g cond te k items [] σ' H)(hRR:∀D C s' H2 vs,H2 D=S->k vs H2->L2.Inv X pins O (upd H2 D<|.a vs) s'->tu X pins (upd H2 D<|.a vs) C->(∃m,s'.heap.Ns C m)->RR (.ref D) C (.ok .next) s'):a_ (bf X.prog X.w) X.A (newList []) (λacc Sh=>a_ (bf X.prog X.w) X.A (As scope X.ab.globals (nG X.ab.cells scope.names []) [] X.ab.qual S .none<|M X.ab) (λcenv UE=>
   lK (bf X.prog X.w) X.A (.compStart (.ListComp elt [#[tgt,iter,ifs,0]] scope pos) 0 (.ref it) acc { cenv with scope:=qI scope X.ab }) (RR acc cenv.locals) UE) E Sh) E QX:=by
 refine jm<|hP1 λaiz Um Uo Up=>?_;dsimp only at Um Uo Up ⊢;generalize UH:({ QX with heap:=QX.heap.push { cls:=.type "list",dict:=S,data:=.seq ([]:B B5).toArray } }:az)=ais at Um Uo Up ⊢;have Uq:ais.heap=QX.heap.push { cls:=.type "list",dict:=S,data:=.seq ([]:B B5).toArray }:=by rw[<-UH]
 have hH2:=Uq.symm;have eos:ais.os=QX.os:=by rw[<-UH]
 have egn:ais.gens=QX.gens:=by rw[<-UH]
 have tget:ais.toks=QX.toks:=by rw[<-UH]
 rw[hH2]at Um Uo Up ⊢;have hsz:ais.heap.objs.size=QX.heap.objs.size+1:=by rw[Uq,gY]
 generalize hD:QX.heap.objs.size=D at *;generalize hC:ais.heap.objs.size=C at *;have hDC:D≠C:=by rw[hsz];exact bI<|iM _
 have up:∀b o,QX.heap.get? b=M o->ais.heap.get? b=M o:=λb o e=>by rw[Uq];exact aA _ e
 have Rm:∀b o,QX.heap.get? b=M o->b<D:=λb o e=>by rw[<-hD];exact aQ e
 have up1:∀b o,ais.heap.get? b=M o->aiz.get? b=M o:=Uo;have aiX:ais.heap.get? D=M (uO [] 0):=by rw[Uq,<-hD];exact be _ rfl
 have WD:∀b∈fp,b<D:=λb hb=>by let#[o,e,_]:=T.obj 0 _ st b hb;exact Rm b o e
 have YY:∀x c,X.ab.cells.lookup x=M c->c<D:=λx c e=>by let#[v,q]:=I.cell x c e;let#[o,ho,_]:=q;exact Rm c o ho
 have TH:D<C:=by rw[hsz];exact iM _
 have Ym:∀b∈fp,b≠C:=λb hb=>bI<|kR (WD b hb) TH;have Yn:∀b∈fp,b≠D:=λb hb=>bI<|WD b hb;have WH:∀b,D<=b->H b=S:=λb hb=>I.ab.fresh (by rw[hD];exact hb)
 let ex:=D::fp
 let X':=jY X N scope C ais H ex
 have QW:Cm X':=hc C ais ex up λb hb=>(aO.mp hb).elim (λz=>.inl<|x_ z.symm) .inr;have U5:∀x c,(nG X.ab.cells scope.names []).lookup x=M c->X.ab.cells.lookup x=M c:=xA _ _ (λx c e=>by simp at e);have Vw:∀x c,X'.ab.cells.lookup x=M c->C<c\/X.ab.cells.lookup x=M c:=λx c e=>by
  rcases AI _ _ _ _ _ e with⟨q,_⟩|⟨_,q⟩
  .exact .inl q
  .exact .inr (U5 x c q)
 have g9:∀x c,X'.ab.cells.lookup x=M c->c≠D:=λx c e z=>by
  rcases Vw x c e with q|q
  .rw[z]at q;exact cW _<|kR q TH
  .exact bI (YY x c q) z
 have gm:∀x c,X'.ab.cells.lookup x=M c->∀b∈fp,c≠b:=λx c e b hb z=>by
  rcases Vw x c e with q|q
  .rw[z]at q;exact cW _<|kR (kR q<|WD b hb) TH
  .exact(hf b hb).2.2.2.2.1 x c q z
 have q9:∀b∈frs X.stack,b<D:=λb hb=>by
  rcases aO.mp (I.BS b hb)with e|hb
  .rw[e,<-hD];exact I.lt
  .let#[_,o,ho,_]:=I.uE.mem hb;exact Rm b o ho
 have ok':X'.Ok:=by
  refine#[I.ok.mod,?_,I.ok.glob,I.ok.ab,x_ hC,IP _ _ _ (λx c e=>qN<|kR (YY x c<|U5 x c e) TH) λx y c h1 h2=>I.ok.inj x y c (U5 x c h1)<|U5 y c h2,λx hx=>?_,λx c hx=>?_,I.ok.hd,I.ok.frames,.inl rfl,λb hb=>?_,λb o e=>?_,?_,λb o e hb=>?_,λb hb z=>?_,?_,#[I.Iz,I.tb]]
  .exact hkind
  .refine IM _ _ _ x ?_;rcases srZ x hx with q|q
   .let#[c,hc']:=hfree x q;exact .inr<|rV _ _ x<|.inr #[q,c,hc']
   .exact .inl q
  .intro hx2;have hm:(x,dG)∈scope.names:=dN (by simpa using(show(scope.names.lookup x==M .cell)=L from hx));rcases AI _ _ _ _ _ hx2 with⟨q,_⟩|⟨q,_⟩
   .show ais.heap.objs.size<=c;rw[hC];exact fO q
   .exact aI hm q
  .rcases aO.mp hb with e|hb
   .subst e;exact#[hDC,g9]
   .refine#[?_,λx c e=>gm x c e b hb];exact Ym b hb
  .exact#[up b o (I.bs b o e).1,(I.bs b o e).2]
  .show X.base.objs.size<=ais.heap.objs.size;refine cu (cu I.ok.bsz I.sz) ?_;rw[hD,hC];exact fO TH
  .have hbD:b<D:=Rm b o<|I.bk b o e;rcases aO.mp hb with q|hb
   .exact bI hbD q
   .rcases(hf b hb).2.2.2.1 with q|q
    .exact I.ok.noex b o e q
    .have h1:=aQ (I.ok.bs b o e).1;exact aI (bX h1 q)<|cW _
  .rcases aO.mp hb with q|hb
   .exact bI (q9 b z) q
   .let#[_,f1,f2,_]:=hf b hb;rcases aO.mp (I.BS b z)with q|q
    .exact f1 q
    .exact f2 q
  .have hfr:=I.stack;have td2:∀l:B Env,QX.heap.FunFrames X.base l->ais.heap.FunFrames X.base l:=by
    intro l;induction l with
    |nil=>intro _;trivial
    |cons env r ih=>
     intro hl;let#[hk,#[Q9,o,hf',hn,ho,hd],hr]:=hl;exact#[hk,#[Q9,o,hf',hn,up Q9 o ho,hd],ih hr]
   exact td2 _ hfr
 have WE:∀(H':Hp) (its:B B5) (n:Nat),(∀b∈fp,H' b=S)->∀b∈fp,tu X' [(D,uO its n)] H' b:=λH' its n hn b hb=>by
  refine#[hn b hb,?_,?_,.inl<|aq _ hb,λx c e=>gm x c e b hb,λp hp=>?_]
  .exact Ym b hb
  .intro z;let#[_,f1,f2,_]:=hf b hb;rcases aO.mp (I.BS b z)with q|q
   .exact f1 q
   .exact f2 q
  .have hp:p∈[(D,uO its n)]:=hp;have e:p=(D,uO its n):=by simpa using hp
   subst e;exact gi<|Yn b hb
 have mC:∀(s:az) (H':Hp) (its:B B5) (n:Nat),s.heap.get? D=M (uO its n)->H' D=S->∀p∈[(D,uO its n)],s.heap.get? p.1=M p.2/\H' p.1=S/\p.1≠X'.ab.locals/\p.1∉X'.fs/\∀v,p.2.data≠.cell v:=by
  intro s H' its n e hn p hp;have q:p=(D,uO its n):=by simpa using hp
  subst q;refine#[e,hn,hDC,λz=>?_,λv z=>nomatch z];exact cW _<|q9 D z
 let Iv:Nat->az->Prop:=λn s=>∃(i:Nat) (acc:B V) (its:B B5) (m:Nat) (σ1:L2.St) (H1:Hp),n=items.length+1-i/\i<=items.length/\L2.Inv X' [(D,uO its m)] σ1 H1 s/\tn i s.heap/\(∀b∈fp,H1 b=S)/\bN acc its/\acc.length<=aj /\
  tG ok g cond te k (items.drop i) acc σ1 H1
 have adt:∀tk,L2.Inv X' [(D,uO [] 0)] σ' H { ais with heap:=aiz,toks:=tk }:=λtk=>by
  refine#[ok',rfl,by show qG ais.gens;rw[egn];exact I.bare,Un.ac up1,#[_,Um,λi x v h1 h2 h3=>?_],λx c e=>?_,WH C<|fO TH,λx c e=>?_,λp hp=>?_,?_,hlen]
  .let#[hx,hnl,c,u,hcu,ru,ruC]:=hσ i x v h1 h2;refine#[u,ru,.inr #[?_,?_]]
   .rcases h3 with q|q|q
    .exact aI q hnl
    .exact .inl q
    .exact .inr q
   .let#[c',hc']:=rV (cells:=X.ab.cells) scope.names [] x<|.inr #[hx,c,hcu];have e1:=U5 x c' hc';rw[hcu]at e1;cases e1;let#[o,ho,hd]:=ruC;exact#[c,(Fo _ _ _ x<|hcell _ hx rfl).trans hc',o,up1 _ _<|up _ _ ho,hd]
  .rcases Up x c e with q|q
   .exact#[S,q]
   .let#[v,o,ho,hd]:=I.cell x c<|U5 x c q;exact#[v,o,up1 _ _<|up _ _ ho,hd]
  .rcases Vw x c e with q|q
   .exact WH c (fO<|kR TH q)
   .exact I.freeC x c q
  .exact mC { ais with heap:=aiz,toks:=tk } H [] 0 (up1 _ _ aiX) (WH D<|aM _) p hp
  .have hk:gM X.prog X.w H aiz:=I.ab.ac λb u e=>up1 b u<|up b u e;exact hk
 have loop:∀tk,lK (bf X.prog X.w) X.A (.compLoop (.ListComp elt [#[tgt,iter,ifs,0]] scope pos) 0 (.ref it) (.ref D) X'.ab) (RR (.ref D) C) { ais with heap:=aiz,toks:=tk }:=λtk=>by
  refine ae1 Iv ?_ (items.length+1) #[0,[],[],0,σ',H,rfl,cN _,adt tk,T.keep 0 _ _ st λb hb o e=>up1 b o<|up b o e,λb hb=>(hf b hb).1,.nil,cN _,by simpa using h];intro n s z0;let#[i,acc,its,m,σ1,H1,rfl,hi,J1,st1,S5,rv,hz,q]:=z0;by_cases hlt:i<items.length
  .rw[iT hlt]at q;let#[hok,hz1,q]:=q;have ei:items[i]?=M items[i]:=ai hlt;refine bH (T.item X' rfl rfl rfl QW i _ s σ1 H1 _ J1 (WE H1 its m S5) st1<|hJ.go i H1 _ hok ei) λr s4 z0=>?_;let#[u,hr,h4]:=z0;subst hr;refine bH h4 λ_ s5 z0=>?_;let#[x,H5,I5,r5,y5,U1,WG]:=z0;have VQ:=I5.ax (WE H5 its m WG)<|T.obj _ _ U1;refine bH (hg C ais ex QW _ s5 σ1 H5 x u _ VQ r5<|hJ.yld i H1 _ x H5 hok ei y5 _ q) λ_ s6 z0=>?_;let#[SY,H6,I6,q6]:=z0;refine bH (ht C ais ex QW _ s6 SY H6 _ I6 q6) λb s7 z0=>?_;let#[H7,I7,q7]:=z0;have Zh:∀{sI:L2.St}{H8:Hp}{s8:az},L2.Inv X' ([(D,uO its m)]++BU fp s5.heap) sI H8 s8->tn (i+1) s8.heap/\(∀b∈fp,H8 b=S):=λ{sI H8 s8} I8=>by
    refine#[T.keep _ _ _ U1 λb hb o e=>(I8.pin (b,o)<|aR _<|aR _<|wL hb e).1,λb hb=>?_];let#[o,e,_]:=T.obj _ _ U1 b hb;exact(I8.pin (b,o)<|aR _<|aR _<|wL hb e).2.1
   cases b with
   |false=>
    have q7:=(aG bY)▸q7;let#[t1,t2]:=Zh I7;exact#[items.length+1-(i+1),by omega,i+1,acc,its,m,SY,H7,rfl,hlt,I7.Ay,t1,t2,rv,hz,by simpa using q7]
   |true=>
    have q7:te SY H7 (λy H4=>tG ok g cond te k (items.drop<|i+1) (acc++[y]) SY H4):=by simpa using q7
    refine bH (he C ais ex QW _ s7 SY H7 _ I7 q7) λyv s8 z0=>?_;let#[y,H8,I8,hok2,hcl2]:=z0;let#[t1,t2]:=Zh I8;have hD8:=I8.pin (D,uO its m)<|aR _<|cz _<|aK.mpr rfl;let#[e8,n8,_]:=hD8;have hl:=rv.length;refine nO F.slot_list_append #[_,e8,rfl] F.entry_list_append (F.args_list_append_2 _ _) (Ej D its.toArray m yv (by rw[aS];lia)) #[e8,?_];have I9:L2.Inv X' [] SY H8 s8:=I8.w_ λp hp=>nomatch hp
    have kk:∀b o,b≠D->s8.heap.get? b=M o->(s8.heap.update D<|c8 λx=>x.push yv).get? b=M o:=λb o hb e=>(mz _ _<|gi hb).trans e;have x9:L2.Inv X' [] SY H8 { s8 with heap:=s8.heap.update D<|c8 λx=>x.push yv,toks:=s8.toks }:=
     I9.am kk n8 hDC (.inl aB) g9 λp hp=>nomatch hp
    have e9:=Gc e8 λx=>x.push yv;rw[List.push_toArray]at e9;obtain⟨m',e10⟩:∃m',({ s8 with heap:=s8.heap.update D<|c8 λx=>x.push yv,toks:=s8.toks }:az).heap.get? D=M (uO (its++[yv]) m'):=#[_,e9];refine#[items.length+1-(i+1),by omega,i+1,acc++[y],its++[yv],m',SY,H8,rfl,hlt,x9.w_<|mC _ H8 _ m' e10 n8,?_,t2,rv.append #v[hok2],by rw[aZ,gQ];lia,hcl2];exact T.keep _ _ _ t1 λb hb o e=>kk b o (Yn b hb) e
  .rw[jG<|by omega]at q;let#[hok,q]:=q;refine bH (T.done X' rfl rfl rfl QW i _ s σ1 H1 _ J1 (WE H1 its m S5) st1 (hJ.stop i H1 hok<|by omega)) λr s4 ⟨hr,I4⟩=>?_;subst hr;let#[e4,n4,_]:=I4.pin (D,uO its m)<|aR _<|aK.mpr rfl;let#[ws',hnC,_]:=I4.loc;have hCn:H1 C=S:=I4.free;have Uv:∀b,b<D->b∉fp->b∉X'.ex:=λb hb hn z=>by
    rcases aO.mp z with q|q
    .exact bI hb q
    .exact hn q
   have V7:gM X.prog X.w (upd H1 D<|.a acc) s4.heap:=adz I4.ab n4 #[hz,its,m,rv,e4];have hU:Un (frs X.stack) fp H (upd H1 D<|.a acc) QX.heap s4.heap:=by
    have b4:=I4.base;refine#[λb o e n hb hx=>?_,λb o e n hb hx=>?_,λb o e n hx=>?_,λb o e hx=>?_,λb xs e=>?_,λb o u e=>?_,λb ps e=>?_]
    .exact b4.keep b o (up b o e) n hb (Uv b (Rm b o e) hx)
    .exact b4.slot b o (up b o e) n hb (Uv b (Rm b o e) hx)
    .rw[bg<|bI<|Rm b o e];exact b4.free b o (up b o e) n<|Uv b (Rm b o e) hx
    .exact b4.there b o (up b o e) (Uv b (Rm b o e) hx)
    .have z:=b4.tups b xs e;rw[bg<|cj z n4];exact z
    .have z:=b4.aD b o u e;rw[bg<|cj z n4];exact z
    .let#[more,z]:=b4.tbls b ps e;exact#[more,by rw[bg<|cj z n4];exact z]
   have I5:L2.Inv X pins O (upd H1 D<|.a acc) s4:=I.call' (ch:=fp) (I4.os.trans eos) hU V7 I4.bare λb hb=>by
    let#[f0,f1,f2,f3,f4,f5]:=hf b hb;exact#[f3,f1,f4,f5]
   refine hRR D C s4 H1 acc n4 q I5 ?_ #[ws',hnC];have hle:QX.heap.objs.size<=C:=by rw[hD];exact fO TH
   have z:=I.uF (H':=upd H1 D<|.a acc) (b:=C) hle (by rw[bg<|gi hDC];exact hCn);exact z
 subst UH;exact codeAny_compStart_list (loop _)<|T.self _ 0 _ _ _ (T.keep 0 _ _ st λb hb o e=>up1 b o<|up b o e)<|loop _
end
noncomputable def gB(N nl:B Str)(fr:B Nat):B Str:=nl++fr.map λi=>N.getD i Dc
noncomputable def tN(nl:B Str)(fr:B Nat)(O:L2.St):L2.St:=nl.map (λ_=>S)++fr.map λi=>O.getD i S
structure vB (sc:fG) (N:B Str) (scope:fG) (nl:B Str) (fr:B Nat):Prop where
 kind:scope.kind=.function
 cell:∀y∈scope.names,y.2=.free->(y.1,dG)∉scope.names
 names:∀x∈scope.names,x.2=.local->scope.names.lookup x.1=M .local
 free:∀n,(n,dF)∈scope.names->sc.names.lookup n=M .cell\/sc.names.lookup n=M .free
 fr:∀i∈fr,∃x,N[i]?=M x/\scope.names.lookup x=M .free
def B7(x:Str)(h:(qI scope env).names.lookup x=M .cell\/(qI scope env).names.lookup x=M .free):(x,dF)∈scope.names\/(x,dG)∈scope.names:=by
 have key:∃k,(x,k)∈(qI scope env).names/\(k=.cell\/k=.free):=by
  rcases h with h|h
  .exact#[_,dN h,.inl rfl]
  .exact#[_,dN h,.inr rfl]
 let#[k,hm,hk]:=key;unfold qI at hm;simp only[bF]at hm;let#[#[n,k0],h0,e]:=hm;simp only at e;split at e
 .lia
 .lia
theorem B8{env:Env}:∀{names:B<|Str×je}{x:Str},names.lookup x=M .free->
 (names.map λ(n,k)=>if(k==dF&&env.scope.kind==.function&&env.kindOf n==M .cell)then(n,dG)else(n,k)).lookup x≠M .local
|[],_,h=>by simp at h
|(n,k)::r,x,h=>by
 have ih:=@B8 env r x;show oG x ((if(k==dF&&env.scope.kind==.function&&env.kindOf n==M .cell)=L then(n,dG)else(n,k))::_)≠_;cases hx:x==n with
 |true=>
  simp only[dB,hx]at h;cases h;by_cases hc:(dF==dF&&env.scope.kind==.function&&env.kindOf n==M .cell)=L
  .rw[aH hc];simp only[dB,hx];decide
  .rw[aG hc];simp only[dB,hx];decide
 |false=>
  simp only[dB,hx]at h;by_cases hc:(k==dF&&env.scope.kind==.function&&env.kindOf n==M .cell)=L
  .rw[aH hc];simp only[dB,hx];exact ih h
  .rw[aG hc];simp only[dB,hx];exact ih h
section
variable{X:Cx}{tgt iter elt:Expr}{ifs:B Expr}{scope:fG}{pos:Pos}{nl:B Str}{fr:B Nat}{wi:V_}{g:TG}{cond:TT}{te:TE}
def AJ(Q7:vB X.ab.scope X.N scope nl fr)(I:L2.Inv X pins O H s)(i:Nat)(x:Str)(v:V)(h1:(gB X.N nl fr)[i]?=M x)(h2:(tN nl fr O)[i]?=M (M v)):(x,dF)∈scope.names/\(qI scope X.ab).names.lookup x≠M .local/\∃c u,X.ab.cells.lookup x=M c/\acb v u/\s.heap.IsCell c (M u):=by
 unfold gB at h1;unfold tN at h2;by_cases hi:i<zl nl
 .rw[bJ (by simpa using hi),aJ,ai hi]at h2;cases h2
 .rw[eG<|by lia]at h1;rw[eG (by simp;lia)]at h2;rw[aJ]at h1 h2;rw[aa]at h2;cases e:fr[i-zl nl]? with
  |none=>rw[e]at h1;cases h1
  |some j=>
   rw[e]at h1 h2;have h1:=cE h1;have h2:=cE h2;let#[y,hy,hf]:=Q7.fr j<|dz e;have exy:y=x:=by
    rw[<-h1];simp[hy]
   subst exy;have hσ:O[j]?=M (M v):=by
    cases q:O[j]? with
    |none=>simp[q]at h2
    |some o=>
     simp[q]at h2;rw[h2]
   have hm:=dN hf;refine#[hm,B8 hf,?_];let#[m,hn,hl]:=I.loc;have hk:=Q7.free y hm;let#[u,ru,l]:=hl j y v hy hσ (by rcases hk with q|q;exact .inr<|.inl q;exact .inr<|.inr q);rcases l with⟨l,_⟩|⟨_,c,hc,hcell⟩
   .exfalso;have l:X.ab.scope.names.lookup y=M .local:=l;rcases hk with q|q<;>rw[q]at l<;>cases l
   .exact#[c,u,hc,ru,hcell]
def sC(Q7:vB X.ab.scope X.N scope nl fr)(I:L2.Inv X pins O H s):∀n,(n,dF)∈scope.names->∃c,X.ab.cells.lookup n=M c:=λn hn=>I.ok.has n<|Q7.free n hn
def aaQ(hc:X.ac=L)(Q7:vB X.ab.scope X.N scope nl fr)(hi:GH X tgt iter wi)(hs:∀x,mO iter X.ab x=pure x)(hg:∀(C:Addr) (ais:az) (H:Hp) (ex:B Addr),PG (jY X (gB X.N nl fr) scope C ais H ex) tgt g)(ht:∀(C:Addr) (ais:az) (H:Hp) (ex:B Addr),PJ (jY X (gB X.N nl fr) scope C ais H ex) ifs cond)(he:∀(C:Addr) (ais:az) (H:Hp) (ex:B Addr),PE (jY X (gB X.N nl fr) scope C ais H ex) elt te):PE X (.ListComp elt [#[tgt,iter,ifs,0]] scope pos) (λO H Q=>wi O H λok items H1=>tG ok g cond te (λvs H2=>∀p,H2 p=S->Q (.a p) (upd H2 p<|.a vs)) items [] (tN nl fr O) H1):=by
 intro pins s O H Q I h;rw[eval_ListComp];refine yg rfl hs (vX<|sC Q7 I) Q7.kind Q7.names<|bH (hi pins s O H _ I h) λv QE aiz=>bH aiz λitv QX UG=>?_;let#[it,fp,tn,acv,H2,e,I2,T,st,hf,ok,items,hJ,hk]:=UG;subst e;refine GK (λ_ _ _ _ _=>hc) I2 (Zw T) st hf hJ Q7.cell Q7.kind (sC Q7 I2) ?_ (AJ Q7 I2) B7
  (λC ais ex _=>hg C ais H2 ex) (λC ais ex _=>ht C ais H2 ex) (λC ais ex _=>he C ais H2 ex) hk λD C s' H3 vs hD q I3 f3 hn=>?_
 .unfold tN gB;simp
 .let#[m,hn]:=hn;let#[f0,f1,f2,f3,f4,f5]:=f3;refine#[m,hn,λh' U8=>#[.a D,_,I3.am (λb o hb e=>U8.extBut b o hb e) f0 f1 f3 f4 f5,rfl,q D hD]]
def aaR(hc:X.ac=L)(hN:X.N.Nodup)(hiy:X.N[i]?=M y)(hy:X.ab.scope.names.lookup y=M .local)(Q7:vB X.ab.scope X.N scope nl fr)(hi:GH X tgt iter wi)(hs:∀x,mO iter X.ab x=pure x)(hsw:vL (.ListComp elt [#[tgt,iter,ifs,0]] scope pos) (M<|.Name y py) spos.line X.ab=pure L)(hg:∀(C:Addr) (ais:az) (H:Hp) (ex:B Addr),PG (jY X (gB X.N nl fr) scope C ais H ex) tgt g)(ht:∀(C:Addr) (ais:az) (H:Hp) (ex:B Addr),PJ (jY X (gB X.N nl fr) scope C ais H ex) ifs cond)(he:∀(C:Addr) (ais:az) (H:Hp) (ex:B Addr),PE (jY X (gB X.N nl fr) scope C ais H ex) elt te):PS X (.Assign [.Name y py] (.ListComp elt [#[tgt,iter,ifs,0]] scope pos) spos) (λD O H=>wi O H λok items H1=>tG ok g cond te (λvs H2=>∀p,H2 p=S->D.nx (O.set i<|M<|.a p) (upd H2 p<|.a vs)) items [] (tN nl fr O) H1):=by
 intro pins s O H D I h;rw[PySem.exec_Assign_Name_used _ _ _ _ hsw];refine ak<|BA<|ak ?_;refine ak (gW (yg rfl hs (vX<|sC Q7 I) Q7.kind Q7.names
  (bH (hi pins s O H _ I h) λv QE aiz=>bH aiz λitv QX UG=>?_)) (λ_ s' hq=>aN<|aN hq) λ_ _ e=>e)
 let#[it,fp,tn,acv,H2,e,I2,T,st,hf,ok,items,hJ,hk]:=UG;subst e;refine GK (λ_ _ _ _ _=>hc) I2 (Zw T) st hf hJ Q7.cell Q7.kind (sC Q7 I2) ?_ (AJ Q7 I2) B7
  (λC ais ex _=>hg C ais H2 ex) (λC ais ex _=>ht C ais H2 ex) (λC ais ex _=>he C ais H2 ex) hk λDD C s' H3 vs hD q I3 f3 hn=>?_
 .unfold tN gB;simp
 .let#[m,hn]:=hn;let#[f0,f1,f2,f3,f4,f5]:=f3;refine Eg<|JL (v:=.a DD) I3 hN hiy (.inl hy) rfl (λs'' I4 hsame=>?_)<|.inr hy;let#[a,hs',ha]:=hsame;have hCa:C≠a:=by
   rcases ha with q|q
   .rw[q];exact f1
   .exact λz=>f4 y a q z.symm
  refine#[m,hn.sameBut hs' hCa,λh' U8=>#[_,_,I4.am (λb o hb e=>U8.extBut b o hb e) f0 f1 f3 f4 f5,q DD hD]]
end
structure Tab where
 N:B Str
 sc:fG
 gl:B Str
 bn:B Str
 own:Str->Bool
 ac:Bool
 semi:Bool
noncomputable def WQ(sc:fG)(x:Str):Bool:=match sc.names.lookup x with
|some .local=>L
|some .cell=>L
|some .free=>L
|_=>W
noncomputable def WR(T:Tab)(x:Str):Bool:=match T.sc.names.lookup x with
|some .local=>L
|some .cell=>T.own x
|_=>W
noncomputable def sE(sc:fG)(x:Str):Bool:=decide<|sc.names.lookup x=M .globalImplicit
noncomputable def acx:Expr->Bool
|.Starred ..=>W
|_=>L
def cT(es:B Expr):Bool:=es.all acx
noncomputable def wR:Expr->Bool
|.Call ..=>W
|_=>L
noncomputable def AK:Expr->Bool
|.Slice ..=>W
|_=>L
noncomputable def MO:Expr->Bool
|.Set ..=>W
|_=>L
noncomputable def uP:Expr->Bool
|.ListComp ..=>W
|.SetComp ..=>W
|.DictComp ..=>W
|_=>L
noncomputable def notTuple:Expr->Bool
|.Tuple ..=>W
|.List ..=>W
|_=>L
noncomputable def YA:V->Const->Bool
|.b i,.int j=>decide<|i=j
|.c a,.bool b=>decide<|a=b
|.e a,.str b=>decide<|a=b
|.d,.none=>L
|_,_=>W
noncomputable def JX(scope sc:fG):fG:=
 { scope with names:=scope.names.map λ(n,k)=>if(k==.free&&sc.kind==.function&&sc.names.lookup n==M .cell)then(n,.cell)else(n,k) }
def LJ(T:Tab)(scope:fG)(nl:B Str)(fr:B Nat):Tab:={ N:=gB T.N nl fr,sc:=JX scope T.sc,gl:=T.gl,bn:=T.bn,own:=(λx=>scope.names.lookup x==M .cell),ac:=T.ac,semi:=T.semi }
def sF(sc:fG)(N:B Str)(scope:fG)(nl:B Str)(fr:B Nat):Bool:=
 decide (scope.kind=.function)&&scope.names.all (λy=>decide<|y.2=.free->(y.1,dG)∉scope.names)&&scope.names.all (λx=>decide<|x.2=.local->scope.names.lookup x.1=M .local)
 && scope.names.all (λx=>decide<|x.2=.free->sc.names.lookup x.1=M .cell\/sc.names.lookup x.1=M .free)&&fr.all (λi=>match N[i]? with|some x=>decide (scope.names.lookup x=M .free)|none=>W)
 && decide (gB N nl fr).Nodup
def Rb(T:Tab)(scope:fG)(x:Str)(fr:B Nat):Tab:={ N:=x::gB T.N [] fr,sc:=scope,gl:=[],bn:=T.bn,own:=(λ_=>W),ac:=L,semi:=W }
def xB(sc:fG)(N:B Str)(scope:fG)(x:Str)(fr:B Nat):Bool:=
 sF sc N scope [] fr&&!scope.isCoroutine&&!scope.isGenerator&&decide (scope.names.lookup x=M .local)&&scope.names.all (λy=>decide<|y.2≠.cell)&&decide (x∉gB N [] fr)&&decide (x=("i":Str))
noncomputable def cP(e:Expr):LD (Expr×B Expr×B xj×Pos):=match e with
|.Call f as ks p=>M (f,as,ks,p)
|_=>S
noncomputable def nP(e:Expr):LD (Str×Pos):=match e with
|.Name x p=>M (x,p)
|_=>S
noncomputable def aP(e:Expr):LD (Expr×Str×Pos):=match e with
|.Attribute l y p=>M (l,y,p)
|_=>S
noncomputable def mP(e:Expr):LD (sR×Expr×fG×Pos):=match e with
|.Lambda a b s p=>M (a,b,s,p)
|_=>S
noncomputable def PK{α:Type}(l:B α):LD α:=match l with
|[c]=>M c
|_=>S
noncomputable def B9{α:Type}(l:B α):LD Unit:=match l with
|[]=>M ()
|_=>S
noncomputable def Wv{α:Type}(l:LD α):LD Unit:=match l with
|none=>M ()
|_=>S
def Zx(e:Expr):LD ((Str×Pos)×(B xj×Pos)×Expr×B Expr×B xj×Pos):=(cP e).bind λa=>(nP a.1).bind λx=>(PK a.2.1).bind λc=>(cP c).bind λb=>M (x,a.2.2,b)
def Rc(e:Expr):LD (Str×Str×Expr×Str×Expr):=(Zx e).bind λw=>(PK w.2.1.1).bind λk=>k.arg.bind λz=>(nP w.2.2.1).bind λy=>(PK w.2.2.2.1).bind λn=>(B9 w.2.2.2.2.1).bind λ_=>M (w.1.1,y.1,n,z,k.value)
def Rf(e:Expr):LD (Str×Str×Expr×Bool):=(Zx e).bind λw=>(B9 w.2.1.1).bind λ_=>(aP w.2.2.1).bind λq=>(B9 w.2.2.2.1).bind λ_=>(B9 w.2.2.2.2.1).bind λ_=>M (w.1.1,q.2.1,q.1,q.2.2.endLine==w.2.2.2.2.2.line)
def Rg(e:Expr):LD (Str×Str×Expr):=(Zx e).bind λw=>(B9 w.2.1.1).bind λ_=>(nP w.2.2.1).bind λy=>(PK w.2.2.2.1).bind λl=>(B9 w.2.2.2.2.1).bind λ_=>M (w.1.1,y.1,l)
def gP(a:sR):LD Arg:=(B9 a.posonlyargs).bind λ_=>(PK a.args).bind λv=>(Wv a.vararg).bind λ_=>(B9 a.kwonlyargs).bind λ_=>(B9 a.kw_defaults).bind λ_=>(Wv a.kwarg).bind λ_=>(B9 a.defaults).bind λ_=>M v
def MP(e:Expr):LD (Str×Expr×fG):=(mP e).bind λa=>(gP a.1).bind λv=>M (v.arg,a.2.1,a.2.2.1)
def MQ(T:Tab)(x y:Str):Bool:=decide (x=y)&&sE T.sc x&&T.bn.contains x
noncomputable def WS:CI->Expr->Bool
|.c _,e=>match e with
 |.Tuple ..=>L
 |_=>W
|_,_=>L
noncomputable def MR(sc:fG):Expr->Bool
|.Name y _=>!decide (sc.names.lookup y=M .local)
|_=>L
noncomputable def LK(sc scope:fG)(t:Str)(pos T6:Pos):Bool:=decide (sc.names.lookup t=M .local)&&decide (pos.line=T6.line)&&!(scope.names.any λ(n,k)=>n==t&&(k==.local||k==.cell))
noncomputable def fI(k:Nat):Expr->Bool
|.Call f _ _ _=>f.ctorIdx==k
|_=>W
def wt0:Expr->Bool
|.Call _ [c] _ _=>c.ctorIdx==16&&fI 23 c
|_=>W
noncomputable def lw_b:Expr->Bool
|.Subscript _ r _=>r.ctorIdx==26
|_=>W
noncomputable def gI2:Stmt->Bool
|.AugAssign t _ _ _=>t.ctorIdx==23
|_=>W
noncomputable def cI2:Stmt->Bool
|.Assign (t::_) e _=>t.ctorIdx==23&&e.ctorIdx==8
|_=>W
def rI:Stmt->Bool
|.Raise (M e) _ _=>e.ctorIdx==16&&fI 23 e
|_=>W
noncomputable def tI:Stmt->Bool
|.Try _ (.ExceptHandler (M a) _ _ _::_) _ _ _=>a.ctorIdx==23
|_=>W
noncomputable def afD:CI->Bool
|_=>W
noncomputable def afE:Bf->Bool
|.e=>L
|.a=>L
|_=>W
mutual
noncomputable def c_(T:Tab):CE->Expr->Bool
|.a i,e=>e.ctorIdx==23&&match e with
 |.Name x _=>decide (T.N[i]?=M x)&&WQ T.sc x&&!(x==("__debug__":Str))&&!(x==("__classdict__":Str))
 |_=>W
|.c v,e=>e.ctorIdx==19&&match e with
 |.Constant c _ _=>YA v c
 |_=>W
|.g op a b,e=>e.ctorIdx==2&&match e with
 |.BinOp l o r _=>decide (op=o)&&c_ T a l&&c_ T b r
 |_=>W
|.y a,e=>e.ctorIdx==16&&(fI 23 e&&(wt0 e&&match e with
 |.Call (.Name x _) [.Call (.Name y _) [l] [] _] [] _=>T.ac&&(decide (x=("len":Str))&&sE T.sc x&&T.bn.contains x&&decide (y=("set":Str))&&sE T.sc y&&T.bn.contains y&&acx l&&c_ T a l)
 |_=>W))
|.p a,e=>e.ctorIdx==3&&match e with
 |.UnaryOp .USub l _=>c_ T a l
 |_=>W
|.q a,e=>e.ctorIdx==3&&match e with
 |.UnaryOp .Not l _=>c_ T a l
 |_=>W
|.k a b,e=>e.ctorIdx==0&&match e with
 |.BoolOp .And [x,y] _=>c_ T a x&&c_ T b y
 |.BoolOp .And (x::y::z::r) pos=>c_ T a x&&c_ T b (.BoolOp .And (y::z::r) pos)
 |_=>W
|.n a b,e=>e.ctorIdx==0&&match e with
 |.BoolOp .Or [x,y] _=>c_ T a x&&c_ T b y
 |.BoolOp .Or (x::y::z::r) pos=>c_ T a x&&c_ T b (.BoolOp .Or (y::z::r) pos)
 |_=>W
|.r c a b,e=>e.ctorIdx==5&&match e with
 |.IfExp t x y _=>c_ T c t&&c_ T a x&&c_ T b y
 |_=>W
|.d op a b,e=>e.ctorIdx==15&&match e with
 |.Compare l [o] [r] _=>decide (op=o)&&!BC o r&&c_ T a l&&c_ T b r
 |_=>W
|.s o1 o2 a b c,e=>e.ctorIdx==15&&match e with
 |.Compare l [p1,p2] [m,r] _=>decide (o1=p1)&&decide (o2=p2)&&!K_ [p1,p2] [m,r]&&c_ T a l&&c_ T b m&&c_ T c r
 |_=>W
|.e g as,e=>e.ctorIdx==16&&(fI 23 e&&match e with
 |.Call (.Name x _) es [] _=>decide (T.gl[g]?=M x)&&sE T.sc x&&!(x==("__debug__":Str))&&cT es&&tO T as es
 |_=>W)
|.h f as,e=>e.ctorIdx==16&&(fI 23 e&&match e with
 |.Call (.Name x _) es [] _=>(T.ac||T.semi&&afE f)&&(decide (x=f.name)&&sE T.sc x&&T.bn.contains x&&cT es&&!es.isEmpty&&tO T as es)
 |_=>W)
|.l m o as,e=>e.ctorIdx==16&&(fI 20 e&&match e with
 |.Call (.Attribute l nm apos) es [] cpos=>decide (nm=m.name)&&wR l&&(apos.endLine==cpos.line)&&cT es&&decide (zl es<30)&&c_ T o l&&tO T as es
 |_=>W)
|.b a b,e=>e.ctorIdx==21&&match e with
 |.Subscript l r _=>AK r&&c_ T a l&&c_ T b r
 |_=>W
|.m a lo hi,e=>e.ctorIdx==21&&(lw_b e&&match e with
 |.Subscript l (.Slice x y S _) _=>c_ T a l&&WT T lo x&&WT T hi y
 |_=>W)
|.i as,e=>e.ctorIdx==24&&match e with
 |.List es _=>cT es&&tO T as es
 |_=>W
|.f as,e=>e.ctorIdx==25&&match e with
 |.Tuple es _ _=>cT es&&tO T as es
 |_=>W
|.z,e=>e.ctorIdx==6&&match e with
 |.Dict [] [] _=>L
 |_=>W
|.j nl fr elt tg src cond,e=>e.ctorIdx==8&&match e with
 |.ListComp l [#[t,it,ifs,0]] sc _=>(T.ac&&!T.semi||T.semi&&afD src)&&(sF T.sc T.N sc nl fr&&(MO it&&WS src t)&&WU T src it&&B_ (LJ T sc nl fr) tg t&&YB (LJ T sc nl fr) cond ifs&&c_ (LJ T sc nl fr) elt l)
 |_=>W
|.w as,e=>match e with
 |.Call (.Name x _) [.Call (.Name y _) es [] _] [] _=>T.ac&&(decide (x=("tuple":Str))&&sE T.sc x&&T.bn.contains x&&decide (y=("range":Str))&&sE T.sc y&&T.bn.contains y&&cT es&&!es.isEmpty&&tO T as es)
 |_=>W
|.x g fr n body,e=>match Rc e with
 |some (x,y,ne,z,l)=>match MP l with
  |some (v,b,sc)=>T.ac&&!T.semi&&(decide (x=("sorted":Str))&&sE T.sc x&&T.bn.contains x&&decide (y=("range":Str))&&sE T.sc y&&T.bn.contains y&&acx ne&&decide (z=("key":Str))&&c_ T n ne)&&(decide (g<zl T.gl)&&xB T.sc T.N sc v fr&&c_ (Rb T sc v fr) body b)
  |none=>W
 |none=>W
|.u a,e=>match Rf e with
 |some (x,y,l,b)=>T.ac&&(MQ T x "sorted"&&decide (y=("items":Str))&&b&&wR l&&c_ T a l)
 |none=>W
|.v a,e=>match Rg e with
 |some (x,y,l)=>T.ac&&(MQ T x "list"&&MQ T y "reversed"&&acx l&&c_ T a l)
 |none=>W
|.t,e=>match e with
 |.Dict [] [] _=>L
 |_=>W
|.o g a f,e=>e.ctorIdx==20&&match e with
 |.Attribute l nm _=>decide (nm=f)&&wR l&&c_ T a l&&decide (g<zl T.gl)
 |_=>W
noncomputable def tO(T:Tab):mV->B Expr->Bool
|.nil,es=>match es with
 |[]=>L
 |_=>W
|.cons a r,es=>match es with
 |e::er=>c_ T a e&&tO T r er
 |_=>W
noncomputable def WT(T:Tab):CO->LD Expr->Bool
|.none,e=>match e with
 |none=>L
 |_=>W
|.some a,e=>match e with
 |some x=>c_ T a x
 |_=>W
noncomputable def YB(T:Tab):CO->B Expr->Bool
|.none,es=>match es with
 |[]=>L
 |_=>W
|.some a,es=>match es with
 |[x]=>c_ T a x
 |_=>W
noncomputable def B_(T:Tab):CG->Expr->Bool
|.a i,e=>e.ctorIdx==23&&match e with
 |.Name x _=>decide (T.N[i]?=M x)&&WR T x
 |_=>W
|.b gs,e=>e.ctorIdx==25&&match e with
 |.Tuple es _ _=>(T.ac||T.semi)&&(cT es&&LL T gs es)
 |_=>W
|.c o i,e=>e.ctorIdx==21&&match e with
 |.Subscript l r _=>AK r&&c_ T o l&&c_ T i r
 |_=>W
noncomputable def LL(T:Tab):yE->B Expr->Bool
|.nil,es=>match es with
 |[]=>L
 |_=>W
|.cons g r,es=>match es with
 |e::er=>B_ T g e&&LL T r er
 |_=>W
noncomputable def WU(T:Tab):CI->Expr->Bool
|.a a,e=>c_ T a e
|.b as,e=>e.ctorIdx==16&&(fI 23 e&&match e with
 |.Call (.Name x _) es [] _=>decide (x=("range":Str))&&sE T.sc x&&T.bn.contains x&&cT es&&!es.isEmpty&&tO T as es
 |_=>W)
|.c a,e=>e.ctorIdx==16&&(fI 23 e&&match e with
 |.Call (.Name x _) [l] [] _=>decide (x=("enumerate":Str))&&sE T.sc x&&T.bn.contains x&&acx l&&c_ T a l
 |_=>W)
|.d a,e=>match e with
 |.Call (.Name x _) [l] [] _=>decide (x=("reversed":Str))&&sE T.sc x&&T.bn.contains x&&acx l&&c_ T a l
 |_=>W
|.e a,e=>c_ T a e
end
noncomputable def WV(nl:B Str)(j k:Nat):CE:=.j nl [j] (.f #v[.a 0,.a 1]) (.b #v[.a 0,.a 1,.a 2]) (.e<|.a k)<|.some<|.d .Eq (.a 2)<|.a 3
mutual
noncomputable def Xx(T:Tab):CS->Stmt->Bool
|.e c,st=>st.ctorIdx==24&&match st with
 |.Expr e _=>uP e&&c_ T c e
 |_=>W
|.d g c,st=>st.ctorIdx==5&&match st with
 |.Assign [t] e _=>(uP e||MR T.sc t)&&notTuple t&&B_ T g t&&c_ T c e
 |_=>W
|.g i c,st=>st.ctorIdx==7&&(gI2 st&&match st with
 |.AugAssign (.Name x _) .Add e _=>decide (T.N[i]?=M x)&&decide (T.sc.names.lookup x=M .local)&&c_ T c e
 |_=>W)
|.i k j n,st=>st.ctorIdx==7&&match st with
 |.AugAssign (.Subscript o i _) .Add e _=>c_ T (.a k) o&&c_ T (.a j) i&&c_ T (.c<|.b n) e
 |_=>W
|.l i nl j k,st=>st.ctorIdx==5&&match st with
 |.Assign [t] e _=>(uP e||MR T.sc t)&&notTuple t&&B_ T (.a i) t&&c_ T (WV nl j k) e
 |_=>W
|.f g k f c,st=>st.ctorIdx==5&&match st with
 |.Assign [.Attribute o y _] e _=>decide (y=f)&&c_ T (.a k) o&&c_ T c e&&decide (g<zl T.gl)
 |_=>W
|.h i c,st=>st.ctorIdx==5&&(cI2 st&&match st with
 |.Assign [.Name y py] (.ListComp l gs sc T6) _=>(T.ac&&!T.semi)&&(decide (T.N[i]?=M y)&&LK T.sc sc y py T6&&c_ T c (.ListComp l gs sc T6))
 |_=>W)
|.k g c,st=>match st with
 |.Assign [t] e _=>uP e&&notTuple e&&B_ T g t&&c_ T c e
 |_=>W
|.a c,st=>st.ctorIdx==3&&match st with
 |.Return (M e) _=>c_ T c e
 |_=>W
|.b c a b,st=>st.ctorIdx==12&&match st with
 |.If t x y _=>c_ T c t&&ve T a x&&ve T b y
 |_=>W
|.j c b,st=>match st with
 |.While t x [] _=>c_ T c t&&ve T b x
 |_=>W
|.c g src b,st=>st.ctorIdx==9&&match st with
 |.For t it x [] _=>T.ac&&((MO it&&WS src t)&&WU T src it&&B_ T g t&&ve T b x)
 |_=>W
|.n,st=>st.ctorIdx==26&&match st with
 |.Break _=>L
 |_=>W
|.m,st=>st.ctorIdx==27&&match st with
 |.Continue _=>L
 |_=>W
|.o,_=>L
noncomputable def ve(T:Tab):cC->B Stmt->Bool
|.nil,sts=>match sts with
 |[]=>L
 |_=>W
|.cons s r,sts=>match sts with
 |st::sr=>Xx T s st&&ve T r sr
 |_=>W
end
noncomputable def qA(A:cY):cY:={ A with handled:=S }
def w7(h:Heap)(e:Addr):Prop:=∃oe vs,h.get? e=M oe/\oe.data=.fields vs/\vs[2]?=M .none
structure Zy (P:bS) (w:bO) (K:ao) (mg:Str->LD B5) (base:Heap) (k:Nat) (f:Addr) (fd:fi) (ps:B Str) (sp:Sp):Prop where
 len:∀vs H Q,sp vs H Q E0->zl vs=zl ps
 run:∀(A:cY) (outer:B Env) (s:az) (H:Hp) (args:Args) (us:B B5) (vs:B V) (Q:VK) (e:Addr),jU k (qA A)->A.handled=M (.ref e)->w7 s.heap e->H e=S->e∉frs outer->BX P w K mg base A outer s H->D7 s fd args (ps.zip us)->bN vs us->sp vs H Q E0->
  lK (bf P w) A (.call (.ref f) args) (CR Tn outer P w H s Q E0) s
def WW(C:Addr)(SA sp:Sp):Prop:=∀vs H Q E,sp vs H Q E->∀x dx,H x=S->H dx=S->dx≠x->SA (.a x::vs) (upd (upd H dx<|.d x) x<|.g C dx []) (λv H2=>v=.d/\Q (.a x) H2) E
def xr(X:Cx)(E:XK)(x:Str)(sp:Sp)(QL:B V):Prop:=QL=[]/\∃(C:Addr) (k:Nat) (f:Addr) (fd:fi) (ps:B Str) (SA:Sp),iB X.prog X.w X.K X.mg X.base (mU X.prog X.w) k f fd ps SA/\jU (k+1) X.A/\X.mg x=M (.ref C)/\Mk X.K C f/\RZ X.K fd ps []/\WW C SA sp/\vo (mU X.prog X.w) X E
def HG(X:Cx)(E:XK)(x:Str)(sp:Sp)(QL:B V):Prop:=bu
def HG.comp(h:HG X E x sp QL)(hc:X.ac=L\/GJ X/\GJ X')(e1:X'.A=X.A)(e2:X'.prog=X.prog)(e3:X'.w=X.w)(e4:X'.K=X.K)(e5:X'.mg=X.mg)(e6:X'.base=X.base)(e7:X'.ac=X.ac):HG X' E0 x sp QL:=h
structure MS (X:Cx) (P:Addr):Prop where
 c:∃c,X.ab.code=.ref c/\su X.K c P=L
 tb:(P,X.ab.qual++"<lambda>")∈o6
 dp:X.A.depth<vc
 un:X.A.units+80<d_
def ur(X:Cx)(E:XK)(x:Str):G->Prop
|.d v=>∃u,X.mg x=M u/\acb v u
|.e a xs=>X.mg x=M (.ref a)/\VV X.K a L xs
|.a sp QL=>(∃(k:Nat) (f:Addr) (fd:fi) (ps:B Str) (ds:B B5),iB X.prog X.w X.K X.mg X.base (mU X.prog X.w) k f fd ps sp/\jU k X.A/\X.mg x=M (.ref f)/\fK X.K (.ref f)=L/\RZ X.K fd ps ds/\bN QL ds/\vo (mU X.prog X.w) X E)\/xr X E x sp QL\/HG X E x sp QL
|.c C as=>Bl X.K C/\∀f∈as,nV X.K C f
|.f sp=>∃(k:Nat) (f:Addr) (fd:fi) (ps:B Str),Zy X.prog X.w X.K X.mg X.base k f fd ps sp/\jU k (qA X.A)/\X.mg x=M (.ref f)/\fK X.K (.ref f)=L/\(RZ X.K fd ps []/\ps≠[])
|.b P=>MS X P
|.g=>True
def Xy(h:mU P w outer H s E0 e s'):bu:=by
 exact h
structure Ok (X:Cx) (T:Tab) (Y:B G) (E:XK):Prop where
 N:X.N=T.N
 nd:X.N.Nodup
 sc:X.ab.scope=T.sc
 kind:X.ab.scope.kind=.function
 gl:∀(i:Nat) (x:Str) (g:G),T.gl[i]?=M x->Y[i]?=M g->ur X E x g
 bn:∀x∈T.bn,X.mg x=S
 own:∀x,T.own x=L->X.fn x=L
 ac:T.ac=L->X.ac=L
 semi:T.semi=L->GJ X
 po:yW (bf X.prog X.w) X.A X.ab X.xe
 room:X.A.units+60<d_
def uQ(ok:Ok X T Y E)(h:sF T.sc T.N sc nl fr=L)(C:Addr)(ais:az)(H:Hp)(ex:B Addr)(hs:T.semi=L->GJ (jY X (gB X.N nl fr) sc C ais H ex))(hcs:T.ac=L\/T.semi=L):Ok (jY X (gB X.N nl fr) sc C ais H ex) (LJ T sc nl fr) Y E0:=by
 unfold sF at h;simp only[cG,eS]at h;let#[#[#[#[#[h1,h2],h3],h4],h5],h6]:=h;refine#[?_,?_,?_,h1,λi x g hx hg=>?_,ok.bn,λx z=>z,ok.ac,hs,Iq,ok.room]
 .show gB X.N nl fr=gB T.N nl fr;rw[ok.N]
 .rw[ok.N];exact h6
 .show qI sc X.ab=JX sc T.sc;rw[<-ok.sc];rfl
 .have q:=ok.gl i x g hx hg;cases g with
  |d v=>exact q
  |e a xs=>exact q
  |a sp QL=>
   rcases q with⟨k,f,fd,ps,ds,q1,q2,q3,q4,q5,q6,q7⟩|⟨e0,C,k,f,fd,ps,SA,q1,q2,q3,q4,q5,q6,q7⟩|q
   .exact .inl #[k,f,fd,ps,ds,q1,q2,q3,q4,q5,q6,λpins O H s e s' I z=>(Xy z).elim]
   .exact .inr (.inl #[e0,C,k,f,fd,ps,SA,q1,q2,q3,q4,q5,q6,λpins O H s e s' I z=>(Xy z).elim])
   .exact .inr (.inr<|q.comp (hcs.imp ok.ac λz=>#[ok.semi z,hs z]) rfl rfl rfl rfl rfl rfl rfl)
  |b P=>exact#[q.c,q.tb,q.dp,q.un]
  |_=>exact q
def JY(h:sF sc N scope nl fr=L):vB sc N scope nl fr:=by
 unfold sF at h;simp only[cG,eS]at h;let#[#[#[#[#[h1,h2],h3],h4],h5],h6]:=h;refine#[h1,λy hy=>aC<|bC.mp h2 y hy,λx hx=>aC<|bC.mp h3 x hx,λn hn=>?_,λi hi=>?_]
 .exact aC (bC.mp h4 (n,.free) hn) rfl
 .have q:=bC.mp h5 i hi;revert q;cases N[i]? with
  |none=>simp
  |some x=>simp
section
variable{env:Env}
def f9(h:acx e=L):gp (e::es) env=(W,eval e env)::gp es env:=by
 cases e<;>first|rfl|exact aI h bY
theorem Fq:∀{es:B Expr},cT es=L->gp es env=es.map λe=>(W,eval e env)
|[],_=>rfl
|e::es,h=>by
 have h':acx e=L/\cT es=L:=by simpa[cT]using h
 rw[f9 h'.1,Fq h'.2];rfl
def uR(h:cT es=L):(ud pos<|gp es env).any (·.1)=W:=by
 rw[Fq h];unfold ud;rw[bG,pZ];rw[qL];intro x _;simp
def hS0(h:cT es=L)(hl:zl es<30):((ud pos<|gp es env).all (λx=>!x.1)&&(backToKw pos<|keywordEach [] env).all (λx=>x.1.isSome)&&decide (zl es+zl ([]:B xj)+(if([]:B xj).isEmpty then 0 else 1)<30))=L:=by
 rw[Fq h];unfold ud;rw[bG,Oi];have e1:(es.all ((λx:Bool×Sem B5=>!x.1)∘(λx:Bool×Sem B5=>(x.1,if x.1 then do let v <-x.2;JB pos;pure v else x.2))∘λe=>(W,eval e env)))=L:=by
  rw[bC];intro x _;rfl
 have e2:decide (zl es+zl ([]:B xj)+(if([]:B xj).isEmpty then 0 else 1)<30)=L:=by simp_all
 rw[e2,n_];exact nT.mpr #[e1,rfl]
set_option tactic.hygienic true in
def DG(h:wR o=L):Lw o nm env whole=whole:=by
 cases o<;>first|rfl|exact aI (show W=L from h) bY
def aaf(h:AK b=L):Pn b:=by
 intro o i;cases b<;>first|rfl|exact aI h bY
def Ca(h:MO e=L):∀x,mO e env x=pure x:=by
 intro x;cases e<;>first|rfl|exact aI h bY
def GL(h:uP e=L):vL e t n env=pure W:=by
 cases e<;>first|rfl|exact aI h bY
def adC(h:WQ env.scope x=L):SS env.scope x:=by
 unfold WQ at h;split at h
 .exact .inl (by assumption)
 .exact .inr (.inl<|by assumption)
 .exact .inr (.inr<|by assumption)
 .lia
def qP(h:acx e=L):ki (e::es) env=(W,C9 e env)::ki es env:=by
 cases e<;>first|rfl|exact aI h bY
theorem AL:∀{es:B Expr},cT es=L->zl (ki es env)=zl es/\(ki es env).findIdx? (·.1)=S
|[],_=>#[rfl,rfl]
|e::es,h=>by
 have h':acx e=L/\cT es=L:=by simpa[cT]using h
 let#[a,b]:=AL h'.2;rw[qP h'.1];refine#[by simp[a],?_];rw[List.findIdx?_cons];simp[b]
end
section
variable{X:Cx}{a b c:Expr}{ta tb tc:TE}{pos:Pos}{o:Expr}{to:TE}{es:B Expr}{t:TA}{apos cpos:Pos}{m:Mt}
def lZ{RJ:B Expr}(ha:PE X a ta)(hb:PE X (.BoolOp .And (b::RJ) pos) tb):PE X (.BoolOp .And (a::b::RJ) pos) (λO H Q=>ta O H λx H1=>match x with
  |.c c=>if c=L then tb O H1 Q else Q (.c W) H1
  |_=>bu):=by
 intro pins s O H Q I h;refine BoolOp_and<|bH (ha pins s O H _ I h) λv s1 z0=>?_;let#[x,H1,I1,r1,q1]:=z0;cases x with
 |c c=>
  cases r1;refine ie ?_;cases c with
  |true=>exact hb pins s1 O H1 Q I1 q1
  |false=>exact#[.c W,H1,I1,rfl,q1]
 |_=>cases q1
def lz{RJ:B Expr}(ha:PE X a ta)(hb:PE X (.BoolOp .Or (b::RJ) pos) tb):PE X (.BoolOp .Or (a::b::RJ) pos) (λO H Q=>ta O H λx H1=>match x with
  |.c c=>if c=L then Q (.c L) H1 else tb O H1 Q
  |_=>bu):=by
 intro pins s O H Q I h;refine BoolOp_or<|bH (ha pins s O H _ I h) λv s1 z0=>?_;let#[x,H1,I1,r1,q1]:=z0;cases x with
 |c c=>
  cases r1;refine ie ?_;cases c with
  |false=>exact hb pins s1 O H1 Q I1 q1
  |true=>exact#[.c L,H1,I1,rfl,q1]
 |_=>cases q1
def fpnD(ha:PE X a ta):PE X (.UnaryOp .Not a pos) (λO H Q=>ta O H λx H1=>tD X.K x H1 λb=>Q (.c<|!b) H1):=by
 intro pins s O H Q I h;refine UnaryOp_<|bH (ha pins s O H _ I h) λv s1 z0=>?_;let#[x,H1,I1,r1,q1]:=z0;refine not_of (bH (Zt pins s1 O H1 x v (λb H2=>Q (.c<|!b) H2) I1 r1 ?_) λb s2 qq=>by let#[H2,I2,q2]:=qq;exact#[.c<|!b,H2,I2,rfl,q2]);exact q1
def ff_b(ha:PE X a ta):PE X (.UnaryOp .USub a pos) (λO H Q=>ta O H λx H1=>match x with
  |.b i=>Q (.b<|-i) H1
  |_=>bu):=by
 intro pins s O H Q I h;refine UnaryOp_<|bH (ha pins s O H _ I h) λv s1 z0=>?_;let#[x,H1,I1,r1,q1]:=z0;cases x with
 |b i=>exact ac2 pins s1 O H1 (.b i) v Q I1 r1 #[i,rfl,q1]
 |_=>lia
def ch_b(hu:X.A.units+60<d_)(ha:PE X a ta)(hb:PE X b tb)(hc:PE X c tc)(hm:K_ [op,op'] [b,c]=W):PE X (.Compare a [op,op'] [b,c] pos) (λO H Q=>ta O H λx H1=>tb O H1 λy H2=>tB X.K op x y H2 λz H3=>match z with
  |.c k=>if k=L then tc O H3 λu H4=>tB X.K op' y u H4 Q else Q (.c W) H3
  |_=>bu):=by
 intro pins s O H Q I h;refine Compare_chain (bH (ha pins s O H _ I h) λv s1 ⟨x,H1,I1,r1,q1⟩=>chain_link (bH (hb pins s1 O H1 _ I1 q1) λu s2 ⟨y,H2,I2,r2,q2⟩=>
  bH (DF hu op pins s2 O H2 x y v u _ I2 r1 r2 q2) λd s3 ⟨z,H3,I3,r3,q3⟩=>?_)) hm
 cases z with
 |c k=>
  cases r3;refine ie ?_;cases k with
  |false=>exact ite_ff #[.c W,H3,I3,rfl,q3]
  |true=>exact ite_tt<|chain_last<|bH (hc pins s3 O H3 _ I3 q3) λw' s4 ⟨z',H4,I4,r4,q4⟩=>DF hu op' pins s4 O H4 y z' u w' Q I4 r2 r4 q4
 |_=>cases q3
def gTup(hu:X.A.units+60<d_)(ha:PE X a ta)(hb:PE X b tb)(hc:PE X c tc)(hm:K_ [op,op'] [b,c]=W):PT X (.Compare a [op,op'] [b,c] pos) (λO H Q=>ta O H λx H1=>tb O H1 λy H2=>tB X.K op x y H2 λz H3=>match z with
  |.c k=>if k=L then tc O H3 λu H4=>tB X.K op' y u H4 λz H5=>match z with
   |.c k=>Q k H5
   |_=>bu
   else Q W H3
  |_=>bu):=by
 intro pins s O H Q I h;refine isTrue_chain (bH (ha pins s O H _ I h) λv s1 ⟨x,H1,I1,r1,q1⟩=>test_link (bH (hb pins s1 O H1 _ I1 q1) λu s2 ⟨y,H2,I2,r2,q2⟩=>
  bH (DF hu op pins s2 O H2 x y v u _ I2 r1 r2 q2) λd s3 ⟨z,H3,I3,r3,q3⟩=>?_)) hm
 cases z with
 |c k=>
  cases r3;refine ie ?_;cases k with
  |false=>exact ite_ff #[H3,I3,q3]
  |true=>
   refine ite_tt<|test_last<|bH (hc pins s3 O H3 _ I3 q3) λw' s4 ⟨z',H4,I4,r4,q4⟩=>bH (DF hu op' pins s4 O H4 y z' u w' _ I4 r2 r4 q4) λd' s5 z0=>?_;let#[z2,H5,I5,r5,q5]:=z0;cases z2 with
   |c k2=>
    cases r5;exact ie #[H5,I5,q5]
   |_=>cases q5
 |_=>cases q3
def hchd(hu:X.A.units+60<d_)(ha:PE X a ta)(hb:PE X b tb)(hm:BC op b=W):PT X (.Compare a [op] [b] pos) (λO H Q=>ta O H λx H1=>tb O H1 λy H2=>tB X.K op x y H2 λz H3=>match z with
  |.c k=>Q k H3
  |_=>bu):=by
 intro pins s O H Q I h;refine wpAny_isTrue_Compare1 (bH (ha pins s O H _ I h) λv s1 ⟨x,H1,I1,r1,q1⟩=>bH (hb pins s1 O H1 _ I1 q1) λu s2 ⟨y,H2,I2,r2,q2⟩=>bH (DF hu op pins s2 O H2 x y v u _ I2 r1 r2 q2) λd s3 ⟨z,H3,I3,r3,q3⟩=>?_) hm;cases z with
 |c k=>
  cases r3;exact ie #[H3,I3,q3]
 |_=>cases q3
def U9(ha:PE X a ta)(he:∀whole,C8 a X.ab whole=(do let v <-whole;JB a.pos;Aj [v] (Oc v))):PT X a (λO H Q=>ta O H λx H1=>tD X.K x H1 λb=>Q b H1):=by
 intro pins s O H Q I h;exact isTrue_plain (bH (ha pins s O H _ I h) λv s1 qq=>by let#[x,H1,I1,r1,q1]:=qq;exact Zt pins s1 O H1 x v Q I1 r1 q1)<|he _
def adD(hu:X.A.units+60<d_)(ho:PE X o to)(ha:PA X (e::er) t)(hb:wR o=L)(hl:(apos.endLine==cpos.line)=L)(hs:cT (e::er)=L)(hf:zl (e::er)<30):PE X (.Call (.Attribute o m.name apos) (e::er) [] cpos) (λO H Q=>to O H λx H1=>yF m x H1/\t O H1 λvs H2=>zp X.K m x vs H2 Q):=by
 intro pins s O H Q I h;refine wpAny_Call_method_late (DG hb) (hS0 hs hf) hl rfl<|bH (ho pins s O H _ I h) λv s1 z0=>?_;let#[x,H1,I1,r1,hr,q1]:=z0;let#[h1,h2]:=PD I1 r1 hr;have fx:=MN m x H1 hr;refine#[LI m x,Q_ m x,fx.pa,fx.slot,fx.ty,h1,h2,?_];have run:=bH (ha cpos pins s1 O H1 _ I1 q1) λus s2 qq=>by let#[vs,H2,I2,r2,q2]:=qq;exact PF hu I2 r1 r2 q2
 have hs':acx e=L/\cT er=L:=by simpa[cT]using hs
 rw[f9 hs'.1]at run ⊢;exact rC (by show(W||(ud cpos<|gp er X.ab).any (·.1))=W;rw[uR hs'.2]<;>rfl)<|Calls.evalArgs_plain run
def aaS(hu:X.A.units+60<d_)(ho:PE X o to)(hb:wR o=L)(hl:(apos.endLine==cpos.line)=L):PE X (.Call (.Attribute o m.name apos) [] [] cpos) (λO H Q=>to O H λx H1=>yF m x H1/\zp X.K m x [] H1 Q):=by
 intro pins s O H Q I h;refine yx (DG hb) hl<|bH (ho pins s O H _ I h) λv s1 z0=>?_;let#[x,H1,I1,r1,hr,q1]:=z0;let#[h1,h2]:=PD I1 r1 hr;have fx:=MN m x H1 hr;exact#[LI m x,Q_ m x,fx.pa,fx.slot,fx.ty,h1,h2,rC rfl<|BJ<|PF hu I1 r1 .nil q1]
def Bf.ac(f:Bf):(∃id,f.val=.builtin id)\/∃T,f.val=.type T:=by
 cases f<;>first|exact .inl ⟨_,rfl⟩|exact .inr ⟨_,rfl⟩
def adE(hb:mG X f.val<|AF X.K f)(hg:Gl X x)(hx:x=f.name)(hm:X.mg x=S)(ha:PA X (e::er) t)(hs:cT (e::er)=L):PE X (.Call (.Name x p) (e::er) [] pos) (λO H Q=>t O H λvs H1=>AF X.K f vs H1 Q):=by
 subst hx;have hs':acx e=L/\cT er=L:=by simpa[cT]using hs
 intro pins s O H Q I h;refine eW<|mR I hg hm f.ab ?_ f.ok.1 f.ok.2;have run:=bH (ha pos pins s O H _ I h) λus s1 qq=>by let#[vs,H1,I1,r1,q1]:=qq;exact hb pins s1 O H1 vs us Q I1 r1 q1
 rcases f.ac with⟨id,ev⟩|⟨T,ev⟩
 .rw[ev]at run ⊢;exact l5 run (f9 hs'.1)<|uR hs'.2
 .rw[ev]at run ⊢;exact cZ run (f9 hs'.1)<|uR hs'.2
end
section
variable{X:Cx}{T:Tab}{Y:B G}{E:XK}{a:Expr}{ta:TE}{pos:Pos}
noncomputable def Tc:LD Addr->B5
|none=>.type "NoneType"
|some C=>.ref C
theorem vv:∀(Ds:B Addr) (us:B B5),bN (Ds.map V.a) us->us=Ds.map bU
|[],us,h=>by cases h;rfl
|D::Ds,us,h=>by
 cases h with
 |cons h1 h2=>rw[vv Ds _ h2,show _=bU D from h1];rfl
set_option tactic.hygienic true in
def adF(hO:∀C as,Y[g]?=M (G.c C as)->Bl X.K C/\∀f∈as,nV X.K C f)(ha:PE X a ta)(hb:wR a=L):PE X (.Attribute a f pos) (λO H Q=>ta O H λv H1=>MK Y g f v H1 Q):=by
 intro pins s O H Q I h;refine aaw (DG hb)<|bH (ha pins s O H _ I h) λu s1 z0=>?_;let#[v,H1,I1,r1,q1]:=z0;unfold MK at q1;split at q1
 .rename_i C as e1;split at q1
  .rename_i e;cases r1;let#[dx,fs,v,he,hf,l,q]:=q1;let#[k1,k2]:=hO C as e1;exact Itl I1 he k1 (k2 f hf) l λu' s2 I2 ru=>#[v,H1,I2,ru,q]
  .exact q1.elim
 .exact q1.elim
end
end L3
end
section
namespace L2
open PySem PySem.W PySem.Calls PyProof.Rows
section
variable{prog:bS}{w:bO}{A:cY}{E:B5->az->Prop}{s:az}
def Bm{R:B B5->az->Prop}{n:Nat}(hh:A.handled=S)(hr:Eb s.heap r a b 1 t u v)(hsmall:uC a b 1=L)(hn:lD a b 1=n)(hlen:n<=2 ^ 24)(q:∀(h':Heap) (tk:Nat) (acc:Array B5),(∀b o,s.heap.get? b=M o->h'.get? b=M o)->sW (λ(i:Nat) v=>∃t,v=.int (a+(i:J)*1) t) acc n->R acc.toList { s with heap:=h',toks:=tk }):a_ (bf prog w) A (D_<|.ref r) R E s:=by
 have hd:=aQ hr;have new:(s.heap.push { cls:=.type "list",data:=.seq #[] }).get? s.heap.objs.size=M { cls:=.type "list",data:=.seq #[] }:=be _ rfl;refine ak<|JG<|iz Bb ?_;rw[fM vO _];refine(ak<|jm<|aN #[jW lE _,iz Gj ?_]);rw[fM lE _];have hr':Eb (s.heap.push { cls:=.type "list",data:=.seq #[] }) r a b 1 t u v:=aA _ hr;have run:=wpAny_extend_range (prog:=prog) (w:=w) (s:={ s with heap:=s.heap.push { cls:=.type "list",data:=.seq #[] } })
  (R:=λz s'=>∃h' tk acc c,z=.ok (.ret<|.ref s.heap.objs.size)/\s'={ s with heap:=h',toks:=tk }/\(∀b o,s.heap.get? b=M o->h'.get? b=M o)/\h'.get? s.heap.objs.size=M { cls:=.type "list",dict:=S,data:=.seq acc c,slots:=#[] }/\sW (λ(i:Nat) v=>∃t,v=.int (a+(i:J)*1) t) acc n)
  hh hr' hsmall hn hlen s.heap.objs.size (.ref s.heap.objs.size) 0 new
  λh' tk acc c k e it=>#[h',tk,acc,c,rfl,rfl,λb o eb=>k b o (bI<|aQ eb)<|aA _ eb,e,it]
 refine gW run (λfl s' z=>?_) λ_ _ z=>?_
 .cases fl with
  |done f=>
   let#[h',tk,acc,c,ef,rfl,k,e,it]:=z;cases ef;exact ak<|wZ e<|aN<|q h' tk acc k it
  |again g=>
   refine#[z.1,kQ z.2 λr s2 y=>?_];let#[h',tk,acc,c,rfl,rfl,k,e,it]:=y;exact ak<|wZ e<|aN<|q h' tk acc k it
 .let#[_,_,_,_,ez,_]:=z;cases ez
open PySem.F in
theorem Ft{Q₁:B5->az->Prop}{n:Nat}(hh:A.handled=S)(hr:Eb s.heap r a b 1 t u v)(hsmall:uC a b 1=L)(hn:lD a b 1=n)(hlen:n<=2 ^ 24)(h:∀(h':Heap) (tk:Nat) (acc:Array B5),(∀b o,s.heap.get? b=M o->h'.get? b=M o)->sW (λ(i:Nat) v=>∃t,v=.int (a+(i:J)*1) t) acc n->Q₁ (.ref h'.objs.size) { s with heap:=h'.push { cls:=.type "tuple",data:=.seq acc },toks:=tk }):lK (bf prog w) A (.call (.builtin "tuple.__new__") #[[.type "tuple",.ref r],[]]) (wants Q₁ E) s:=by
 refine codeAny_of_tree ?_;show a_ _ A.in1 (do checkBuiltinCall "tuple.__new__" #[[.type "tuple",.ref r],[]];again (.builtin "tuple.__new__" #[[.type "tuple",.ref r],[]])) _ _ s;refine ak<|Pb (F.newCall_tuple_1 _)<|aN #[jW F.plain_tuple_new _,iz F.entry_tuple_new ?_];rw[fM F.plain_tuple_new _];have hsub:=sub_tuple_self;have hinit:=init_tuple_lookup;have hkey':=madeHere_tuple;have hT:s.TypeIs (.ref r) "range":=#[_,hr,rfl]
 wp_walk using pV hT,Bm (A:=A.in1) hh hr hsmall hn hlen
 intro h' tk acc hk hacc;show a_ _ _ (Om acc.toList.toArray >>= λv=>ret v) _ _ _;refine ak (jm ?_ (by show acc.toList.toArray.size<=aj;simp only[ug];rw[hacc.1,cg];omega));refine aN ?_;have e:acc.toList.toArray=acc:=by simp
 rw[e];exact h h' tk acc hk hacc
def Fv{Q:B5->az->Prop}{n:Nat}(hh:A.handled=S)(hr:Eb s.heap r a b 1 t u v)(hsmall:uC a b 1=L)(hn:lD a b 1=n)(hlen:n<=2 ^ 24)(h:∀(h':Heap) (tk:Nat) (acc:Array B5),(∀b o,s.heap.get? b=M o->h'.get? b=M o)->sW (λ(i:Nat) v=>∃t,v=.int (a+(i:J)*1) t) acc n->Q (.ref h'.objs.size) { s with heap:=h'.push { cls:=.type "tuple",data:=.seq acc },toks:=tk }):a_ (bf prog w) A (call (.type "tuple") [.ref r]) Q E s:=by
 refine u9 (Q₁:=λobj QE=>QE.TypeIs obj "tuple"/\Q obj QE) F.called_tuple (F.typeCall_tuple_1 _) F.entry_object_init
  (Ft hh hr hsmall hn hlen λh' tk acc hk hacc=>#[#[_,be _ rfl,rfl],h h' tk acc hk hacc]) λobj QE aiz=>?_
 exact#[aiz.1,F.args_object_init_2 obj _,object_init_meets F.called_tuple.init.lookup F.called_tuple.made (by decide) prog w A.in1 _ QE #[aiz.1,rfl,aiz.2]]
end
end L2
end
section
namespace L3
open PySem PySem.Spec PyProof.Rows L2
section
variable{X:Cx}
def GN(i:J):∀(n:Nat) (acc:Array B5),sW (λ(k:Nat) v=>∃t,v=.int (i+(k:J)*1) t) acc n->bN ((bW n).map λ(k:Nat)=>V.b<|i+(k:J)) acc.toList:=by
 intro n acc it;have key:∀(l:B B5) (ks:B Nat),zl l=zl ks->(∀(j:Nat) v k,l[j]?=M v->ks[j]?=M k->∃t,v=.int (i+(k:J)) t)->bN (ks.map λ(k:Nat)=>V.b<|i+(k:J)) l:=by
  intro l;induction l with
  |nil=>intro ks hl _;cases ks with|nil=>exact .nil|cons _ _=>cases hl
  |cons v r ih=>
   intro ks hl h;cases ks with
   |nil=>cases hl
   |cons k tip=>exact .cons (h 0 v k rfl rfl) (ih tip (by simpa using hl) λj v' k' h1 h2=>h (j+1) v' k' (by simpa using h1)<|by simpa using h2)
 refine key _ _ (by rw[eB,it.1,ig]) λj v k h1 h2=>?_;have hj:j<n:=by
  have:=(aW.mp h2).1;simpa using this
 rw[uB hj]at h2;cases h2;let#[t,e]:=it.2 j v (by rw[<-iQ];exact h1);exact#[t,by rw[e,O8]]
def adG(hc:X.ac=L)(hg:Gl X "tuple")(hm:X.mg "tuple"=S)(Tf:Gl X "range")(hm2:X.mg "range"=S)(ha:PA X (e::es) ta)(hs:cT (e::es)=L):PE X (.Call (.Name "tuple" p) [.Call (.Name "range" p2) (e::es) [] pos2] [] pos) (λO H Q=>ta O H λvs H1=>WA vs H1 Q):=by
 have hs':acx e=L/\cT es=L:=by simpa[cT]using hs
 intro pins s O H Q I h;refine eW (mR I hg hm (u:=.type "tuple") (by rfl) ?_);refine cZ ?_ rfl rfl;refine f_ (Ip (mR I Tf hm2 (u:=.type "range") (by rfl)<|cZ (bH (ha pos2 pins s O H _ I h) λus s1 ⟨vs,H1,I1,r1,q⟩=>?_) (f9 hs'.1)<|uR hs'.2))
 match vs,r1,q with
 |[.b i,.b j],r1,⟨⟨q1,q2,q3,q4,q5⟩,q⟩=>
  let#[u,u',rfl,ru,X7]:=TU r1;let#[t,rfl]:=ru;let#[t',rfl]:=X7;refine call_range_2<|gE ?_;have I2:L2.Inv X pins O H1 { s1 with heap:=s1.heap.push { cls:=.type "range",data:=.fields (List.toArray [.int i t,.int j t',.int 1 s1.toks]) },toks:=s1.toks+1 }:=I1.ac λb o e=>aA _ e;refine Fv (I2.ok.hd hc) (O9 ..) (K8 q1 q2 q3 q4) (by rw[BB];split<;>lia) q5 λh' tk acc hk it=>?_;have I3:=I2.ac (t':=tk) hk;have I4:L2.Inv X pins O (upd H1 h'.objs.size<|.b<|(bW (j-i).toNat).map λ(k:Nat)=>V.b<|i+(k:J)) { s1 with heap:=h'.push { cls:=.type "tuple",data:=.seq acc },toks:=tk }:=
   I3.ad (t':=tk) (λb o e=>aA _ e) (aM _) (show fU X.prog X.w _ _ _ (.b _)from#[by rw[aa,ig,cg];omega,acc.toList,GN i _ acc it,by rw[ug];exact IsTup.new _ _])
  exact#[.a h'.objs.size,_,I4,rfl,q _<|I3.ab.fresh<|aM _]
end
def Vg{α:Type}(d:α)(ss:B α):(bW<|zl ss).map (λi=>ss.getD i d)=ss:=by
 apply kT
 .simp
 .intro i h1 h2;simp[aV,h2]
def MT(ss:B J):Au (λi=>ss.getD i 0) (zl ss)=wQ ss:=by
 unfold Au wQ;rw[Vg]
section
variable{X:Cx}
def aaU{e:Expr}{te:TE}{p1 p2 p3 pos:Pos}(hc:X.ac=L)(hg1:Gl X "len")(hm1:X.mg "len"=S)(Tf:Gl X "set")(hm2:X.mg "set"=S)(he:PE X e te)(hs:acx e=L):PE X (.Call (.Name "len" p1) [.Call (.Name "set" p2) [e] [] p3] [] pos) (λO H Q=>te O H λx H1=>Zr x H1 Q):=by
 intro pins s O H Q I h;refine eW<|mR I hg1 hm1 (Bf.ab .a) ?_ (Bf.ok .a).1 (Bf.ok .a).2;refine l5 ?_ rfl rfl;show a_ _ _ (Qx ((W,eval (.Call (.Name "set" p2) [e] [] p3) X.ab)::ud pos (gp [] X.ab))) _ _ s;refine f_ (eW (mR I Tf hm2 (u:=.type "set") (by decide +kernel) ?_ (by decide)<|by decide));refine cZ ?_ (f9 hs) rfl;rw[f9 hs];show a_ _ _ (Qx ((W,eval e X.ab)::ud p3 (gp [] X.ab))) _ _ s;refine f_<|bH (he pins s O H _ I h) λu s1 z0=>?_;let#[x,H1,I1,r1,b,ss,ex,hx,hl,q]:=z0;refine gE ?_;subst ex;cases r1;let#[its,r,p,_]:=I1.list<|Rd.vW hx;have hlen:its.length=ss.length:=by rw[<-r.length,aa]
 have hsz:its.toArray.size=ss.length:=by rw[aS,hlen]
 refine PySem.call_set_list (I1.ok.hd hc) (PlainL.is p) (ae4 r) (by rw[hsz];unfold scanBound;lia) λh' tk hS keep=>?_;refine gE ?_;rw[hsz,MT]at hS;let#[o,es,ep,t,ho,hex,hd,hel,hmem,hb,hf,hn]:=hS;refine call_len_set ho hex hd hf (by rw[hn];have:(wQ ss).length<=ss.length:=(by rw[<-MT];exact Gs _ _);lia) #[.b _,H1,(I1.ac (t':=tk) λb u e=>keep b u (aQ e) e).tok _,#[_,rfl],?_];rw[hn];exact q
end
theorem Cb:∀l:B B5,C5 l->C5 (l++[.int i t,.int j u,c])
|[],_=>trivial
|.int _ _::.int _ _::_::RJ,h=>Cb RJ h
theorem GU:∀l:B B5,C5 l->vK p (l++[.int i t,.int j u,c])=M cv->vK p l=M cv\/cv=c
|[],_,e=>by
 have e:(if(i==(p.line:J)&&j==(p.col:J))=L then M c else S)=M cv:=e;split at e
 .lia
 .cases e
|.int a t'::.int b u'::d::RJ,h,e=>by
 have e:(if(a==(p.line:J)&&b==(p.col:J))=L then M d else vK p (RJ++[.int i t,.int j u,c]))=M cv:=e;show(if(a==(p.line:J)&&b==(p.col:J))=L then M d else vK p RJ)=M cv\/_;split at e
 .rename_i z;rw[aH z];exact .inl e
 .rename_i z;rw[aG z];exact GU RJ h e
section
variable{X:Cx}{pins:B (Addr×Obj)}{O:L2.St}{H:Hp}{s:az}{P:Addr}{ps:Array B5}
def aaV(I:L2.Inv X pins O H s)(e:H c'=M (.f oc<|.d P))(e1:oc.data=.fields vs)(e2:vs[1]?=M (.str q tq)):s.heap.CodeRec (.ref c') q:=
 #[c',oc,vs,tq,rfl,(I.ab c' _ e).1,e1,e2]
def hS2{Q:B5->az->Prop}{E:B5->az->Prop}(I:L2.Inv X pins O H s)(Q9:MS X P)(hP:H P=M (.h ps))(hq:QG ps=X.ab.qual++"<lambda>")(hcl:Sx scope X.ab=pure clos)(hdef:defaultsOf params X.ab=([],[]))(h:∀f c' pm ctv H' s',(H'=H\/∃c oc,H c=S/\H'=upd H c (.f oc<|.d P))->L2.Inv X pins O H' s'->s.heap.objs.size<=f->s'.heap.get? f=M (o5 "<lambda>" (X.ab.qual++"<lambda>") params body scope clos pm c' ctv)->H' f=S->(∃oc vs tq,H' c'=M (.f oc<|.d P)/\oc.data=.fields vs/\vs[1]?=M (.str (X.ab.qual++"<lambda>") tq))->Q (.ref f) s'):a_ (bf X.prog X.w) X.A (eval (.Lambda params body scope pos) X.ab) Q E s:=by
 let#[c,hc,hcd]:=Q9.c;let#[bm,ob,b1,b2,b5,b6,rt',b8]:=I.ok.mod.bmain;let#[qs,Yu,ht,hcs]:=(I.ab P _ hP);have hg:=I.ok.mod.glob.keeps I.bk;have Uc:∀b,H b=S->b≠P:=λb z y=>by rw[y,hP]at z;cases z
 let#[gb,sm3]:=I.bs bm ob b5;have spO:eV≠P:=by
  let#[o,es,ep,e,hd,_]:=I.ok.mod.glob;exact Uc _ (I.bs _ _ e).2
 have hbG:bm≠eV:=λz=>by
  let#[o,es,ep,e,hd,_]:=I.ok.mod.glob;rw[z,e]at b5;cases b5;rw[hd]at b8;cases b8
 have hb:s.heap.BuiltinsAt X.mg P:=#[bm,ob,b1,b2,hbG,Uc _ sm3,gb,b6,rt',b8];refine rg2 hdef ?_;cases hca:vK pos qs.toList with
 |none=>
  refine Oo hcl I.ok.glob hg hc (uD I.xo hcd) Yu ht hca spO hb λc' ctv h' tk hx hge hlt hrec htb=>?_;have hn:=I.ab.fresh hge;let#[c2,oc,vs,tq,z1,z2,z3,z4]:=hrec;cases z1;have up:∀b o,b≠P->s.heap.get? b=M o->(h'.push<|o5 "<lambda>" (X.ab.qual++"<lambda>") params body scope clos ((X.mg "__name__").getD .none) c' ctv).get? b=M o:=λb o n e=>aA _<|hx b o n e;have ho:∀b u,H b=M u->upd H c' (.f oc<|.d P) b=M u:=λb u z=>by rw[bg<|cj z hn];exact z
  have hok:gM X.prog X.w (upd H c'<|.f oc<|.d P) (h'.push<|o5 "<lambda>" (X.ab.qual++"<lambda>") params body scope clos ((X.mg "__name__").getD .none) c' ctv):=λa u z=>by
   by_cases y:a=c'
   .subst y;rw[bZ]at z;cases z;exact#[aA _ z2,oc,aA _ z2]
   .rw[bg y]at z;by_cases yP:a=P
    .subst yP;rw[hP]at z;cases z;refine#[_,aA _ htb,by rw[k8];exact Cb _ ht,λp cv e=>?_];rw[k8]at e;rcases GU _ ht e with e|rfl
     .let#[c3,X3,vs',XN,rfl,e2,y3]:=hcs p cv e;exact#[c3,X3,vs',XN,rfl,ho _ _ e2,y3]
     .exact#[c',oc,vs,tq,rfl,bZ,z3,by rw[hq];exact z4]
    .exact(I.ab a u z).ab (λb v hb' q=>up b v (λw=>by
      rcases hb' with rfl|hb'
      .exact yP w
      .rw[w,hP]at hb';cases hb') q) (λb q=>ho b _ q) (λb xs q=>ho b _ q) λb o xs q=>ho b _ q
  refine h _ c' _ ctv _ _ (.inr #[c',oc,hn,rfl]) (I.step (ch:=[]) (λ_ z=>nomatch z) (λb o _ _ _ e n=>up b o (Uc b n) e) (λb o _ _ _ e n=>#[o.slots,up b o (Uc b n) e]) (λb o _ e n=>?_) (λb o _ e=>?_) (λb xs e=>ho b _ e) (λb o u e=>ho b _ e) (λb ps' e=>#[#[],by rw[ho b _ e];simp]) (λm hm=>?_) hok I.bare) (cu hge<|fO hlt) (be _ rfl) ?_ #[oc,vs,tq,bZ,z3,z4]
  .rw[bg<|bI<|bX (aQ e) hge];exact n
  .by_cases y:b=P
   .subst y;exact#[_,aA _ htb]
   .exact#[o,up b o y e]
  .let#[o,es,ep,ho',r]:=hm;exact#[o,es,ep,up _ o (Uc _ I.free) ho',r]
  .rw[bg<|jc hlt];exact I.ab.fresh<|cu hge<|fO hlt
 |some cv=>
  let#[c',X3,vs',XN,rfl,e2,y3,y4]:=hcs pos cv hca;refine La hcl I.ok.glob hg hc (uD I.xo hcd) Yu ht hca hb λctv h' tk hk hsz=>?_;have up:∀b o,s.heap.get? b=M o->(h'.push<|o5 "<lambda>" (X.ab.qual++"<lambda>") params body scope clos ((X.mg "__name__").getD .none) c' ctv).get? b=M o:=λb o e=>aA _<|hk b o e;refine h _ c' _ ctv H _ (.inl rfl) (I.ac up) hsz (be _ rfl) (I.ab.fresh hsz) #[X3,vs',XN,e2,y3,by rw[<-hq];exact y4]
end
def DH(X:Cx)(A:cY)(N:B Str)(qual:Str)(scope:fG)(f:Addr)(cd:B5)(s:az)(H:Hp):Cx where
 prog:=X.prog
 w:=X.w
 K:=X.K
 mg:=X.mg
 base:=X.base
 A:=A.deeper (Dr qual scope s.heap.objs.size f cd<|nG X.ab.cells scope.names [])
 N:=N
 ais:=s
 aiD:=H
 ab:=Dr qual scope s.heap.objs.size f cd (nG X.ab.cells scope.names [])
 outer:=X.stack
 stack:=Dr qual scope s.heap.objs.size f cd (nG X.ab.cells scope.names [])::X.stack
 ex:=[]
 fn:=λ_=>W
 ac:=L
 pn:=[]
 xe:=λ_ _=>bu
structure Ri (sc:fG) (N:B Str) (scope:fG) (x:Str) (is:B Nat):Prop extends vB sc N scope [] is where
 co:scope.isCoroutine=W
 gen:scope.isGenerator=W
 own:scope.names.lookup x=M .local
 nocell:∀y∈scope.names,y.2≠.cell
 nd:x∉gB N [] is
 ni:x="i"
def aaW{N:B Str}{scope:fG}{is:B Nat}{i:Nat}{y:Str}(Q7:vB sc N scope [] is)(h:(gB N [] is)[i]?=M y):scope.names.lookup y=M .free:=by
 have h:(is.map λi=>N.getD i Dc)[i]?=M y:=h;rw[aJ]at h;cases e:is[i]? with
 |none=>rw[e]at h;cases h
 |some j=>
  rw[e]at h;have h:=cE h;let#[z,hz,hf]:=Q7.fr j<|dz e;have:z=y:=by rw[<-h];simp[hz]
  rw[<-this];exact hf
section
variable{X:Cx}{pins:B (Addr×Obj)}{O:L2.St}{H:Hp}{s:az}
def hS3{f c':Addr}{qual x:Str}{params:sR}{body:Expr}{scope:fG}{fr:B Nat}{pm ctv u:B5}{v:V}{tb:TE}{Q:VK}{E:B5->az->Prop}(hA:A.frames=M X.stack)(hh:A.handled=S)(hr:A.depth<vc)(Q7:Ri X.ab.scope X.N scope x fr)(I:L2.Inv X pins O H s)(ho:s.heap.get? f=M (o5 "<lambda>" qual params body scope (nG X.ab.cells scope.names []) pm c' ctv))(hcd:s.heap.CodeRec (.ref c') qual)(hbind:sj (PySem.W.kla_fn "<lambda>" qual params body scope (nG X.ab.cells scope.names []) pm (.ref c') ctv) #[[u],[]]=pure [(x,u)])(ru:acb v u)(hb:PE (DH X A (x::gB X.N [] fr) qual scope f (.ref c') s H) body tb)(hw:tb (M v::tN [] fr O) H Q):a_ (bf X.prog X.w) A (call (.ref f) [u]) (EP X pins O λy H'=>Q y H'/\∀b o w,H b=M (.f o w)->H' b=M (.f o w)) E s:=by
 have cl:∀y c,(nG X.ab.cells scope.names []).lookup y=M c->X.ab.cells.lookup y=M c:=xA scope.names [] λ_ _ z=>nomatch z
 refine Ic<|kQ (R:=CR Tn X.stack X.prog X.w H s (λy H'=>Q y H'/\∀b o w,H b=M (.f o w)->H' b=M (.f o w)) E0) (adp hr ho rfl Q7.co Q7.gen rfl hcd ?_) λr s' hq=>?_
 .rw[hbind];refine aN (wpAny_newFunctionEnv Q7.nocell (λy hy=>by rw[aK.mp hy];exact Q7.own) (λaiz hns U8=>#[I.nolimit.fresh _ U8,?_]) Q7.kind);have up:=λb o e=>U8.extBut b o (bI<|aQ e)<|aA _ e;have ok:(DH X A (x::gB X.N [] fr) qual scope f (.ref c') s H).Ok:=by
   have Wy:∀b:Addr,b∉(DH X A (x::gB X.N [] fr) qual scope f (.ref c') s H).ex:=λb z=>aI z aF;refine#[I.ok.mod,Q7.kind,rfl,rfl,aM _,λy z c h1 h2=>I.ok.inj y z c (cl y c h1)<|cl z c h2,λy hy=>?_,(λ_ _ z=>nomatch z),λ_=>hh,A9 hA,.inr #[rfl,rfl],λb z=>aI z<|Wy b,I.bs,cu I.ok.bsz I.sz,λb _ _=>Wy b,λb z=>aI z<|Wy b,I.stack,#[I.Iz,I.tb]];have hy:scope.names.lookup y=M .cell\/scope.names.lookup y=M .free:=hy;rcases hy with hy|hy
   .exact aI rfl (Q7.nocell _<|dN hy)
   .let#[c,hc]:=sC Q7.tovB I y<|dN hy;exact rV scope.names [] y<|.inr #[dN hy,c,hc]
  have I1:L2.Inv (DH X A (x::gB X.N [] fr) qual scope f (.ref c') s H) [] (M v::tN [] fr O) H { s with heap:=aiz,toks:=s.toks+1 }:=by
   refine#[ok,rfl,I.bare,Un.ac up,#[_,hns,λi y w h1 h2 h3=>?_],λy c e=>?_,I.ab.fresh<|aM _,λy c e=>I.freeC y c<|cl y c e,λp hp=>aI hp aF,I.ab.ac up,?_]
   .cases i with
    |zero=>
     have h1:M x=M y:=h1;cases h1;have h2:M (M v)=M (M w):=h2;cases h2;exact#[u,ru,.inl #[Q7.own,by show oG x [(x,u)]=M u;rw[dB];simp]]
    |succ i=>
     let#[hf,_,c,u',hc,X7,hcell]:=AJ Q7.tovB I i y w h1 h2;let#[d,hd]:=rV scope.names [] y<|.inr #[hf,c,hc];have e1:=cl y d hd;rw[hc]at e1;cases e1;refine#[u',X7,.inr #[?_,c,hd,?_]]
     .have h3:scope.names.lookup y=M .local\/scope.names.lookup y=M .cell\/scope.names.lookup y=M .free:=h3;rcases h3 with z|z|z
      .exfalso;have e:=aaW Q7.tovB h1;rw[e]at z;cases z
      .exact .inl z
      .exact .inr z
     .let#[o,ho,hd]:=hcell;exact#[o,up _ _ ho,hd]
   .let#[z,o,ho,hd]:=I.cell y c<|cl y c e;exact#[z,o,up _ _ ho,hd]
   .show(tN [] fr O).length+1=zl (gB X.N [] fr)+1;unfold tN gB;simp
  refine ad4<|gW (hb [] _ _ H Q I1 hw) (λv' s' ⟨y,H',acv,rv,q⟩=>?_) λ_ _ z=>z.elim;exact#[y,H',acv.os,acv.bare,acv.base,acv.ab,rv,q,acv.base.aD]
 .cases r with
  |error e=>cases hq
  |ok fl=>
   cases fl with
   |ret u=>exact I.after hq
   |next=>cases hq
   |brk=>cases hq
   |cont=>cases hq
end
end L3
end
section
namespace L3
open PySem PySem.Spec PySem.W PySem.Calls PyProof.Rows L2
section
variable{prog:bS}{w:bO}{A:cY}{E:B5->az->Prop}{s:az}
def MU{vs keys:B B5}{lt:Nat->Nat->Bool}{e1 e:Nat}{P:Dh->az->Prop}{st:SortSt}(hka:kS≠a)(nk:s.heap.get? kS=M (cU "list" keys.toArray e))(na:s.heap.get? a=M (cU "list" #[] e1))(hl:zl keys=zl vs)(h64:zl vs<64)(har:(Ik st).map (·.2)=(gI vs lt).toArray)(hf:A_ st=S)(SR:zl (gI vs lt)=zl vs)(h:∀h' c,(∀b o,b≠a->b≠kS->s.heap.get? b=M o->h'.get? b=M o)->h'.get? a=M (cU "list" (gI vs lt).toArray c)->P (.done<|.ret .none) { s with heap:=h' }):a_ (bf prog w) A (ksk_tail a W e1 (.ref kS) st) P E s:=by
 have s1:=kZ s.heap kS<|c8 λ_=>(#[]:Array B5);have Ww:=(s1.2 a hka.symm).trans na;obtain⟨c2,hc2⟩:∃c2,((s.heap.update kS<|c8 λ_=>(#[]:Array B5)).update a<|c8 λ_=>(gI vs lt).toArray).get? a=M (cU "list" (gI vs lt).toArray c2):=#[_,oY Ww λ_=>(gI vs lt).toArray];refine ak (n9 nk rfl ?_ (by rw[aS,cg];lia)<|cN _);refine ak<|Pd ?_;refine ak<|zL Ww rfl ?_;simp only[gg,iN];rw[har,hf];refine ak (n9 Ww rfl ?_ (cN _) (by rw[aS,SR,cg];lia));simp only[Ek,gg,iN];refine aN<|h _ c2 (λb o h1 h2 e=>?_) hc2;rw[kY _ _ _ _ h1,kY _ _ _ _ h2];exact e
def aaX{lt:Nat->Nat->Bool}{P:Dh->az->Prop}(hka:kS≠a)(nk:s.heap.get? kS=M (cU "list" keys.toArray e))(na:s.heap.get? a=M (cU "list" #[] e1))(hl:zl keys=zl vs)(h64:zl vs<64)(hC:2<=zl vs->JU prog w A keys lt s.heap)(h:∀h' c,(∀b o,b≠a->b≠kS->s.heap.get? b=M o->h'.get? b=M o)->h'.get? a=M (cU "list" (gI vs lt).toArray c)->P (.done<|.ret .none) { s with heap:=h' }):a_ (bf prog w) A (ksk_end a W vs.toArray e1 (.ref kS) keys.toArray) P E s:=by
 unfold ksk_end;simp only[gg,iN];by_cases h2:zl vs<2
 .have hn2:vs.toArray.size<2:=by rw[aS];exact h2
  rw[aH hn2,aH hn2];have eo:gI vs lt=vs:=by
   unfold gI p6;rw[aH h2];apply kT
   .simp
   .intro i a1 a2;simp[aV,ai a2]
  refine ak<|aN ?_;rw[StateT.run_pure];refine ak<|aN ?_;refine MU hka nk na hl h64 ?_ rfl (by rw[eo]) h;rw[eo];apply Gg.mp;simp[Gh,hl]
 .have hn2:¬vs.toArray.size<2:=by rw[aS];exact h2
  have h2':2<=zl vs:=by lia
  rw[aG hn2,aG hn2];have hP:lM (zl vs) (uy lt<|mE<|zl vs):=DB _ _ (uL<|by lia);have eo:gI vs lt=(uy lt<|mE<|zl vs).toList.map λi=>vs.getD i fN:=by
   unfold gI p6;rw[aG h2]
  have SR:zl (gI vs lt)=zl vs:=by
   rw[eo,aa,eB,hP.2.size_eq];simp
  let#[κ,Wm]:=hC h2';let#[q1,q2]:=Wm s rfl;refine ak<|q1 _ _ ?_;refine ak (gW (kat_run (Q:=λst' s'=>s'=s/\(Ik st').map (·.2)=(gI vs lt).toArray/\A_ st'=S)
   (G:=λp s'=>p=uy lt (mE<|zl vs)/\s'=s) hl h2' h64
   (λp st' s' _ har hf hg=>#[hg.2,by rw[kat_snds hl har,hg.1,eo],hf])
   (Mx (λi j C hi hj hC=>q2 i j C (by lia) (by lia) hC) _ _ (uL<|by lia) λ_=>#[rfl,rfl])) ?_ λ_ _ e=>e)
  rintro⟨⟨⟩,st'⟩ s' ⟨rfl,b1,b2⟩;exact MU hka nk na hl h64 b1 b2 SR h
end
def XS(X:Cx)(pins:B<|Addr×Obj)(b:Addr):Prop:=b≠X.ab.locals/\b∉X.fs/\(b∈X.ex\/X.ais.heap.objs.size<=b)/\(∀x c,X.ab.cells.lookup x=M c->c≠b)/\∀p∈X.pn++pins,p.1≠b
section
variable{X:Cx}{pins:B (Addr×Obj)}{O:L2.St}{H:Hp}{s:az}
def AM(I:L2.Inv X pins O H s)(h:∀p∈as,s.heap.get? p.1=M p.2/\H p.1=S/\XS X pins p.1/\∀v,p.2.data≠.cell v):L2.Inv X (as++pins) O H s:=
 I.w_ λp hp=>by
  rcases bh.mp hp with hp|hp
  .let#[h1,h2,h3,h4]:=h p hp;exact#[h1,h2,h3.1,h3.2.1,h4]
  .exact I.pin p (aR _ hp)
def yG(I:L2.Inv X (as++pins) O H s):L2.Inv X pins O H s:=I.w_ λp hp=>I.pin p<|aR _<|aR _ hp
end
section
variable{X:Cx}{pins:B (Addr×Obj)}{O:L2.St}{H:Hp}{s:az}
def ID(I:L2.Inv X pins O H s)(e:H b=M (.b<|kk.map kV)):o7 s.heap (.ref b) kk:=by
 let#[_,its,rv,o,ho,hc,n,hd]:=(I.ab b _ e);exact#[b,o,its,n,rfl,ho,hc,hd,rv]
theorem JZ(I:L2.Inv X pins O H s):∀(ks:B<|Addr×B Key),(∀p∈ks,H p.1=M (.b<|p.2.map kV))->Paired (o7 s.heap) (ks.map λp=>bU p.1) (ks.map (·.2))
|[],_=>.nil
|p::r,h=>.cons (ID I<|h p aB)<|JZ I r λq hq=>h q<|aq _ hq
def ae3{P:Dh->az->Prop}{E:B5->az->Prop}(I:L2.Inv X pins O H s)(fa:XS X pins a)(ha:H a=S)(ho:s.heap.get? a=M (cU "list" vs.toArray n))(h64:zl vs<64)(QI:Nat->B (Addr×B Key)->Hp->Prop)(w0:QI 0 [] H)(turn:∀(as:B<|Addr×Obj) i ks v s1 H1,vs[i]?=M v->L2.Inv X (as++pins) O H1 s1->QI i ks H1->a_ (bf X.prog X.w) A (call (.ref f) [v]) (λu s2=>∃b kk H2,u=.ref b/\L2.Inv X (as++pins) O H2 s2/\QI (i+1) (ks++[(b,kk)]) H2) (λ_ _=>bu) s1)(fin:∀ks H1,QI (zl vs) ks H1->(∀p∈ks,H1 p.1=M (.b<|p.2.map kV))/\L2.abb (ks.map (·.2))=L)(h:∀ks H1 s1 c,QI (zl vs) ks H1->L2.Inv X pins O H1 s1->H1 a=S->s1.heap.get? a=M (cU "list" (gI vs (wy (ks.map (·.2)))).toArray c)->P (.done<|.ret .none) s1):a_ (bf X.prog X.w) A (ksk_tree a (.ref f) W) P E s:=by
 have hla:=aQ ho;have s1:=kZ s.heap a<|c8 λ_=>(#[]:Array B5);obtain⟨e1,UX⟩:∃e1,(s.heap.update a<|c8 λ_=>(#[]:Array B5)).get? a=M (cU "list" #[] e1):=#[_,oY ho λ_=>#[]];have I1:=I.am (t':=s.toks) (λb o hb e=>(s1.2 b hb).trans e) ha fa.1 fa.2.2.1 fa.2.2.2.1 fa.2.2.2.2;refine ak<|Di ho rfl ?_;refine ak (n9 ho rfl ?_ (by rw[aS,cg];lia)<|cN _);refine ak<|zL UX rfl ?_;refine ak (JC ?_ (by show zl vs<=_;rw[cg];lia));refine ak<|rR ?_<|cN _;refine fH ?_;obtain⟨h2,Ut⟩:∃h2,h2=(s.heap.update a<|c8 λ_=>(#[]:Array B5)).push (cU "tuple" vs.toArray 0):=#[_,rfl];have I2:L2.Inv X pins O H { s with heap:=h2 }:=by rw[Ut];exact I1.ac λb o e=>aA _ e
 have ho2:h2.get? a=M (cU "list" #[] e1):=by rw[Ut];exact aA _ UX
 have keyH:h2.objs.size=s.heap.objs.size+1:=by rw[Ut,size_push',Heap.size_update]
 rw[<-Ut];have fk:=I2.uF (aM _)<|I2.ab.fresh<|aM _;have I3:L2.Inv X pins O H { s with heap:=h2.push (cU "list" #[] 0) }:=I2.ac λb o e=>aA _ e;have hka:h2.objs.size≠a:=by rw[keyH];exact jc<|qN hla
 have RT:(h2.push<|cU "list" #[] 0).get? h2.objs.size=M (cU "list" #[] 0):=be _ rfl;generalize h2.objs.size=kS at fk hka RT;have VC:∀(xs:Array B5) (e:Nat) (v:LD B5),(cU "list" xs e).data≠.cell v:=λ_ _ _ z=>nomatch z
 unfold ksk_rest;refine ak<|H_ ?_;rw[List.forIn_toArray];refine ak<|ksk_fold (λi s'=>∃ks H1 e,L2.Inv X ([(a,cU "list" #[] e1),(kS,cU "list" (ks.map λp=>bU p.1).toArray e)]++pins) O H1 s'/\QI i ks H1/\zl ks=i) vs 0 _ #[[],H,0,AM I3 λp hp=>?st,w0,rfl] ?step ?done
 case st=>
  rcases aO.mp hp with rfl|hp
  .exact#[aA _ ho2,ha,fa,VC _ _]
  .rw[aK.mp hp];exact#[RT,fk.1,fk.2,VC _ _]
 case step=>
  intro j x s' hx z0;let#[ks,H1,e,acv,hW,hl]:=z0;simp only[Dp]at hW hl ⊢;have hj:j<zl vs:=(aW.mp hx).1;refine ak<|BE<|gW (turn _ j ks x s' H1 hx acv hW) (λu s2 he=>?_) λ_ _ hF=>hF.elim;let#[b,kk,H2,rfl,J2,hW2]:=he;let#[p1,p2,p3,p4,p5]:=J2.pin (a,cU "list" #[] e1)<|aR _ aB;let#[k1,k2,k3,k4,k5]:=J2.pin (kS,cU "list" (ks.map λp=>bU p.1).toArray e)<|aR _<|aq _ aB;have sb:=kZ s2.heap kS (c8 (·.push (bU b)));obtain⟨c2,hc2⟩:∃c2,(s2.heap.update kS (c8 (·.push (bU b)))).get? kS=M (cU "list" ((ks.map λp=>bU p.1).toArray.push<|.ref b) c2):=#[_,oY k1 (·.push (.ref b))];refine ak (n9 k1 rfl ?_ (by rw[aS,aa,cg];lia) (by rw[Array.size_push,aS,aa,cg];lia));have J3:L2.Inv X pins O H2 { s2 with heap:=s2.heap.update kS (c8 (·.push (bU b))) }:=(yG J2).am (λb o hb e=>(sb.2 b hb).trans e) k2 fk.2.1 fk.2.2.2.1 fk.2.2.2.2.1 fk.2.2.2.2.2;refine aN #[rfl,ks++[(b,kk)],H2,c2,AM J3 λp hp=>?_,hW2,by rw[aZ,gQ,hl]];rcases aO.mp hp with rfl|hp
  .exact#[(sb.2 a<|gi hka).trans p1,p2,fa,VC _ _]
  .rw[aK.mp hp];refine#[?_,k2,fk.2,VC _ _];rw[show(((ks++[(b,kk)]).map λp=>bU p.1).toArray)=(ks.map λp=>bU p.1).toArray.push (.ref b)by simp];exact hc2
 case done=>
  intro s' z0;let#[ks,H1,e,acv,hW,hl]:=z0;rw[Dp]at hW hl;let#[p1,p2,p3,p4,p5]:=acv.pin (a,cU "list" #[] e1)<|aR _ aB;let#[k1,k2,k3,k4,k5]:=acv.pin (kS,cU "list" (ks.map λp=>bU p.1).toArray e)<|aR _<|aq _ aB;let#[f1,f2]:=fin ks H1 hW;let#[g1,g2,g3]:=oB f2;refine ak<|Di k1 rfl ?_;refine aaX hka k1 p1 (by rw[aa,hl]) h64 (λh2=>AB (JZ acv ks f1) g2 g3 (by rw[aa];lia)) λh' c hk hc=>?_;have J2:L2.Inv X pins O H1 { s' with heap:=h' }:=by
   refine(yG acv).step (d':=s'.drawn) (t':=s'.toks) (ch:=[a,kS]) (λb hb=>?_) (λb o _ _ hc e _=>hk b o (λz=>hc<|by simp[z]) (λz=>hc<|by simp[z]) e) (λb o _ _ hc e _=>#[o.slots,hk b o (λz=>hc<|by simp[z]) (λz=>hc<|by simp[z]) e]) (λ_ _ _ _ n=>n)
    (λb o hc e=>#[o,hk b o (λz=>hc<|by simp[z]) (λz=>hc<|by simp[z]) e]) (λ_ _ e=>e) (λ_ _ _ e=>e) (λb ps e=>#[#[],by rw[e];simp]) (λm hm=>?_) (λb u e=>?_) acv.bare
   .rcases aO.mp hb with rfl|hb
    .exact#[fa.2.2.1,fa.1,fa.2.2.2.1,fa.2.2.2.2]
    .rw[aK.mp hb];exact#[fk.2.2.2.1,fk.2.1,fk.2.2.2.2.1,fk.2.2.2.2.2]
   .let#[o,es,ep,ho,r]:=hm;exact#[o,es,ep,hk _ o (gi fa.1) (gi fk.2.1) ho,r]
   .have nn:∀c v,H1 c=M v->c≠a/\c≠kS:=λc v q=>#[(λz=>by rw[z,p2]at q;cases q),(λz=>by rw[z,k2]at q;cases q)];refine(acv.ab b u e).ab (λc v hc q=>?_) (λ_ q=>q) (λ_ _ q=>q) λ_ _ _ q=>q;rcases hc with rfl|hc
    .exact hk c v (nn c u e).1 (nn c u e).2 q
    .exact hk c v (nn c _ hc).1 (nn c _ hc).2 q
  exact h ks H1 _ c hW J2 p2 hc
end
noncomputable abbrev DJ(x:Str)(an:LD Expr)(ap:Pos):sR:=#[[],[#[x,an,ap]],S,[],[],S,[]]
def fsz(hx:x=("i":Str)):sj (kla_fn "<lambda>" qual (DJ x an ap) body scope cl pm cd ctv) #[[u],[]]=pure [(x,u)]:=by
 subst hx;rfl
section
variable{X:Cx}{pins:B (Addr×Obj)}{O:L2.St}{H:Hp}{s:az}
def ac8{k:Nat}{t u v:Tok}{Q:B5->az->Prop}{E:B5->az->Prop}(hh:X.A.handled=S)(I:L2.Inv X pins O H s)(hr:Eb s.heap r 0 (k:J) 1 t u v)(h64:k<64)(QI:Nat->B (Addr×B Key)->Hp->Prop)(w0:QI 0 [] H)(turn:∀(as:B<|Addr×Obj) (i:Nat) ks t s1 H1,i<k->L2.Inv X (as++pins) O H1 s1->QI i ks H1->a_ (bf X.prog X.w) X.A.in1.in1 (call (.ref f) [.int (i:J) t]) (λu s2=>∃b kk H2,u=.ref b/\L2.Inv X (as++pins) O H2 s2/\QI (i+1) (ks++[(b,kk)]) H2) (λ_ _=>bu) s1)(fin:∀ks H1,QI k ks H1->zl ks=k/\(∀p∈ks,H1 p.1=M (.b<|p.2.map kV))/\L2.abb (ks.map (·.2))=L)(h:∀ks H1 s1 a,QI k ks H1->H1 a=S->L2.Inv X pins O (upd H1 a (.a ((dX (ks.map (·.2))).map λ(i:Nat)=>V.b (i:J)))) s1->Q (.ref a) s1):a_ (bf X.prog X.w) X.A (call (.builtin "sorted") [.ref r] [(nA "key",.ref f)]) Q E s:=by
 refine call_function_entry_kw E5 Dj Dk (ksk_s1 _ _) ?_;refine ak<|aN ?_;refine ak (Bm (n:=k) hh hr (K8 (by lia) (by lia) (by lia)<|by lia) (by rw[BB];split<;>lia) (by lia) λg1 tk acc k1 it=>?_);have hl:zl acc.toList=k:=by rw[eB];exact it.1
 have hv:=GN 0 k acc it;dsimp only;refine ak (rR ?_ (by rw[hl,cg];lia));have I1:=I.ac (t':=tk) k1;have fk:=I1.uF (aM _)<|I1.ab.fresh<|aM _;have SO:(g1.push<|cU "list" acc.toList.toArray 0).get? g1.objs.size=M (cU "list" acc.toList.toArray 0):=be _ rfl;have I2:L2.Inv X pins O H { s with heap:=g1.push<|cU "list" acc.toList.toArray 0,toks:=tk }:=I1.ac λb o e=>aA _ e;refine ak<|fH<|wpAny_call_entry_kw Aq #[_,SO,rfl] za ?body<|ksk_l1 _ _
 case body=>
  show a_ (bf X.prog X.w) X.A.in1.in1 (Ae.«list.sort» #[[.ref g1.objs.size],[(nA "key",.ref f)]]) _ _ _;rw[ksk_t1];refine ae3 (s:={ s with heap:=g1.push<|cU "list" acc.toList.toArray 0,toks:=tk }) I2 fk.2 fk.1 SO (by lia) QI w0 (λas i ks v s1 H1 hi acv w=>?_) (λks H1 w=>(fin ks H1<|hl▸w).2) λks H1 s1 c w acv n e=>#[_,rfl,aN #[_,rfl,?_]]
  .have hik:i<k:=by rw[<-hl];exact(aW.mp hi).1
   let#[t,rfl]:=it.2 i v (by rw[<-iQ];exact hi);rw[show(0:J)+(i:J)*1=(i:J)by lia];exact turn as i ks t s1 H1 hik acv w
  .rw[hl]at w;let#[f1,f2,f3]:=fin ks H1 w;have Sk:zl (ks.map (·.2))=k:=by rw[aa];exact f1
   refine h ks H1 s1 _ w n<|acv.bp #[n,fk.2] #[?_,_,c,?_,e]
   .rw[aa];unfold dX;rw[oA,Sk,cg];lia
   .have lt:∀i∈dX (ks.map (·.2)),i<zl ((bW k).map λ(k:Nat)=>V.b<|0+(k:J)):=λi hi=>by
     rw[aa,ig,<-Sk];exact vz _ _ i hi
    have e1:gI acc.toList (wy (ks.map (·.2)))=(dX (ks.map (·.2))).map λi=>acc.toList.getD i fN:=by
     unfold gI dX;rw[hl,Sk]
    have e2:((dX (ks.map (·.2))).map λ(i:Nat)=>V.b (i:J))=(dX (ks.map (·.2))).map λi=>(((bW k).map λ(k:Nat)=>V.b<|0+(k:J)).getD i V.d):=
     fT λi hi=>by
      have:=lt i hi;rw[aa,ig]at this;simp[aV,uB this]
    rw[e1,e2];exact BZ hv _ lt
end
section
variable{X:Cx}
def afF(I:L2.Inv X pins O H s)(h:(P,q)∈o6):∃ps,H P=M (.h ps)/\QG ps=q:=by
 let#[more,e]:=I.tb _ h;exact#[_,e,by simp[QG]]
def adH{p p2 pos pos2 kp unI ap:Pos}{x:Str}{an:LD Expr}{ne body:Expr}{scope:fG}{fr:B Nat}{te tb:TE}(hc:X.ac=L)(Q9:MS X P)(Q7:Ri X.ab.scope X.N scope x fr)(hg:Gl X "sorted")(hm:X.mg "sorted"=S)(Tf:Gl X "range")(hm2:X.mg "range"=S)(hn:PE X ne te)(hs:acx ne=L)(hb:∀(f:Addr) (cd:B5) (s:az) (H:Hp),PE (DH X X.A.in1.in1 (x::gB X.N [] fr) (X.ab.qual++"<lambda>") scope f cd s H) body tb):PE X (.Call (.Name "sorted" p) [.Call (.Name "range" p2) [ne] [] pos2] [#[M "key",.Lambda (DJ x an ap) body scope unI,kp]] pos) (Q6 te tb fr):=by
 intro pins s O H Q I h;refine eW (mR I hg hm (u:=.builtin "sorted") (by decide +kernel) ?_ (by decide)<|by decide);refine callWith_kw ?_ rfl rfl rfl;have hst:gp [ne] X.ab=[(W,eval ne X.ab)]:=by rw[f9 hs];rfl
 refine f_ (Ip (mR I Tf hm2 (u:=.type "range") (by decide +kernel)<|cZ ?_ (f9 hs) rfl));rw[hst];refine f_<|bH (hn pins s O H _ I h) λv s1 ⟨n,H1,I1,r1,q⟩=>gE ?_;let#[k,e1,h64,q]:=q;subst e1;let#[t,rfl]:=r1;refine Ol<|gE<|kwAll_cons ?_;have I2:L2.Inv X pins O H1 { s1 with heap:=s1.heap.push { cls:=.type "range",data:=.fields (List.toArray [.int 0 s1.toks,.int (k:J) t,.int 1<|s1.toks+1]) },toks:=s1.toks+1+1 }:=I1.ac λb o e=>aA _ e;have S5:=I1.uF (aM _)<|I1.ab.fresh<|aM _;have I3:L2.Inv X ([(s1.heap.objs.size,({ cls:=.type "range",data:=.fields (List.toArray [.int 0 s1.toks,.int (k:J) t,.int 1<|s1.toks+1]) }:Obj))]++pins) O H1 { s1 with heap:=s1.heap.push { cls:=.type "range",data:=.fields (List.toArray [.int 0 s1.toks,.int (k:J) t,.int 1<|s1.toks+1]) },toks:=s1.toks+1+1 }:=
  AM I2 λp hp=>by rw[aK.mp hp];exact#[be _ rfl,S5.1,S5.2,λ_ z=>nomatch z]
 let#[ps,hP,hq]:=afF I3 Q9.tb;refine hS2 I3 Q9 hP hq (vX<|sC Q7.tovB I3) rfl λf c' pm ctv H' s' hH acv hle hf hnf z0=>?_;let#[oc,vs,tq,e1,e2,e3]:=z0;refine kwAll_nil ?_;have ff:=I3.uF hle hnf;have J2:=AM (as:=[(f,_)]) acv λp hp=>by rw[aK.mp hp];exact#[hf,ff.1,ff.2,λ_ z=>nomatch z]
 have hro:=(J2.pin (s1.heap.objs.size,_)<|aR _<|aR _<|cz _ aB).1;refine ac8 (I.ok.hd hc) J2 hro h64 (λi ks H=>i<=k/\zl ks=i/\H c'=M (.f oc<|.d P)/\Q5 tb (tN [] fr O) (λks H3=>((∀p∈ks,H3 p.1=M (.b<|p.2.map kV))/\L2.abb (ks.map (·.2))=L)/\∀p,H3 p=S->Q (.a p) (upd H3 p (.a ((dX (ks.map (·.2))).map λ(i:Nat)=>V.b (i:J))))) (k-i) i ks H) #[cN _,rfl,e1,q H'<|hH.imp id λz0=>by let#[c,oc,z]:=z0;exact #[c,oc,P,z]] (λas i ks t s2 H2 hi K w=>?_) (λks H2 w=>?_) λks H2 s2 a w na K=>?_
 .let#[_,V5,g,w]:=w;rw[show k-i=k-(i+1)+1 by lia]at w;refine gW (hS3 (A:=X.A.in1.in1) I.ok.frames (I.ok.hd hc) Q9.dp Q7 K (K.pin (f,_)<|aR _<|aR _<|cz _ aB).1 (aaV K g e2 e3) (fsz Q7.ni) (v:=.b (i:J)) #[t,rfl] (hb f (.ref c') s2 H2) w) (λu s3 ⟨y,H3,K3,ru,⟨b,kk,e,w3⟩,kf⟩=>?_) λ_ _ z=>z;subst e;cases ru;exact#[b,kk,H3,rfl,K3,hi,by rw[aZ,gQ,V5],kf _ _ _ g,w3]
 .let#[_,V5,_,w]:=w;rw[yh]at w;exact#[V5,w.1.1,w.1.2]
 .let#[_,V5,_,w]:=w;rw[yh]at w;exact#[.a a,_,yG<|yG K,rfl,w.2 a na]
end
end L3
end
section
namespace L2
open PySem PySem.W PySem.Calls PyProof.Rows
theorem acR:A6 (.type "list_reverseiterator") "__len__"=pure S:=by rfl
theorem ftd:A6 (.type "list_reverseiterator") "__length_hint__"=pure (M<|.builtin "list_reverseiterator.__length_hint__"):=by rfl
section
variable{prog:bS}{w:bO}{A:cY}{E:B5->az->Prop}{s:az}
def fth{Q:Bool->az->Prop}(hT:s.TypeIs (.ref r) "list_reverseiterator")(h:Q W s):a_ (bf prog w) A (Lb<|.ref r) Q E s:=by
 refine ak<|zd hT acR ?_;refine ak<|zd hT ftd ?_;generalize hid:("list_reverseiterator.__length_hint__":String)=id0
 wp_delta
 rw[show splitId id0=M ("list_reverseiterator","__length_hint__")from by subst hid;decide +kernel];subst hid;refine ak (Gi (b:=L) hT (by rfl) ?_);refine uh (λhab=>aI hab<|by decide) λ_=>?_;refine uh (λ_=>?_) (λhab=>aI (by rfl) hab);refine uh (λhab=>aI hab<|by decide) λ_=>?_;exact aN h
def Ll{Q:B5->az->Prop}(hh:A.handled=S)(hne:l≠I)(hI:s.heap.IsRevIter I l<|(items.size:J)-1)(hl:s.heap.IsList l items)(hn:items.size<=aj)(hQ:∀h' tk acc c,(∀b o,b≠I->s.heap.get? b=M o->h'.get? b=M o)->h'.get? s.heap.objs.size=M { cls:=.type "list",dict:=S,data:=.seq acc c,slots:=#[] }->sW (λi v=>items[items.size-1-i]?=M v) acc items.size->Q (.ref s.heap.objs.size) { s with heap:=h',toks:=tk }):a_ (bf prog w) A (call (.type "list") [.ref I]) Q E s:=by
 have hIs:=let⟨_,e,_⟩:=hI;aQ e
 have hls:=let⟨_,e,_⟩:=hl;aQ e
 refine u9 (Q₁:=λobj QE=>obj=.ref s.heap.objs.size/\QE={ s with heap:=s.heap.push { cls:=.type "list",data:=.seq #[] } }) adB (OB _) OC
  (code_list_new _ #[rfl,rfl]) λobj QE aiz=>?_
 let#[rfl,rfl]:=aiz;generalize WX:s.heap.objs.size=Q7 at *;have hS:(s.heap.push { cls:=.type "list",data:=.seq #[] }).get? Q7=M { cls:=.type "list",data:=.seq #[] }:=WX▸be _ rfl;have QI:=Walks.listRev (prog:=prog) (w:=w) (A:=A.in1.in1) hh I l hne items;have hSf:Q7∉[I,l]:=by simp only[aO,aF,or_false,not_or];exact#[jc hIs,jc hls]
 refine#[#[_,hS,rfl],Oq _ _,?_];show a_ _ _ (do let old <-Pe (.ref Q7);yt (.ref Q7) λ_=>#[];letGo old.toList.reverse;Lc (.ref Q7) (.ref I) .none) _ _ _;refine ak ?_;refine ak<|Ai hS rfl<|aN ?_;refine ak<|wpAny_updateSeq hS rfl ?_;have aiY:=sU (c8 λ_=>(#[]:Array B5)) hS rfl;have X5:∀b o,s.heap.get? b=M o->((s.heap.push { cls:=.type "list",data:=.seq #[] }).update Q7<|c8 λ_=>(#[]:Array B5)).get? b=M o:=
  λb o e=>(mz _ _<|jc<|WX▸aQ e).trans<|aA _ e
 have st:(λi (h:Heap)=>i<=items.size/\h.IsRevIter I l ((items.size:J)-1-(i:J))/\h.IsList l items) 0 ((s.heap.push { cls:=.type "list",data:=.seq #[] }).update Q7<|c8 λ_=>(#[]:Array B5)):=
  #[cN _,by simpa using hI.at λo e=>X5 I o e,hl.at λo e=>X5 l o e]
 refine ak<|Pd ?_;generalize((s.heap.push { cls:=.type "list",data:=.seq #[] }).update Q7<|c8 λ_=>(#[]:Array B5))=h2 at *;refine ak<|pV (T:="list_reverseiterator") (Av (s:={ s with heap:=h2 }) st.2.1) ?_;have h1:yi (.ref Q7) (.ref I)=W:=by simp[yi];exact jc hIs
 have h2':(Value.type "list_reverseiterator"==Value.type "list")=W:=by decide
 have h3:(Value.type "list_reverseiterator"==Value.type "tuple")=W:=by decide
 simp only[h1,h2',h3,wg,gg,iN];refine ak<|QI.self 0 { s with heap:=h2 } _ _ st ?_;refine ak<|fH<|fth (Av (s:={ s with heap:=h2 }) st.2.1) ?_;refine uh (λhab=>aI hab<|by decide +kernel) λ_=>?_;refine aN #[jW L7 _,codeAny_extend_loopS QI.toS hn Q7 hSf .none items.size 0 _ #[] _ rfl (cN _) st aiY (ItemsOf.nil _) λs' acc' c' hm hS' hacc=>?_];rw[Moved.eq_with hm];exact#[rfl,hQ s'.heap s'.toks acc' c' (λb o hb e=>hm.heap b o (λhmem=>by
  rcases aO.mp hmem with e'|hmem
  .exact aI (aQ e) (by rw[WX,e'];exact cW _)
  .exact hb (aK.mp hmem))<|X5 b o e) hS' hacc]
end
end L2
end
section
namespace L3
open PySem PySem.Spec PyProof.Rows L2
section
variable{X:Cx}
def ftp(r:bN xs its)(hl:zl acc=zl its)(h:∀i v,acc[i]?=M v->its[zl its-1-i]?=M v):bN xs.reverse acc:=by
 have e:acc=its.reverse:=by
  apply kT (by simp_all);intro i h1 h2;have:=h i acc[i]<|ai h1;rw[List.getElem_reverse];rw[ai<|by omega]at this;exact(cE this).symm
 rw[e];exact bN.reverse r
def adI(hc:X.ac=L)(hg:Gl X "list")(hm:X.mg "list"=S)(Tf:Gl X "reversed")(hm2:X.mg "reversed"=S)(he:PE X e te)(hs:acx e=L):PE X (.Call (.Name "list" p) [.Call (.Name "reversed" p2) [e] [] pos2] [] pos) (λO H Q=>te O H λx H1=>WC x H1 Q):=by
 intro pins s O H Q I h;refine eW (mR I hg hm (u:=.type "list") (by rfl) ?_);refine cZ ?_ rfl rfl;refine f_<|Ip<|mR I Tf hm2 LF<|cZ ?_ (f9 hs) rfl;rw[f9 hs];refine f_<|bH (he pins s O H _ I h) λu s1 z0=>?_;let#[x,H1,I1,r1,b,xs,ex,hx,q]:=z0;refine gE ?_;subst ex;cases r1;let#[its,rv,pl,hz]:=I1.list (.inl hx:jo X.K H1 b xs);refine Dq pl.isList<|gE ?_;have hb:=let⟨_,e,_⟩:=pl.isList;aQ e
 refine Ll (I1.ok.hd hc) (bI hb) #[_,be _ rfl,rfl,rfl] (pl.isList.push _) (by rw[aS,<-rv.length];exact hz) λh' tk acc c k e it=>?_;have I2:L2.Inv X pins O H1 { s1 with heap:=s1.heap.push (revObj b<|(its.toArray.size:J)-1) }:=I1.ac λb o e=>aA _ e;have k':=λb o e=>k b o (bI<|aQ e)<|aA _ e;refine#[.a _,_,I1.ad k' (fO (by rw[gY];exact iM _)) (show fU X.prog X.w _ h' _ (.a xs.reverse)from#[by rw[oN];exact hz,acc.toList,c,ftp rv (by rw[eB,it.1,aS]) λi v hv=>?_,by rw[ug];exact e]),rfl,q _ (I1.ab.fresh (by show s1.heap.objs.size<=(s1.heap.push _).objs.size;rw[gY];exact rA _))];have:=it.2 i v (by rw[<-iQ];exact hv);simpa using this
end
def aaY{P:bS}{w:bO}{k:Key}{u:B5}(h:(fy P w).is k u=L):acb (kV k) u:=by
 rcases iV h with⟨i,t,rfl,rfl⟩|⟨x,t,rfl,rfl⟩
 .exact#[t,rfl]
 .exact#[t,rfl]
end L3
end
section
namespace L2
open PySem PySem.W PySem.Calls PyProof.Rows L3
def PL(x:gM P w H h)(hn:H a=S)(new:fU P w (upd H a o) h a o):gM P w (upd H a o) h:=λb u e=>by
 by_cases hb:b=a
 .subst hb;rw[bZ]at e;cases e;exact new
 .rw[bg hb]at e;exact(x b u e).ab (λ_ _ _ r=>r) (λc r=>by rw[bg<|cj r hn];exact r) (λc ys r=>by rw[bg<|cj r hn];exact r) λc o ys r=>by rw[bg<|cj r hn];exact r
structure TV (H H':Hp) (h:Heap):Prop where
 grow:∀b o,H b=M o->H' b=M o
 free:∀b o,h.get? b=M o->H b=S->H' b=S
def TV.add(g:TV H H' h)(hn:H' a=S)(ha:h.objs.size<=a):TV H (upd H' a o) h:=
 #[λb u e=>by rw[bg<|cj (g.grow b u e) hn];exact g.grow b u e,λb u e n=>by rw[bg<|bI<|bX (aQ e) ha];exact g.free b u e n]
theorem J0:∀{kss:B<|B Key}{ts:B Addr}{H1:Hp}{k:B Addr->Hp->Prop},Paired (o7 h') (ts.map bU) kss->(∀x∈kss,zl x<=aj)->gM P w H1 h'->TV H H1 h->(∀t∈ts,H1 t=S/\h.objs.size<=t)->ts.Nodup->zQ kss H1 k->
 ∃H2,k ts H2/\gM P w H2 h'/\TV H H2 h/\jX H2 kss ts/\(∀b o,H1 b=M o->H2 b=M o)/\∀b,b∉ts->H1 b=S->H2 b=S
|[],[],H1,k,_,_,hok,g,_,_,q=>#[H1,q,hok,g,.nil,λ_ _ e=>e,λ_ _ e=>e]
|x::kss,t::ts,H1,k,.cons p r,hl,hok,g,ht,nd,q=>by
 let#[hn,hs]:=ht t aB;let#[wt4,nd]:=b9.mp nd;let#[t',o,us,n,e,h1,h2,h3,h4]:=p;cases e;have srJ:=PL hok hn (show fU P w _ h' t (.b<|x.map kV)from#[by rw[aa];exact hl x aB,us,h4,o,h1,h2,n,h3]);let#[H2,a1,a2,a3,a4,a5,a6]:=J0 r (λy hy=>hl y<|aq _ hy) srJ (g.add hn hs) (λu hu=>#[by rw[bg λz:u=t=>wt4<|z▸hu];exact(ht u<|aq _ hu).1,(ht u<|aq _ hu).2]) nd<|q t hn;refine#[H2,a1,a2,a3,.cons (a5 t _ bZ) a4,λb o e=>a5 b o (by rw[bg<|cj e hn];exact e),λb hb e=>a6 b (λz=>hb<|aq _ z) ?_];rw[bg λz:b=t=>hb (by rw[z];exact aB)];exact e
|[],_::_,_,_,r,_,_,_,_,_,_=>nomatch r
|_::_,[],_,_,r,_,_,_,_,_,_=>nomatch r
section
variable{prog:bS}{w:bO}{A:cY}{E:B5->az->Prop}{s:az}
def acS{lt:Nat->Nat->Bool}{G:B B5->Heap->Prop}{Q:B5->az->Prop}(hC:∀vs h1 h',G vs h1->(∀b o,h1.get? b=M o->h'.get? b=M o)->2<=zl vs->JU prog w A.in1.in1 vs lt h')(h64:∀vs h1,G vs h1->zl vs<64)(hc:a_ (bf prog w) A.in1 (D_<|.ref l) (λvs s1=>∃h1 tk,s1={ s with heap:=h1,toks:=tk }/\G vs h1) (λ_ _=>bu) s)(h:∀vs h1 h' a c tk,G vs h1->(∀b o,h1.get? b=M o->h'.get? b=M o)->h1.objs.size<=a->h'.get? a=M (cU "list" (gI vs lt).toArray c)->Q (.ref a) { s with heap:=h',toks:=tk }):a_ (bf prog w) A (call (.builtin "sorted") [.ref l]) Q E s:=by
 refine w5 E5 Dj Dk (Og _) ?_;refine ak<|aN ?_;refine ak<|gW hc (λvs s1 ⟨g1,tk,e1,hG⟩=>?_) λ_ _ x=>x.elim;subst e1;have h64:=h64 vs g1 hG;dsimp only;refine ak (rR ?_ (by rw[cg];lia));have SO:(g1.push<|cU "list" vs.toArray 0).get? g1.objs.size=M (cU "list" vs.toArray 0):=be _ rfl;have keep:∀b o,g1.get? b=M o->(g1.push<|cU "list" vs.toArray 0).get? b=M o:=λb o e=>aA _ e;refine ak<|fH<|nR Aq #[_,SO,rfl] za ?body<|JD _
 case body=>
  refine BY SO (λh' k'=>hC vs g1 h' hG λb o e=>k' b o (bI<|aQ e)<|keep b o e) h64 λh' c k' e'=>?_;exact#[_,rfl,aN #[_,rfl,h vs g1 h' _ c tk hG (λb o e=>k' b o (bI<|aQ e)<|keep b o e) (aM _) e']]
end
end L2
namespace L3
open PySem PySem.Spec PySem.W PyProof.Rows L2
section
variable{X:Cx}
def aaZ:∀ks∈mW ps,ks≠[]:=λks h=>by
 let#[p,_,rfl]:=bF.mp h;exact List.cons_ne_nil _ _
def J4:∀ks∈mW ps,∀qs∈mW ps,kI ks qs=L:=λks h qs h'=>by
 let#[p,_,rfl]:=bF.mp h;let#[q,_,rfl]:=bF.mp h';rfl
set_option tactic.hygienic true in
theorem Fw{lo:Addr}:∀{ps:B<|Str×J}{vs:B<|Key×B5}{as:B Addr},KV (ps.map λp:Str×J=>(dg p.1,V.b p.2)) vs->zl as=zl vs->KdxG (fy P w) vs lo h as->Paired (o7 h) (as.map bU) (mW ps)
|[],_,as,r,hl,g=>by
 cases r;cases as with
 |nil=>exact .nil
 |cons _ _=>simp at hl
|p::ps,_,as,r,hl,g=>by
 cases r with
 |cons q t=>
  cases as with
  |nil=>simp at hl
  |cons a as=>
   rename_i u vs;let#[key,k,x,e1,e2,e3]:=g.pairs 0 a rfl;simp at e1;subst e1;let#[q1,q2]:=q;have hk:=aaY e2;rw[<-(show dg p.1=k from q1)]at hk;refine .cons #[a,_,[key,x],_,rfl,e3,rfl,rfl,#v[hk,q2]] (Fw t (by simpa using hl) #[(vQ.mp g.rise).2,λb hb=>g.above b<|aq _ hb,λj b hj=>by simpa using g.pairs (j+1) b<|by simpa using hj])
def adJ(hc:X.ac=L)(hg:Gl X "sorted")(hm:X.mg "sorted"=S)(he:PE X e te)(hb:wR e=L)(hl:(p2.endLine==pos2.line)=L):PE X (.Call (.Name "sorted" p) [.Call (.Attribute e "items" p2) [] [] pos2] [] pos) (λO H Q=>te O H λx H1=>WB x H1 Q):=by
 intro pins s O H Q I h;refine eW (mR I hg hm (u:=.builtin "sorted") (by decide +kernel) ?_);refine l5 ?_ rfl rfl;refine f_<|yx (DG hb) hl<|bH (he pins s O H _ I h) λu s1 z0=>?_;let#[x,H1,I1,r1,a,ps,ex,hx,h64,q]:=z0;subst ex;cases r1;let#[hz,hS,vs,kv,hd]:=yz I1.ab hx;have hd':=hd;let#[o,es,ep,ho,hx',_]:=id hd;refine#["dict","dict.items",OD,yy,OE,hd.typeIs,λb e=>by cases e;exact#[o,ho,hx'.2.1],rC rfl<|BJ ?_];refine uf yy hd.typeIs Ot (L8 _) (meets_dict_items (fy X.prog X.w) a hS) #[#[vs,hd],gE ?_];let#[ep,hat]:=hd.dictAt;have hlen:zl vs=zl ps:=by rw[<-Paired.length kv,aa]
 refine acS (G:=λus h1=>∃as,us=as.map bU/\zl as=zl vs/\KdxG (fy X.prog X.w) vs s1.heap.objs.size h1 as/\s1.heap.objs.size<=h1.objs.size/\∀b o,s1.heap.get? b=M o->h1.get? b=M o)
  (λus h1 h' z0 k h2=>by let#[as,e1,e2,e3,e5,e4]:=z0;exact e1▸AB (Paired.imp' (λv ks x=>o7.keep' x k)<|Fw kv e2 e3) aaZ J4 (by rw[<-e1];exact h2))
  (λus h1 qq=>by let#[as,e1,e2,_]:=qq;rw[e1,aa,e2,hlen];exact h64)
  (kdx_collect (knd:=fy X.prog X.w) (kvs:=vs) (ep:=ep) (I1.ok.hd hc) #[_,be _ rfl,rfl,rfl] (hat.push _) (by rw[hlen,cg];lia) λh' tk as k e2 e3=>#[h',tk,rfl,as,rfl,e2,e3.low (by rw[gY];exact rA _),fO<|aQ<|k s1.heap.objs.size _<|be _ rfl,λb o e=>k b o<|aA _ e])
  λus h1 h' b c tk ⟨as,e1,e2,e3,e5,e4⟩ k hb e=>?_
 have ltK1:=Fw kv e2 e3;have hl1:zl as=zl (mW ps):=by rw[e2,hlen,mW,aa]
 have jb:=I1.ab.ac e4;have k2:=λb o e=>k b o<|e4 b o e;let#[H2,a1,a2,a3,a4,a5,a6]:=J0 (P:=X.prog) (w:=X.w) (H:=H1) (h:=s1.heap) (h':=h') (Paired.imp' (λv ks x=>o7.keep' x k) ltK1) (λx hx=>by
   let#[p,_,rfl]:=bF.mp hx;show 2<=aj;rw[cg];lia) (I1.ab.ac k2) #[λ_ _ e=>e,λ_ _ _ e=>e] (λt ht=>#[I1.ab.fresh<|fO<|e3.above t ht,fO<|e3.above t ht]) (e3.rise.imp λh=>bI h) q
 have hs1:s1.heap.objs.size<=b:=cu e5 hb;have hn:H2 b=S:=a6 b (λz=>aI (e3.there z)<|Nat.not_lt.mpr hb)<|I1.ab.fresh hs1;have eo:gI us (wy<|mW ps)=(dX<|mW ps).map λi=>us.getD i fN:=by
  unfold gI dX;rw[e1,aa,hl1]
 have lt:∀i∈dX (mW ps),i<zl as:=λi hi=>by rw[hl1];exact vz _ _ i hi
 have ok3:gM X.prog X.w (upd H2 b<|.a<|(dX<|mW ps).map λi=>.a<|as.getD i 0) h':=PL a2 hn (show fU X.prog X.w _ h' b (.a _)from#[by
   rw[aa];unfold dX;rw[oA,<-hl1,e2,hlen,cg];lia,_,c,L2.vv as _ lt,by rw[<-e1,<-eo];exact e])
 have g3:=a3.add (o:=.a<|(dX<|mW ps).map λi=>.a<|as.getD i 0) hn hs1;exact#[.a b,_,Inv.IL (s:=s1) (ch:=[]) (t':=tk) I1 (λ_ z=>nomatch z) (λb o _ e=>k2 b o e) (λb o _ e n=>g3.free b o e n) g3.grow ok3,rfl,a1 b hn]
end
end L3
end
section
namespace L3
open PySem PySem.Spec PyProof.Rows L2
def XX(ob:Obj)(ts:B Addr)(es:Array vN)(ep:Nat):Prop:=ob.ExactDict/\ob.data=.dict es ep/\es.toList.map (·.key)=ts.map bU
noncomputable def Xz(a:Addr)(ob:Obj)(kvs:B<|B Key×V)(ts:B Addr):It:=
 #[λi H=>MJ H a ob kvs/\i<zl ts,λi H x H'=>H'=H/\∃t,ts[i]?=M t/\x=.a t,λi H=>MJ H a ob kvs/\zl ts<=i]
def acV{w:bO}{K:ao}{tg:Expr}(a it:Addr)(ob:Obj)(kvs:B<|B Key×V)(ts:B Addr)(es:Array vN)(ep:Nat)(ho:XX ob ts es ep):SN P w K tg (Xz a ob kvs ts) [it] it (λi h=>i<=es.size/\h.IsKeyIter it a i es.size ep) where
 mem:=by simp
 obj:=λi h st b hb=>by
  have e:b=it:=by simpa using hb
  subst e;let#[_,o,e,c,d]:=st;exact#[o,e,λv z=>by rw[d]at z;cases z]
 keep:=λi h h' st k=>#[st.1,st.2.at λo e=>k it (by simp) o e]
 item:=by
  intro X hP hw hK hc i pins s O H E I hf st hg;subst hP hw hK;let#[hq,hx]:=hg;let#[f0,f1,f2,f3,f4,f5]:=hf it (by simp);have hl:es.size=zl ts:=by have:=fY vh ho.2.2;simpa using this
  have hi:i<es.size:=by omega
  have hr:rT s.heap a es ep:=#[ob,(I.ab a _ hq).1,ho.1,ho.2.1];refine MC st.2 hr hi λh' st' sb=>?_;have I1:=I.am (t':=s.toks) (λb o hb e=>(sb.2 b hb).trans e) f0 f1 f3 f4 f5;let#[o,e,c,d]:=id st';have ek:es[i].key=.ref (ts[i]'hx):=by
   have:=fY (·[i]?) ho.2.2;simp only[aJ,iQ,kj hi,ai hx,Ir]at this;exact cE this
  refine#[_,rfl,DA e c d (by decide) #[.a<|ts[i]'hx,H,I1,ek,#[rfl,_,ai hx,rfl],#[hi,st'],λb hb=>(hf b hb).1]]
 done:=by
  intro X hP hw hK hc i pins s O H E I hf st hg;subst hP hw hK;let#[hq,hx]:=hg;let#[f0,f1,f2,f3,f4,f5]:=hf it (by simp);have hl:es.size=zl ts:=by have:=fY vh ho.2.2;simpa using this
  have ei:i=es.size:=by lia
  subst ei;have hr:rT s.heap a es ep:=#[ob,(I.ab a _ hq).1,ho.1,ho.2.1];exact Pr (I.ok.hd hc) st.2 hr λh' eb=>#[rfl,I.am (λb o hb e=>eb b o hb e) f0 f1 f3 f4 f5]
 self:=λ_ _ _ _ _ st h=>Ba st.2 h
def acW:tL (Xz a ob kvs ts) (λH=>MJ H a ob kvs) (zR ts) where
 go:=λi H it ok hi=>by
  have:=(aW.mp hi).1;exact#[ok,by simpa[zR]using this]
 yld:=λi H it x H' ok hi hy k hk=>by
  let#[rfl,t,hy,rfl]:=hy;unfold zR at hi;rw[aJ,hy]at hi;cases hi;exact hk
 stop:=λi H ok hi=>#[ok,by unfold zR at hi;rw[aa]at hi;exact hi]
section
variable{X:Cx}{tg:Expr}
def ae5{e:Expr}{te:TE}(he:PE X e te):GH X tg e (λO H k=>te O H λx H1=>Tu x H1 k):=by
 intro pins s O H k I h;refine bH (he pins s O H _ I h) λv s1 z0=>?_;let#[x,H1,I1,r1,a,kvs,ex,hd,q]:=z0;subst ex;cases r1;let#[hz,hS,xs,rx,o,es,ep,h1,h2,h3,h4,h5]:=(I1.ab a _ hd);have hts:=IE rx;have hob:XX o (xs.map λx=>x.2.1) es ep:=#[h2,h3,by rw[h4,bG,bG];rfl];have I2:L2.Inv X pins O (upd H1 a<|.f o<|.c kvs) s1:=I1.ar (by rw[hd];exact qH) (.inl rfl) (λb u _ e=>e) #[o,h1]
  (#[h1,hz,hS,xs,Paired.Iw rx λp q z=>#[z.1,by rw[bg (QF z.2.1 hd λw=>by cases w)];exact z.2.1,z.2.2],o,es,ep,h1,h2,h3,h4,h5])
 have hr:rT s1.heap a es ep:=#[o,h1,h2,h3];refine MB hS hr ?_;refine#[s1.heap.objs.size,[s1.heap.objs.size],_,_,_,rfl,I2.ac λb o e=>aA _ e,acV a _ o kvs _ es ep hob,#[cN _,_,be _ rfl,rfl,rfl],λc hc=>?_,_,_,acW,q o _ hts];have hc:c=s1.heap.objs.size:=by simpa using hc
 subst hc;exact I2.uF (aM _)<|I2.ab.fresh<|aM _
end
def aca(h:(a&&b)=L):a=L/\b=L:=by simpa using h
def tP(h:(x1&&x2&&x3)=L):(x1=L/\x2=L)/\x3=L:=#[aca (aca h).1,(aca h).2]
def wU(h:(x1&&x2&&x3&&x4)=L):((x1=L/\x2=L)/\x3=L)/\x4=L:=#[tP (aca h).1,(aca h).2]
def DK(h:(x1&&x2&&x3&&x4&&x5)=L):(((x1=L/\x2=L)/\x3=L)/\x4=L)/\x5=L:=#[wU (aca h).1,(aca h).2]
def DM(h:(x1&&x2&&x3&&x4&&x5&&x6)=L):((((x1=L/\x2=L)/\x3=L)/\x4=L)/\x5=L)/\x6=L:=#[DK (aca h).1,(aca h).2]
def Ro(h:(x1&&x2&&x3&&x4&&x5&&x6&&x7)=L):(((((x1=L/\x2=L)/\x3=L)/\x4=L)/\x5=L)/\x6=L)/\x7=L:=#[DM (aca h).1,(aca h).2]
def afG(h:(x1&&x2&&x3&&x4&&x5&&x6&&x7&&x8)=L):((((((x1=L/\x2=L)/\x3=L)/\x4=L)/\x5=L)/\x6=L)/\x7=L)/\x8=L:=#[Ro (aca h).1,(aca h).2]
def afH(h:(x1&&x2&&x3&&x4&&x5&&x6&&x7&&x8&&o_rw)=L):(((((((x1=L/\x2=L)/\x3=L)/\x4=L)/\x5=L)/\x6=L)/\x7=L)/\x8=L)/\o_rw=L:=#[afG (aca h).1,(aca h).2]
def Fx(h:(!a)=L):a=W:=by simpa using h
def no{P:Prop}(h:W=L):P:=aI h bY
section
variable{X:Cx}{T:Tab}{Y:B G}{E:XK}
def Ok.oS(ok:Ok X T Y E)(h:sE T.sc x=L):Gl X x:=by
 have h:=aC h;rw[<-ok.sc]at h;exact h
def Ok.p_(ok:Ok X T Y E)(h:T.bn.contains x=L):X.mg x=S:=ok.bn x<|by simpa using h
def Ok.Rp(ok:Ok X T Y E){x:Str}{i:Nat}(h:decide (T.N[i]?=M x)=L):X.N[i]?=M x:=by rw[ok.N];exact aC h
def Ok.DN(ok:Ok X T Y E)(h:sF T.sc T.N scope nl fr=L):vB X.ab.scope X.N scope nl fr:=by rw[ok.sc,ok.N];exact JY h
def adL{v:V}(h:YA v c=L):PE X (.Constant c j pos) (λ_ H Q=>Q v H):=by
 cases v<;>cases c<;>first|exact no h|skip
 .exact acG
 .have e:=aC h;subst e;exact ae8
 .have e:=aC h;subst e;exact acF
 .have e:=aC h;subst e;exact acH
def aa0(hN:X.N[i]?=M x)(hv:SS X.ab.scope x)(h1:(x==("__debug__":Str))=W)(h2:(x==("__classdict__":Str))=W):PE X (.Name x p) (λO H Q=>ir O i λv=>Q v H):=by
 intro pins s O H Q I h;refine acE hN hv h1 h2 pins s O H Q I ?_;unfold ir at h;split at h
 .exact#[_,by assumption,h]
 .exact h.elim
set_option tactic.hygienic true
def afI{p pos:Pos}{g:Nat}{es:B Expr}{t:TA}(ok:Ok X T Y E)(hx:T.gl[g]?=M x)(hg:Gl X x)(hd:(x==("__debug__":Str))=W)(ha:PA X es t)(hn:es=[]->t=λ_ H Q=>Q [] H)(hs:cT es=L):PE X (.Call (.Name x p) es [] pos) (λO H Q=>match Y[g]? with
   |some (.a sp QL)=>t O H λvs H1=>sp (vs++QL) H1 Q E
   |_=>bu):=by
 intro pins s O H Q I h;split at h
 .rename_i sp QL e;rcases ok.gl g x _ hx e with⟨k,f,fd,ps,ds,q1,q2,q3,q4,q5,q6,q7⟩|⟨e0,C,k,f,fd,ps,SA,q1,q2,q3,q4,q5,q6,q7⟩|q
  rotate_left 2
  .exact q.elim
  .cases es with
   |nil=>
    have e:=hn rfl;subst e;exact hcm q1 q2 hg q3 q4 q5 q6 q7 hd pins s O H Q I h
   |cons e er=>
    have hs':acx e=L/\cT er=L:=by simpa[cT]using hs
    exact aax q1 q2 hg q3 q4 q5 q6 q7 ha hd (f9 hs'.1) (uR hs'.2) pins s O H Q I h
  .subst e0;cases es with
   |nil=>
    have e:=hn rfl;subst e;exact hd3 q4 q1 q2 hg q3 q5 .nil q7 hd pins s O H Q I<|q6 _ _ _ _ h
   |cons e er=>
    have hs':acx e=L/\cT er=L:=by simpa[cT]using hs
    refine eW<|Dz I hg q3 ?_ hd;refine Dd I.ok.mod.kin q4.kp (bH (ha pos pins s O H _ I h) λus s1 ⟨vs,H1,I1,r,q⟩=>#[I1.xo,?_]) (f9 hs'.1)<|uR hs'.2;exact Mm q4 q1 q2 q5 .nil q7 I1 r<|q6 _ _ _ _ q
 .exact h.elim
def aa1{x:Str}(ok:Ok X T Y E)(hi:X.N[i]?=M x)(hl:WR T x=L):PG X (.Name x p) (λv O H Q=>Q (O.set i<|M v) H):=by
 unfold WR at hl;have hsc:=ok.sc;split at hl
 .rename_i e;rw[<-hsc]at e;exact Pg ok.nd hi (.inl e)<|.inr e
 .rename_i e;rw[<-hsc]at e;exact Pg ok.nd hi (.inr e)<|.inl<|ok.own x hl
 .exact no hl
def ftd0{gs:yE}{k:Nat}{pos:Pos}{t:Mg}(hc:X.ac=L\/GJ X)(h:Gv X es t)(hn:zl es=gs.len)(hs:cT es=L):PG X (.Tuple es k pos) (λv O H Q=>match v with
  |.a a=>Ff X.K H a λt' xs=>t'=L/\zl xs=gs.len/\t xs O H Q
  |_=>bu):=by
 intro pins s O H v u Q I r hw;cases v with
 |a a=>
  let#[t',xs,hx,ht,hl,hw]:=hw;subst ht;rcases hx.sq with⟨hf,_⟩|⟨_,z⟩
  .cases hf
  .rcases hc with hc|hc
   .exact acN hc h (AL hs).1 (AL hs).2 pins s O H _ u Q I r #[a,xs,rfl,z,by lia,hw]
   .exact hc.elim
 |_=>cases hw
def fpok{o i:Expr}(hu:X.A.units+60<d_)(hp:AK i=L)(ho:PE X o to)(hi:PE X i ti):PG X (.Subscript o i pos) (λv O H Q=>to O H λx H1=>ti O H1 λy H2=>match x with
  |.a a=>match H2 a with
   |some (.a xs)=>∃k j,y=.b k/\kq (zl xs) k=M j/\Q O (upd H2 a<|.a<|xs.set j v)
   |some (.e kvs)=>∃k,y=kV k/\zl kvs<aj/\Q O (upd H2 a<|.e<|QO kvs k v)
   |some (.c kvs)=>∃k b,y=.a b/\H2 b=M (.b<|k.map kV)/\zl kvs<aj/\Q O (upd H2 a<|.c<|QO kvs k v)
   |_=>bu
  |_=>bu):=by
 have hS:QH X (λx y v H2 Q=>match x with
  |.a a=>match H2 a with
   |some (.a xs)=>∃k j,y=.b k/\kq (zl xs) k=M j/\Q (upd H2 a<|.a<|xs.set j v)
   |some (.e kvs)=>∃k,y=kV k/\zl kvs<aj/\Q (upd H2 a<|.e<|QO kvs k v)
   |some (.c kvs)=>∃k b,y=.a b/\H2 b=M (.b<|k.map kV)/\zl kvs<aj/\Q (upd H2 a<|.c<|QO kvs k v)
   |_=>bu
  |_=>bu):=by
  intro pins s O H o i v ov iv u Q I ro ri rv h;split at h
  .split at h
   .let#[k,j,rfl,hj,q]:=h;exact YM pins s O H _ _ v ov iv u Q I ro ri rv #[_,_,_,j,rfl,rfl,by assumption,hj,q]
   .rename_i a _ kvs hk;let#[k,rfl,hl,q]:=h;cases ro;exact JS (by lia) I (.inl #[kvs,k,hk,rfl,hl,rfl]) ri rv λs' I'=>#[_,I',q]
   .rename_i a _ kvs hk;let#[k,b,rfl,hb,hl,q]:=h;cases ro;exact JS (by lia) I (.inr #[kvs,k,b,hk,rfl,hb,hl,rfl]) ri rv λs' I'=>#[_,I',q]
   .exact h.elim
  .exact h.elim
 intro pins s O H v u Q I r h;refine acO ho hi hS (λ_=>by cases i<;>first|rfl|exact no hp) pins s O H v u Q I r ?_;exact h
set_option tactic.hygienic false
def iL:PT X e (λ_ _ _=>bu):=λ_ _ _ _ _ _ h=>h.elim
def adM(hc:PT X c tc)(ha:PT X a ta)(hb:PT X b tb):PT X (.IfExp c a b pos) (λO H Q=>tc O H λk H1=>if k=L then ta O H1 Q else tb O H1 Q):=by
 intro pins s O H Q I h;refine isTrue_IfExp<|bH (hc pins s O H _ I h) λd s1 z0=>?_;let#[H1,I1,q1]:=z0;cases d with
 |true=>exact ha pins s1 O H1 Q I1 q1
 |false=>exact hb pins s1 O H1 Q I1 q1
theorem PM{K:ao}{Q:Bool->Hp->Prop}:wT K Y E (.e g as) O H Q=wE K Y E (.e g as) O H (λx H2=>tD K x H2 λb=>Q b H2):=by
 rfl
def aa2(ok:Ok X T Y E)(h:PE X e<|wE X.K Y E<|.e g as)(he:∀whole,C8 e X.ab whole=(do let v <-whole;JB e.pos;Aj [v] (Oc v))):PT X e (wT X.K Y E<|.e g as):=by
 have z:=U9 h he;intro pins s O H Q I q;rw[PM]at q;exact z pins s O H Q I q
def g123(h:PE X e te):PO X (M e) (λO H Q=>te O H λx H1=>match x with
  |.b i=>Q (M i) H1
  |_=>bu):=by
 intro pins s O H Q I q;rw[evalPart_some];refine bH (h pins s O H _ I q) λv s1 z0=>?_;let#[x,H1,I1,r1,q1]:=z0;cases x with
 |b i=>
  let#[t,rfl]:=r1;exact#[M i,H1,I1,.int i t,q1]
 |_=>lia
def fzw2:Gv X [] (λvs O H Q=>match vs with
  |[]=>Q O H
  |_=>bu):=by
 intro pins s O H vs us Q I r h;cases vs with
 |nil=>exact aaq pins s O H [] us Q I r #[rfl,h]
 |cons v vr=>lia
def fv_b(h1:PG X e t)(h2:Gv X es u)(hs:acx e=L):Gv X (e::es) (λvs O H Q=>match vs with
  |v::vr=>t v O H fun σ' H'=>u vr σ' H' Q
  |_=>bu):=by
 intro pins s O H vs us Q I r h;cases vs with
 |nil=>lia
 |cons v vr=>exact hbe h1 h2 (by rw[qP hs];rfl) pins s O H (v::vr) us Q I r #[v,vr,rfl,h]
theorem Zz:∀(gs:yE) (es:B Expr),LL T gs es=L->zl es=gs.len
|.nil,es,h=>by
 cases es with
 |nil=>rfl
 |cons e er=>exact no h
|.cons g r,es,h=>by
 cases es with
 |nil=>exact no h
 |cons e er=>
  let#[_,h2]:=aca h;show zl er+1=r.len+1;rw[Zz r er h2]
def ZA(as:mV)(es:B Expr){X:Cx}(h:tO T as es=L):es=[]->wEs X.K Y E as=λ_ H Q=>Q [] H:=by
 rintro rfl;cases as with
 |nil=>rfl
 |cons a r=>exact no h
def MV(h:xB sc N scope x fr=L):Ri sc N scope x fr:=by
 unfold xB at h;simp only[cG,eS,mQ,bC]at h;let#[#[#[#[#[#[h1,h2],h3],h4],h5],h6],h7]:=h;exact#[JY h1,h2,h3,h4,h5,h6,h7]
def aa3(ok:Ok X T Y E)(Q9:MS X P)(h:xB T.sc T.N sc x fr=L)(f:Addr)(cd:B5)(s:az)(H:Hp):Ok (DH X X.A.in1.in1 (x::gB X.N [] fr) (X.ab.qual++"<lambda>") sc f cd s H) (Rb T sc x fr) Y E0:=by
 have Q7:=MV h;refine#[?_,?_,rfl,Q7.kind,λi y g hx _=>aI (show([]:B Str)[i]?=M y from hx) (by simp),ok.bn,(λ_ z=>nomatch z),λ_=>rfl,(λz=>nomatch z),Iq,?_]
 .show x::gB X.N [] fr=x::gB T.N [] fr;rw[ok.N]
 .rw[ok.N];unfold xB sF at h;simp only[cG,eS]at h;exact b9.mpr #[Q7.nd,h.1.1.1.1.1.1.2]
 .have:=Q9.un;show X.A.units+1+1+3+60<d_
  lia
def MW{α:Type}{a:α}{P:Prop}(h:(S:LD α)=M a):P:=nomatch h
def lN{α β:Type}{o:LD α}{f:α->LD β}{b:β}(h:o.bind f=M b):∃a,o=M a/\f a=M b:=by
 cases o with
 |none=>cases h
 |some a=>exact#[a,rfl,h]
def ZC{e:Expr}{a}(h:cP e=M a):e=.Call a.1 a.2.1 a.2.2.1 a.2.2.2:=by
 cases e<;>first|exact MW h|(cases h;rfl)
def Rq{e:Expr}{a}(h:nP e=M a):e=.Name a.1 a.2:=by
 cases e<;>first|exact MW h|(cases h;rfl)
def afJ{e:Expr}{a}(h:aP e=M a):e=.Attribute a.1 a.2.1 a.2.2:=by
 cases e<;>first|exact MW h|(cases h;rfl)
def afK{e:Expr}{a}(h:mP e=M a):e=.Lambda a.1 a.2.1 a.2.2.1 a.2.2.2:=by
 cases e<;>first|exact MW h|(cases h;rfl)
def Cc{α:Type}{l:B α}{c:α}(h:PK l=M c):l=[c]:=by
 rcases l with _|⟨_,_|_⟩<;>first|exact MW h|(cases h;rfl)
def qQ{α:Type}{l:B α}{c}(h:B9 l=M c):l=[]:=by
 cases l<;>first|exact MW h|rfl
def TY{α:Type}{l:LD α}{c}(h:Wv l=M c):l=S:=by
 cases l<;>first|exact MW h|rfl
def MX{e:Expr}{w}(h:Zx e=M w):e=.Call (.Name w.1.1 w.1.2) [.Call w.2.2.1 w.2.2.2.1 w.2.2.2.2.1 w.2.2.2.2.2] w.2.1.1 w.2.1.2:=by
 let#[a,h1,h]:=lN h;let#[x,h2,h]:=lN h;let#[c,h3,h]:=lN h;let#[b,h4,h]:=lN h;cases h;rw[ZC h1,Rq h2,Cc h3,ZC h4]
def aa4(h:Rc e=M (x,y,n,z,l)):∃px py p2 kp p,e=.Call (.Name x px) [.Call (.Name y py) [n] [] p2] [#[M z,l,kp]] p:=by
 let#[w,h1,h]:=lN h;let#[#[z',l',kp],h4,h]:=lN h;let#[_,h5,h]:=lN h;let#[y',h7,h]:=lN h;let#[n',h8,h]:=lN h;let#[_,h9,h]:=lN h;cases h;cases(show z'=_ from h5);exact#[_,_,_,_,_,by rw[MX h1,Cc h4,Rq h7,Cc h8,qQ h9]]
def aa5(h:Rf e=M (x,y,l,b)):∃px py p2 p,e=.Call (.Name x px) [.Call (.Attribute l y py) [] [] p2] [] p/\(py.endLine==p2.line)=b:=by
 let#[w,h1,h]:=lN h;let#[_,h4,h]:=lN h;let#[q,h7,h]:=lN h;let#[_,h8,h]:=lN h;let#[_,h9,h]:=lN h;cases h;exact#[_,q.2.2,_,_,by rw[MX h1,qQ h4,afJ h7,qQ h8,qQ h9],rfl]
def aa6(h:Rg e=M (x,y,l)):∃px py p2 p,e=.Call (.Name x px) [.Call (.Name y py) [l] [] p2] [] p:=by
 let#[w,h1,h]:=lN h;let#[_,h4,h]:=lN h;let#[q,h7,h]:=lN h;let#[_,h8,h]:=lN h;let#[_,h9,h]:=lN h;cases h;exact#[_,_,_,_,by rw[MX h1,qQ h4,Rq h7,Cc h8,qQ h9]]
def afL{a:sR}{v}(h:gP a=M v):a=DJ v.arg v.annotation v.pos:=by
 let#[_,h2,h]:=lN h;let#[_,h3,h]:=lN h;let#[_,h4,h]:=lN h;let#[_,h5,h]:=lN h;let#[_,h6,h]:=lN h;let#[_,h7,h]:=lN h;let#[_,h8,h]:=lN h;cases h;cases a;cases v;exact congr (congr (congr (congr (congr (congr (fY _<|qQ h2)<|Cc h3)<|TY h4)<|qQ h5)<|qQ h6)<|TY h7)<|qQ h8
def aa7(h:MP l=M (v,b,sc)):∃an ap lp,l=.Lambda (DJ v an ap) b sc lp:=by
 let#[a,h1,h]:=lN h;let#[v,h2,h]:=lN h;cases h;exact#[_,_,_,by rw[afK h1,afL h2]]
def MY(h:MQ T x y=L):x=y/\sE T.sc x=L/\T.bn.contains x=L:=by
 let#[#[h1,h2],h3]:=tP h;exact#[aC h1,h2,h3]
def Ok.ab(ok:Ok X T Y E)(h:decide (g<zl T.gl)=L):∀C as,Y[g]?=M (G.c C as)->Bl X.K C/\∀f∈as,nV X.K C f:=λC as e=>by
 have hl:=aC h;exact ok.gl g (T.gl[g]) _ (ai hl) e
def hid{α:Type}{G:α->Prop}{e:α}(h:∀P:α->Prop,(∀x,G x->P x)->P e):G e:=h G λ_ h=>h
set_option tactic.hygienic true in
mutual
theorem dY:∀(c:CE) (e:Expr) {X:Cx}{T:Tab}{E:XK},Ok X T Y E->c_ T c e=L->PE X e (wE X.K Y E c)/\PT X e (wT X.K Y E c)/\∀op vs p,e=.BoolOp op vs p->PW X e (wT X.K Y E c)
|.a i,e,X,T,E,ok,h=>by
 let#[h0,h]:=aca h;revert h;refine f6 e (eq_of_beq h0) ?_;intro x p h;let#[#[#[h1,h2],h3],h4]:=wU h;rw[<-ok.sc]at h2;have z':PE X (.Name x p) (wE X.K Y E<|.a i):=aa0 (ok.Rp h1) (adC h2) (Fx h3)<|Fx h4;exact#[z',U9 z' λ_=>rfl,λ_ _ _ z=>nomatch z]
|.c v,e,X,T,E,ok,h=>by
 let#[h0,h]:=aca h;revert h;refine fjv e (eq_of_beq h0) ?_;intro _ _ _ h;exact#[adL h,iL,λ_ _ _ z=>nomatch z]
|.g op a b,e,X,T,E,ok,h=>by
 let#[h0,h]:=aca h;revert h;refine aah e (eq_of_beq h0) ?_;intro l o r p h;let#[#[h1,h2],h3]:=tP h;have e:=aC h1;subst e;exact#[afg (afv op) (dY a l ok h2).1 (dY b r ok h3).1,iL,λ_ _ _ z=>nomatch z]
|.y a,e,X,T,E,ok,h=>by
 let#[h0,h]:=aca h;let#[hf,h]:=aca h;let#[ha,h]:=aca h;revert hf ha h;refine kG e (eq_of_beq h0) ?_;intro fn es kw p hf ha h;revert h;refine f6 fn (eq_of_beq hf) ?_;intro x px h
 match es,ha,h with
 |[],ha,h=>exact no ha
 |_::_::_,ha,h=>exact no ha
 |[c],ha,h=>
  let#[hb,ha]:=aca ha;revert h ha;refine kG c (eq_of_beq hb) ?_;intro f2 UN Wn p2 h ha;revert h;refine f6 f2 (eq_of_beq ha) ?_;intro y py h
  match UN,Wn,kw,h with
  |[],_,_,h=>exact no h
  |_::_::_,_,_,h=>exact no h
  |[_],_::_,_,h=>exact no h
  |[_],[],_::_,h=>exact no h
  |[l],[],[],h=>
   let#[QW,h]:=aca h;let#[h,h8]:=aca h;let#[#[#[#[#[#[h1,h2],h3],h4],h5],h6],h7]:=Ro h;have e1:=aC h1;have e2:=aC h4;subst e1 e2;exact#[aaU (ok.ac QW) (ok.oS h2) (ok.p_ h3) (ok.oS h5) (ok.p_ h6) (dY a l ok h8).1 h7,iL,λ_ _ _ z=>nomatch z]
|.p a,e,X,T,E,ok,h=>by
 let#[h0,h]:=aca h;revert h;refine Em e (eq_of_beq h0) ?_;intro op l p h;cases op<;>first|exact no h|skip
 exact#[ff_b (dY a l ok h).1,iL,λ_ _ _ z=>nomatch z]
|.q a,e,X,T,E,ok,h=>by
 let#[h0,h]:=aca h;revert h;refine Em e (eq_of_beq h0) ?_;intro op l p h;cases op<;>first|exact no h|skip
 exact#[fpnD (dY a l ok h).1,acI (dY a l ok h).2.1,λ_ _ _ z=>nomatch z]
|.k a b,e,X,T,E,ok,h=>by
 let#[h0,h]:=aca h;revert h;refine Gm e (eq_of_beq h0) ?_;intro op vs p h;cases op<;>first|exact no h|skip
 match vs,h with
 |[x,y],h=>
  let#[h1,h2]:=aca h;have w:=pw_and (pos:=p) (dY a x ok h1).2.1<|pw_and1 (dY b y ok h2).2.1;exact#[lZ (dY a x ok h1).1<|SV (dY b y ok h2).1,w.pt,λ_ _ _ _=>w]
 |x::y::z::r,h=>
  let#[h1,h2]:=aca h;have w:=pw_and (dY a x ok h1).2.1<|(dY b _ ok h2).2.2 _ _ _ rfl;exact#[lZ (dY a x ok h1).1 (dY b _ ok h2).1,w.pt,λ_ _ _ _=>w]
 |[],h=>exact no h
 |[x],h=>exact no h
|.n a b,e,X,T,E,ok,h=>by
 let#[h0,h]:=aca h;revert h;refine Gm e (eq_of_beq h0) ?_;intro op vs p h;cases op<;>first|exact no h|skip
 match vs,h with
 |[x,y],h=>
  let#[h1,h2]:=aca h;have w:=pw_or (pos:=p) (dY a x ok h1).2.1<|pw_or1 (dY b y ok h2).2.1;exact#[lz (dY a x ok h1).1<|SV (dY b y ok h2).1,w.pt,λ_ _ _ _=>w]
 |x::y::z::r,h=>
  let#[h1,h2]:=aca h;have w:=pw_or (dY a x ok h1).2.1<|(dY b _ ok h2).2.2 _ _ _ rfl;exact#[lz (dY a x ok h1).1 (dY b _ ok h2).1,w.pt,λ_ _ _ _=>w]
 |[],h=>exact no h
 |[x],h=>exact no h
|.r c a b,e,X,T,E,ok,h=>by
 let#[h0,h]:=aca h;revert h;refine aai e (eq_of_beq h0) ?_;intro t x y p h;let#[#[h1,h2],h3]:=tP h;exact#[hV0 (dY c t ok h1).2.1 (dY a x ok h2).1 (dY b y ok h3).1,adM (dY c t ok h1).2.1 (dY a x ok h2).2.1 (dY b y ok h3).2.1,λ_ _ _ z=>nomatch z]
|.d op a b,e,X,T,E,ok,h=>by
 let#[h0,h]:=aca h;revert h;refine En e (eq_of_beq h0) ?_;intro l os rs p h
 match os,rs,h with
 |[o],[r],h=>
  let#[#[#[h1,h2],h3],h4]:=wU h;have e:=aC h1;subst e;exact#[aau (DF ok.room op) (dY a l ok h3).1 (dY b r ok h4).1<|Fx h2,hchd ok.room (dY a l ok h3).1 (dY b r ok h4).1<|Fx h2,λ_ _ _ z=>nomatch z]
 |[],_,h=>exact no h
 |_::_::_,_,h=>exact no h
 |[_],[],h=>exact no h
 |[_],_::_::_,h=>exact no h
|.s o1 o2 a b c,e,X,T,E,ok,h=>by
 let#[h0,h]:=aca h;revert h;refine En e (eq_of_beq h0) ?_;intro l os rs p h
 match os,rs,h with
 |[p1,p2],[m,r],h=>
  let#[#[#[#[#[h1,h2],h3],h4],h5],h6]:=DM h;have e1:=aC h1;have e2:=aC h2;subst e1 e2;exact#[ch_b ok.room (dY a l ok h4).1 (dY b m ok h5).1 (dY c r ok h6).1<|Fx h3,gTup ok.room (dY a l ok h4).1 (dY b m ok h5).1 (dY c r ok h6).1<|Fx h3,λ_ _ _ z=>nomatch z]
 |[],_,h=>exact no h
 |[_],_,h=>exact no h
 |_::_::_::_,_,h=>exact no h
 |[_,_],[],h=>exact no h
 |[_,_],[_],h=>exact no h
 |[_,_],_::_::_::_,h=>exact no h
|.e g as,e,X,T,E,ok,h=>by
 let#[h0,h]:=aca h;let#[hf,h]:=aca h;revert hf h;refine kG e (eq_of_beq h0) ?_;intro f es kw p hf h;revert h;refine f6 f (eq_of_beq hf) ?_;intro x px h;cases kw<;>first|exact no h|skip
 let#[#[#[#[h1,h2],h3],h4],h5]:=DK h;have z':PE X (.Call (.Name x px) es [] p) (wE X.K Y E<|.e g as):=afI ok (aC h1) (ok.oS h2) (Fx h3) (Cd as es ok h4 h5) (ZA as es h5) h4;exact#[z',aa2 ok z' λ_=>rfl,λ_ _ _ z=>nomatch z]
|.h f as,e,X,T,E,ok,h=>by
 let#[h0,h]:=aca h;let#[hf,h]:=aca h;revert hf h;refine kG e (eq_of_beq h0) ?_;intro fn es kw p hf h;revert h;refine f6 fn (eq_of_beq hf) ?_;intro x px h;cases kw<;>first|exact no h|skip
 let#[QW,h]:=aca h;let#[#[#[#[#[h1,h2],h3],h4],h5],h6]:=DM h;cases es with
 |nil=>exact no h5
 |cons e er=>
  have hb:mG X f.val (AF X.K f):=by
   rcases oO.mp QW with QW|QW
   .exact afy (ok.ac QW) ok.room f
   .exact(ok.semi (aca QW).1).elim
  have z':PE X (.Call (.Name x px) (e::er) [] p) (wE X.K Y E<|.h f as):=adE hb (ok.oS h2) (aC h1) (ok.p_ h3) (Cd as _ ok h4 h6) h4;exact#[z',U9 z' λ_=>rfl,λ_ _ _ z=>nomatch z]
|.l m o as,e,X,T,E,ok,h=>by
 let#[h0,h]:=aca h;let#[hf,h]:=aca h;revert hf h;refine kG e (eq_of_beq h0) ?_;intro fn es kw p hf h;revert h;refine BK fn (eq_of_beq hf) ?_;intro l nm ap h;cases kw<;>first|exact no h|skip
 let#[#[#[#[#[#[h1,h2],h3],h4],h5],h6],h7]:=Ro h;have e:=aC h1;subst e;have ho:=(dY o l ok h6).1;have ha:=Cd as es ok h4 h7;cases es with
 |nil=>
  have q:=ZA (X:=X) (Y:=Y) (E:=E) as [] h7 rfl;have z:=aaS ok.room (m:=m) (apos:=ap) (cpos:=p) ho h2 h3;have z':PE X (.Call (.Attribute l m.name ap) [] [] p) (wE X.K Y E<|.l m o as):=by
   show PE X _ λO H Q=>wE X.K Y E o O H λx H1=>yF m x H1/\wEs X.K Y E as O H1 λvs H2=>zp X.K m x vs H2 Q;rw[q];exact z
  exact#[z',U9 z' λ_=>rfl,λ_ _ _ z=>nomatch z]
 |cons e er=>
  have z':PE X (.Call (.Attribute l m.name ap) (e::er) [] p) (wE X.K Y E<|.l m o as):=adD ok.room ho ha h2 h3 h4<|aC h5;exact#[z',U9 z' λ_=>rfl,λ_ _ _ z=>nomatch z]
|.b a b,e,X,T,E,ok,h=>by
 let#[h0,h]:=aca h;revert h;refine oQ e (eq_of_beq h0) ?_;intro l r p h;let#[#[h1,h2],h3]:=tP h;have z':PE X (.Subscript l r p) (wE X.K Y E<|.b a b):=afp (tbI ok.room) (dY a l ok h2).1 (dY b r ok h3).1<|aaf h1;exact#[z',U9 z' λ_=>rfl,λ_ _ _ z=>nomatch z]
|.m a lo hi,e,X,T,E,ok,h=>by
 let#[h0,h]:=aca h;let#[hf,h]:=aca h;revert hf h;refine oQ e (eq_of_beq h0) ?_;intro l r p hf h;revert h;refine aaj r (eq_of_beq hf) ?_;intro x y st ps h;cases st<;>first|exact no h|skip
 let#[#[h1,h2],h3]:=tP h;exact#[hd4 slOk (dY a l ok h1).1 (k7 lo x ok h2)<|k7 hi y ok h3,iL,λ_ _ _ z=>nomatch z]
|.i as,e,X,T,E,ok,h=>by
 let#[h0,h]:=aca h;revert h;refine acr e (eq_of_beq h0) ?_;intro _ _ h;let#[h1,h2]:=aca h;exact#[ac5<|Cd as _ ok h1 h2,iL,λ_ _ _ z=>nomatch z]
|.f as,e,X,T,E,ok,h=>by
 let#[h0,h]:=aca h;revert h;refine zf e (eq_of_beq h0) ?_;intro _ _ _ h;let#[h1,h2]:=aca h;exact#[ac4<|Cd as _ ok h1 h2,iL,λ_ _ _ z=>nomatch z]
|.z,e,X,T,E,ok,h=>by
 let#[h0,h]:=aca h;revert h;refine acs e (eq_of_beq h0) ?_;intro ks vs p h
 match ks,vs,h with
 |[],[],_=>exact#[heo,iL,λ_ _ _ z=>nomatch z]
 |[],_::_,h=>exact no h
 |_::_,_,h=>exact no h
|.j nl fr elt tg src cond,e,X,T,E,ok,h=>by
 let#[h0,h]:=aca h;revert h;refine Dt e (eq_of_beq h0) ?_;intro l gs sc p h
 match gs,h with
 |[],h=>exact no h
 |⟨_,_,_,.ofNat 0⟩::_::_,h=>exact no h
 |⟨_,_,_,.ofNat<|n+1⟩::_,h=>exact no h
 |⟨_,_,_,.negSucc n⟩::_,h=>exact no h
 |[#[t,it,ifs,.ofNat 0]],h=>
  let#[QW,h]:=aca h;let#[#[#[#[#[h2,h3],h4],h5],h6],h7]:=DM h;let#[h3,h3']:=aca h3;rcases oO.mp QW with QW|QW
  .let#[QW,hns]:=aca QW;have hns:T.semi=L->bu:=λz=>by rw[z]at hns;cases hns
   exact#[aaQ (ok.ac QW) (ok.DN h2) (X4 src it h3' ok h4) (Ca h3) (λC ais H ex=>MZ tg t (uQ ok h2 C ais H ex (λz=>(hns z).elim)<|.inl QW) h5) (λC ais H ex=>k6 cond ifs (uQ ok h2 C ais H ex (λz=>(hns z).elim)<|.inl QW) h6)
    λC ais H ex=>(dY elt l (uQ ok h2 C ais H ex (λz=>(hns z).elim)<|.inl QW) h7).1,iL,λ_ _ _ z=>nomatch z]
  .exact(ok.semi (aca QW).1).elim
|.w as,e,X,T,E,ok,h=>by
 cases e<;>first|exact no h|skip
 rename_i fn es kw p;cases fn<;>first|exact no h|skip
 rename_i x px
 match es,h with
 |[],h=>exact no h
 |e::er,h=>
  cases e<;>first|exact no h|skip
  rename_i fn es Wn p2;cases fn<;>first|exact no h|skip
  rename_i y py;cases Wn<;>first|exact no h|skip
  cases er<;>first|exact no h|skip
  cases kw<;>first|exact no h|skip
  let#[QW,h]:=aca h;let#[#[#[#[#[#[#[#[h1,h2],h3],h4],h5],h6],h7],h8],h9]:=afH h;have e1:=aC h1;have e2:=aC h4;subst e1 e2;cases es with
  |nil=>exact no h8
  |cons e er=>exact#[adG (ok.ac QW) (ok.oS h2) (ok.p_ h3) (ok.oS h5) (ok.p_ h6) (Cd as _ ok h7 h9) h7,iL,λ_ _ _ z=>nomatch z]
|.x g fr n body,e,X,T,E,ok,h=>by
 have hk:(match Rc e with
  |some (x,y,ne,z,l)=>match MP l with
   |some (v,b,sc)=>T.ac&&!T.semi&&(decide (x=("sorted":Str))&&sE T.sc x&&T.bn.contains x&&decide (y=("range":Str))&&sE T.sc y&&T.bn.contains y&&acx ne&&decide (z=("key":Str))&&c_ T n ne)&&(decide (g<zl T.gl)&&xB T.sc T.N sc v fr&&c_ (Rb T sc v fr) body b)
   |none=>W
  |none=>W)=L:=h
 cases e0:Rc e with
 |none=>rw[e0]at hk;exact no hk
 |some xs=>
  let#[x,y,ne,z,l]:=xs;rw[e0]at hk;replace hk:(match MP l with
   |some (v,b,sc)=>T.ac&&!T.semi&&(decide (x=("sorted":Str))&&sE T.sc x&&T.bn.contains x&&decide (y=("range":Str))&&sE T.sc y&&T.bn.contains y&&acx ne&&decide (z=("key":Str))&&c_ T n ne)&&(decide (g<zl T.gl)&&xB T.sc T.N sc v fr&&c_ (Rb T sc v fr) body b)
   |none=>W)=L:=hk
  let#[px,py,p2,kp,p,rfl]:=aa4 e0;refine#[?_,iL,λ_ _ _ z=>nomatch z];cases e1:MP l with
  |none=>rw[e1]at hk;exact no hk
  |some o_dc=>
   let#[v,b,sc]:=o_dc;rw[e1]at hk;simp only[cG]at hk;let#[#[#[QW,_],#[#[#[#[#[#[#[#[h1,h2],h3],h4],h5],h6],h7],h8],h9]],#[#[h10,h11],h12]]:=hk;let#[an,ap,lp,rfl]:=aa7 e1;have e2:=aC h1;have e3:=aC h4;have e4:=aC h8;subst e2 e3 e4;intro pins s O H Q I hw;have hw:(match Y[g]? with
    |some (.b _)=>Q6 (wE X.K Y E n) (wE X.K Y E0 body) fr O H Q
    |_=>bu):=hw
   split at hw
   .rename_i P eg;have Q9:MS X P:=ok.gl g (T.gl[g]'(aC h10)) _ (ai _) eg;exact adH (ok.ac QW) Q9 (by rw[ok.sc,ok.N];exact MV h11) (ok.oS h2) (ok.p_ h3) (ok.oS h5) (ok.p_ h6) (dY n ne ok h9).1 h7 (λf cd s H=>(dY body b (aa3 ok Q9 h11 f cd s H) h12).1) pins s O H Q I hw
   .exact hw.elim
|.u a,e,X,T,E,ok,h=>by
 have hk:(match Rf e with
  |some (x,y,l,b)=>T.ac&&(MQ T x "sorted"&&decide (y=("items":Str))&&b&&wR l&&c_ T a l)
  |none=>W)=L:=h
 cases e0:Rf e with
 |none=>rw[e0]at hk;exact no hk
 |some xs=>
  let#[x,y,l,b]:=xs;rw[e0]at hk;let#[px,py,p2,p,rfl,rfl]:=aa5 e0;let#[QW,hk]:=aca hk;let#[#[#[#[h1,h4],h5],h6],h7]:=DK hk;let#[rfl,h1,h2]:=MY h1;obtain rfl:=aC h4;exact#[adJ (ok.ac QW) (ok.oS h1) (ok.p_ h2) (dY a l ok h7).1 h6 h5,iL,λ_ _ _ z=>nomatch z]
|.v a,e,X,T,E,ok,h=>by
 have hk:(match Rg e with
  |some (x,y,l)=>T.ac&&(MQ T x "list"&&MQ T y "reversed"&&acx l&&c_ T a l)
  |none=>W)=L:=h
 cases e0:Rg e with
 |none=>rw[e0]at hk;exact no hk
 |some xs=>
  let#[x,y,l]:=xs;rw[e0]at hk;let#[px,py,p2,p,rfl]:=aa6 e0;let#[QW,hk]:=aca hk;let#[#[#[h1,h4],h5],h7]:=wU hk;let#[rfl,h1,h2]:=MY h1;let#[rfl,h3,h4]:=MY h4;exact#[adI (ok.ac QW) (ok.oS h1) (ok.p_ h2) (ok.oS h3) (ok.p_ h4) (dY a l ok h7).1 h5,iL,λ_ _ _ z=>nomatch z]
|.t,e,X,T,E,ok,h=>by
 cases e<;>first|exact no h|skip
 rename_i ks vs p
 match ks,vs,h with
 |[],[],_=>exact#[hfa,iL,λ_ _ _ z=>nomatch z]
 |[],_::_,h=>exact no h
 |_::_,_,h=>exact no h
|.o g a f,e,X,T,E,ok,h=>by
 let#[h0,h]:=aca h;revert h;refine BK e (eq_of_beq h0) ?_;intro l nm p h
 .skip
  let#[#[#[h1,h2],h3],h4]:=wU h;have e:=aC h1;subst e;exact#[adF (ok.ab h4) (dY a l ok h3).1 h2,iL,λ_ _ _ z=>nomatch z]
theorem Cd:∀(cs:mV) (es:B Expr) {X:Cx}{T:Tab}{E:XK},Ok X T Y E->cT es=L->tO T cs es=L->PA X es (wEs X.K Y E cs)
|.nil,es,X,T,E,ok,hs,h=>by
 cases es with
 |nil=>exact Ml
 |cons e er=>exact no h
|.cons a r,es,X,T,E,ok,hs,h=>by
 cases es with
 |nil=>exact no h
 |cons e er=>
  let#[h1,h2]:=aca h;have hs':acx e=L/\cT er=L:=by simpa[cT]using hs
  exact IB (dY a e ok h1).1 (Cd r er ok hs'.2 h2)<|f9 hs'.1
theorem k7:∀(c:CO) (e:LD Expr) {X:Cx}{T:Tab}{E:XK},Ok X T Y E->WT T c e=L->PO X e (wO X.K Y E c)
|.none,e,X,T,E,ok,h=>by
 cases e with
 |none=>exact aaA
 |some x=>exact no h
|.some a,e,X,T,E,ok,h=>by
 cases e with
 |none=>exact no h
 |some x=>exact g123 (dY a x ok h).1
theorem k6:∀(c:CO) (es:B Expr) {X:Cx}{T:Tab}{E:XK},Ok X T Y E->YB T c es=L->PJ X es (wC X.K Y E c)
|.none,es,X,T,E,ok,h=>by
 cases es with
 |nil=>exact aaO
 |cons x r=>exact no h
|.some a,es,X,T,E,ok,h=>by
 match es,h with
 |[x],h=>exact aaP (dY a x ok h).2.1
 |[],h=>exact no h
 |_::_::_,h=>exact no h
theorem MZ:∀(c:CG) (e:Expr) {X:Cx}{T:Tab}{E:XK},Ok X T Y E->B_ T c e=L->PG X e (wG X.K Y E c)
|.a i,e,X,T,E,ok,h=>by
 let#[h0,h]:=aca h;revert h;refine f6 e (eq_of_beq h0) ?_;intro _ _ h;let#[h1,h2]:=aca h;exact aa1 ok (ok.Rp h1) h2
|.b gs,e,X,T,E,ok,h=>by
 let#[h0,h]:=aca h;revert h;refine zf e (eq_of_beq h0) ?_;intro _ _ _ h;let#[QW,h]:=aca h;let#[h1,h2]:=aca h;exact ftd0 ((oO.mp QW).imp ok.ac ok.semi) (Y0 gs _ ok h1 h2) (Zz gs _ h2) h1
|.c o i,e,X,T,E,ok,h=>by
 let#[h0,h]:=aca h;revert h;refine oQ e (eq_of_beq h0) ?_;intro _ _ _ h;let#[#[h1,h2],h3]:=tP h;exact fpok ok.room h1 (dY o _ ok h2).1 (dY i _ ok h3).1
theorem Y0:∀(cs:yE) (es:B Expr) {X:Cx}{T:Tab}{E:XK},Ok X T Y E->cT es=L->LL T cs es=L->Gv X es (Py X.K Y E cs)
|.nil,es,X,T,E,ok,hs,h=>by
 cases es with
 |nil=>exact fzw2
 |cons e er=>exact no h
|.cons g r,es,X,T,E,ok,hs,h=>by
 cases es with
 |nil=>exact no h
 |cons e er=>
  let#[h1,h2]:=aca h;have hs':acx e=L/\cT er=L:=by simpa[cT]using hs
  exact fv_b (MZ g e ok h1) (Y0 r er ok hs'.2 h2) hs'.1
theorem X4:∀(c:CI) (e:Expr) {tg:Expr}{X:Cx}{T:Tab}{E:XK},WS c tg=L->Ok X T Y E->WU T c e=L->GH X tg e (wI X.K Y E c)
|.a a,e,tg,X,T,E,_,ok,h=>aaM (dY a e ok h).1
|.b as,e,tg,X,T,E,_,ok,h=>by
 let#[h0,h]:=aca h;let#[hf,h]:=aca h;revert hf h;refine kG e (eq_of_beq h0) ?_;intro fn es kw p hf h;revert h;refine f6 fn (eq_of_beq hf) ?_;intro x px h;cases kw<;>first|exact no h|skip
 .skip
  let#[#[#[#[#[h1,h2],h3],h4],h5],h6]:=DM h;have e:=aC h1;subst e;cases es with
  |nil=>exact no h5
  |cons e er=>
   have hs':acx e=L/\cT er=L:=by simpa[cT]using h4
   exact ady (ok.oS h2) (ok.p_ h3) (Cd as _ ok h4 h6) (f9 hs'.1)<|uR hs'.2
|.c a,e,tg,X,T,E,tb,ok,h=>by
 cases tg<;>first|exact no tb|skip
 let#[h0,h]:=aca h;let#[hf,h]:=aca h;revert hf h;refine kG e (eq_of_beq h0) ?_;intro fn es kw p hf h;revert h;refine f6 fn (eq_of_beq hf) ?_;intro x px h
 match es,h with
 |[],h=>exact no h
 |_::_::_,h=>exact no h
 |[l],h=>
  cases kw<;>first|exact no h|skip
  let#[#[#[#[h1,h2],h3],h4],h5]:=DK h;have e:=aC h1;subst e;exact hMl (ok.oS h2) (ok.p_ h3) (dY a l ok h5).1 (by rw[f9 h4];rfl)
|.d a,e,tg,X,T,E,tb,ok,h=>by
 cases e<;>first|exact no h|skip
 rename_i fn es kw p;cases fn<;>first|exact no h|skip
 rename_i x px
 match es,h with
 |[],h=>exact no h
 |_::_::_,h=>exact no h
 |[l],h=>
  cases kw<;>first|exact no h|skip
  let#[#[#[#[h1,h2],h3],h4],h5]:=DK h;have e:=aC h1;subst e;exact aaN (ok.oS h2) (ok.p_ h3) (dY a l ok h5).1 (by rw[f9 h4];rfl)
|.e a,e,tg,X,T,E,tb,ok,h=>ae5 (dY a e ok h).1
end
end
def M0(h:p≠a):upd (upd H a o) p u=upd (upd H p u) a o:=by
 funext b;by_cases hb:b=p
 .subst hb;rw[bZ,bg h,bZ]
 .rw[bg hb];by_cases ha:b=a
  .subst ha;rw[bZ,bZ]
  .rw[bg ha,bg ha,bg hb]
section
variable{P:bS}{w:bO}{H:Hp}{h:Heap}{a:Addr}{ob:Obj}{kvs:B (B Key×V)}
def J5(e1:H a=M (.c kvs))(x:fU P w (upd H a<|.f ob<|.c kvs) h b o):fU P w H h b o:=by
 have ht:∀c xs,upd H a (.f ob<|.c kvs) c=M (.b xs)->H c=M (.b xs):=λc xs q=>by
  by_cases hc:c=a
  .subst hc;rw[bZ]at q;cases q
  .rw[bg hc]at q;exact q
 have ho:∀c y,upd H a (.f ob<|.c kvs) c=M (.d y)->H c=M (.d y):=λc y q=>by
  by_cases hc:c=a
  .subst hc;rw[bZ]at q;cases q
  .rw[bg hc]at q;exact q
 induction o with
 |c kvs=>
  let#[z,y,xs,r,ob,es,ep,e,c]:=x;exact#[z,y,xs,Paired.Iw r λp q z=>#[z.1,ht _ _ z.2.1,z.2.2],ob,es,ep,e,c]
 |g C dx fs=>exact#[ho _ _ x.1,x.2]
 |f ob u ih=>exact#[x.1,ih x.2]
 |h ps=>
  let#[qs,e,t,c]:=x;refine#[qs,e,t,λpos cv q=>?_];let#[c',oc,vs,tq,rfl,e2,z]:=c pos cv q;refine#[c',oc,vs,tq,rfl,?_,z];by_cases hc:c'=a
  .subst hc;rw[bZ]at e2;cases e2
  .rw[bg hc]at e2;exact e2
 |_=>exact x
def ae6(e1:H a=M (.c kvs))(x:gM P w (upd H a<|.f ob<|.c kvs) h):gM P w H h:=λb o e=>by
 by_cases hb:b=a
 .subst hb;rw[e1]at e;cases e;exact J5 e1 (x b _ bZ).2
 .exact J5 e1 (x b o (by rw[bg hb];exact e))
end
section
variable{X:Cx}{pins:B (Addr×Obj)}{O XQ:L2.St}{H H0:Hp}{s s0:az}{a:Addr}{ob:Obj}{kvs:B (B Key×V)}
def Inv.ac(I0:L2.Inv X pins XQ H0 s0)(e0:H0 a=M (.c kvs))(I:L2.Inv X pins O (upd H a<|.f ob<|.c kvs) s)(e1:H a=M (.c kvs)):L2.Inv X pins O H s:=by
 have nn:∀b,upd H a (.f ob<|.c kvs) b=S->H b=S:=λb q=>by
  by_cases hb:b=a
  .subst hb;rw[bZ]at q;cases q
  .rw[bg hb]at q;exact q
 refine#[I.ok,I.os,I.bare,#[I.base.keep,I.base.slot,λb o e n hx=>nn b<|I.base.free b o e n hx,I.base.there,λb xs e=>?_,λb o u e=>?_,λb ps e=>?_],I.loc,I.cell,nn _ I.free,λx c e=>nn _<|I.freeC x c e,λp hp=>by let#[q1,q2,q3]:=I.pin p hp;exact #[q1,nn _ q2,q3],ae6 e1 I.ab,I.len]
 .have:=I.base.tups b xs e;by_cases hb:b=a
  .subst hb;rw[bZ]at this;cases this
  .rw[bg hb]at this;exact this
 .have:=I.base.aD b o u e;by_cases hb:b=a
  .subst hb;have:=I0.base.aD b o u e;rw[e0]at this;cases this
  .rw[bg hb]at this;exact this
 .let#[m,this]:=I.base.tbls b ps e;by_cases hb:b=a
  .subst hb;rw[bZ]at this;cases this
  .rw[bg hb]at this;exact#[m,this]
def Va(a:Addr)(kvs:B<|B Key×V)(Q:VK):VK:=λv H'=>∃ob Hs,H'=upd Hs a (.f ob<|.c kvs)/\Hs a=M (.c kvs)/\Q v Hs
def ftr(h:PE X e te)(hh:∀O H Q,qw O H Q->∃a kvs,H a=M (.c kvs)/\te O H (Va a kvs Q)):PE X e qw:=by
 intro pins s O H Q I q;let#[a,kvs,e0,q]:=hh O H Q q;refine bH (h pins s O H _ I q) λv s1 z0=>?_;let#[x,H1,I1,r1,ob,Hs,eH,e1,q1]:=z0;subst eH;exact#[x,Hs,Inv.ac I e0 I1 e1,r1,q1]
end
def Y3(h:zl k=3):∃x y z,k=[x,y,z]:=by
 match k,h with
 |[x,y,z],_=>exact#[x,y,z,rfl]
section
variable{K:ao}{Y:B G}{a:Addr}{ob:Obj}{kvs:B (B Key×V)}{n:J}{Q:VK}
noncomputable def kD:Key->D
|.inl i=>.b i
|.inr x=>.c x
def adR(h:Sg k=L):bA K H (kD k) (kV k):=by
 cases k with
 |inl i=>rfl
 |inr x=>exact#[rfl,aC h]
def afN(k:Key):gJ (kD k) (.b n)=decide (k=.inl n):=by
 cases k with
 |inl i=>unfold kD gJ;simp;rfl
 |inr x=>unfold kD gJ;simp
set_option tactic.hygienic true in
theorem Fy:∀(ks:B<|B Key) {ts:B Addr}{acc:B V}{s0 s1 s2:LD V}{Hs:Hp},jX Hs ks ts->Hs a=M (.c kvs)->fV ks=L->(∀k∈ks,zl k=3)->zl acc+zl ks<=aj->
 zQ (ks.filterMap<|tH n) Hs (λus H1=>∀p,H1 p=S->Q (.a p) (upd H1 p<|.a<|acc++us.map V.a))->
 tG (λH'=>MJ H' a ob kvs) (wG K Y E0<|.b #v[.a 0,.a 1,.a 2]) (wC K Y E0<|.some<|.d .Eq (.a 2)<|.a 3) (wE K Y E0<|.f #v[.a 0,.a 1])
  (λvs H2=>∀p,H2 p=S->Va a kvs Q (.a p) (upd H2 p<|.a vs)) (zR ts) acc [s0,s1,s2,M<|.b n] (upd Hs a<|.f ob<|.c kvs)
|[],ts,acc,s0,s1,s2,Hs,ht,ha,_,_,_,q=>by
 cases ht;refine#[bZ,λp hp=>?_];have hpa:p≠a:=λz=>by rw[z,bZ]at hp;cases hp
 rw[bg hpa]at hp;have:=q p hp;rw[dZ,ee]at this;exact#[ob,_,M0 hpa,by rw[bg<|gi hpa];exact ha,this]
|k::ks,ts,acc,s0,s1,s2,Hs,ht,ha,hk,h3,hl,q=>by
 cases ht with
 |cons h1 ht=>
  rename_i t ts;let#[x,y,z,rfl]:=Y3<|h3 k aB;have hta:=QF h1 ha (λw=>by cases w);have hk':=bC.mp hk;have hks:=bC.mpr λc hc=>hk' c<|aq _ hc;have srt:=(nT.mp<|hk' _ aB).1;have hz:=bC.mp srt z (by simp);have hl':zl acc+(zl ks+1)<=aj:=hl;refine#[bZ,bX (Nat.lt_add_of_pos_right<|Nat.succ_pos<|zl ks) hl',?_];refine#[L,[kV x,kV y,kV z],RS (by rw[bg hta];exact h1),rfl,rfl,?_];show wC K Y E0 _ [M<|kV x,M<|kV y,M<|kV z,M<|.b n] _ _;refine#[kD z,.b n,adR hz,rfl,by cases z<;>rfl,rfl,?_];rw[afN];by_cases hc:z=.inl n
  .have ef:([x,y,z]::ks).filterMap (tH n)=[x,y]::ks.filterMap (tH n):=by
    rw[yj (show tH n [x,y,z]=M [x,y]from aH hc)]
   rw[ef]at q;show if decide (z=.inl n)=L then _ else _
   rw[aH<|aU hc];refine#[by show 2<=aj;rw[cg];lia,λp hp=>?_];have hpa:p≠a:=λz=>by rw[z,bZ]at hp;cases hp
   rw[bg hpa]at hp;rw[M0 hpa];have q1:=q p hp;refine Fy ks (Paired.imp' (λc d e=>?_) ht) ?_ hks (λc hc=>h3 c<|aq _ hc) (by rw[aZ];show zl acc+1+zl ks<=aj;lia) ?_
   .rw[bg<|cj e hp];exact e
   .rw[bg<|gi hpa];exact ha
   .simpa only[bE,bB,dZ,List.cons_append,lY]using q1
  .have ef:([x,y,z]::ks).filterMap (tH n)=ks.filterMap (tH n):=by
    rw[yk (show tH n [x,y,z]=S from aG hc)]
   rw[ef]at q;show if decide (z=.inl n)=L then _ else _
   rw[aG<|by simpa using hc];exact Fy ks ht ha hks (λc hc=>h3 c<|aq _ hc) (by lia) q
def fwn(hn:zl nl=3)(hj:O[j]?=M (M<|.b n))(hk:O[k]?=M (M x))(h:Q3 n x H Q):∃a kvs,H a=M (.c kvs)/\wE K Y E (WV nl j k) O H (Va a kvs Q):=by
 let#[a,kvs,rfl,ha,#[h1,h2,h3],q]:=h;refine#[a,kvs,ha,?_];show ir O k _;unfold ir;rw[hk];refine#[a,kvs,rfl,ha,λob ts ht=>?_]
 match nl,hn with
 |[n0,n1,n2],_=>
  have ej:O.getD j S=M (.b n):=by rw[aV,hj];rfl
  show tG _ _ _ _ _ _ _ [S,S,S,O.getD j S] _;rw[ej];exact Fy (kvs.map (·.1)) ht ha h2 h3 (by rw[aa];simpa using h1)<|by simpa using q
def Y4(nl:B Str)(j k:Nat):TE:=λO H Q=>∃n x,zl nl=3/\O[j]?=M (M<|.b n)/\O[k]?=M (M x)/\Q3 n x H Q
def M1{k:V->Prop}(h:ir O i k):∃v,O[i]?=M (M v)/\k v:=by
 unfold ir at h;split at h
 .exact#[_,by assumption,h]
 .exact h.elim
def aa8{E:XK}{i j k:Nat}{D:S3}{O:L2.St}{H:Hp}(h:wS K Y E (.l i nl j k) D O H):Y4 nl j k O H λx H1=>wG K Y E (.a i) x O H1 D.nx:=by
 let#[h0,h]:=h;let#[y,h1,h3]:=M1 h;let#[x,h2,m,e,h4]:=M1 h3;exact#[m,x,h0,e▸h1,h2,h4]
end
def aa9(hk:env.scope.kind=.function)(h:LK env.scope sc y py T6=L):vL (.ListComp l gs sc T6) (M<|.Name y py) n env=pure L:=by
 unfold LK at h;simp only[cG,eS]at h;let#[#[h1,h2],h3]:=h;have hb:env.blockKind=.function:=by
  unfold Env.blockKind;rw[hk];rfl
 show pure (env.blockKind==.function&&env.kindOf y==M .local&&py.line==T6.line&&!(sc.names.any λ(n,k)=>n==y&&(k==.local||k==.cell)))=pure L;have e1:(env.blockKind==fk1)=L:=by rw[hb];rfl
 have e2:(env.kindOf y==M NameKind.local)=L:=by
  have:env.kindOf y=M .local:=h1;rw[this];rfl
 have e3:(py.line==T6.line)=L:=by rw[h2];simp
 rw[e1,e2,e3,h3];rfl
def xC(h:notTuple t=L\/notTuple e=L):Lu [t] e env=pure S:=by
 rcases h with h|h
 .cases t<;>first|rfl|exact no h
 .cases t<;>first|rfl|(cases e<;>first|rfl|exact no h)
def J6(h:uP e=L):we [t] e n env=pure W:=GL h
def Fz(hs:env.scope=sc)(h:(uP e||MR sc t)=L):we [t] e n env=pure W:=by
 rcases oO.mp h with h|h
 .exact J6 h
 .subst hs;show vL e (M t) n env=pure W;unfold vL;split
  .cases t with
   |Name y p=>
    have e2:(env.kindOf y==M NameKind.local)=W:=by
     have:¬env.scope.names.lookup y=M .local:=by simpa[MR]using h
     exact dM.mpr this
    simp only[e2,Ao,nB]
   |_=>rfl
  .rfl
structure VX (X:Cx) (T:Tab) (Y:B G) (E:XK):Prop extends Ok X T Y E where
 pgs_nil':T.ac=L->∃X0:Cx,X=X0.s_ (Fe X0 E)/\X.stack=X.ab::X.outer/\X.ab.frame=M X.ab.locals/\X.A.handled=S
def FA(h:B_ T g t=L):acx t=L:=by
 cases g with
 |a i=>exact f6 t (eq_of_beq (aca h).1) λ_ _=>rfl
 |b gs=>exact zf t (eq_of_beq (aca h).1) λ_ _ _=>rfl
 |c o i=>exact oQ t (eq_of_beq (aca h).1) λ_ _ _=>rfl
def ZD:V->V->Hp->VK->Prop:=λo i H Q=>∃p xs k v,o=.a p/\i=.b k/\H p=M (.a xs)/\bL xs k=M v/\Q v H
def fzt:Xp X ZD:=by
 intro pins s O H o i ov iv Q I ro ri h;let#[p,xs,i,z,rfl,rfl,hq,he,q]:=h;cases ro;let#[t,rfl]:=ri;let#[its,r,pl,hz]:=I.list<|.inl<|.inl hq;let#[j,h1,h2,h3,h4,h5]:=uH he;let#[w,ew,rw']:=r.get h2;have hl:=r.length;have hn:=xu;have fin:EP X pins O Q w s:=#[z,H,I,rw',q];by_cases h0:0<=i
 .have hj:i.toNat=j:=by
   rw[zG h0 h5]at h1;exact cE h1
  exact wpAny_getItem_list pl.isList h0 (by lia) (by rw[hj];simpa using ew) fin
 .have hj:(i+(its.toArray.size:J)).toNat=j:=by
   rw[yd (by lia) h4]at h1;rw[aS,<-hl];exact cE h1
  exact zJ pl.isList (by lia) (by rw[aS]<;>lia) (by lia) (by rw[hj];simpa using ew) fin
def adU(ho:PE X o<|wE X.K Y E<|.a k)(hi:PE X (.Name y py)<|wE X.K Y E<|.a j)(he:PE X e<|wE X.K Y E<|.c<|.b n):PS X (.AugAssign (.Subscript o (.Name y py) tpos) .Add e pos) (wS X.K Y E<|.i k j n):=by
 intro pins s O H D I h;refine aar ho hi fzt he SW YM (λ_ _ _=>rfl) pins s O H D I ?_;have h:ir O k λx=>ir O j λy=>∃a xs i p m,x=.a a/\H a=M (.a xs)/\y=.b i/\kq (zl xs) i=M p/\xs[p]?=M (.b m)/\D.nx O (upd H a<|.a<|xs.set p<|.b<|m+n):=h;show ir O k λx=>ir O j λy=>ZD x y H λv H3=>(ipI λi j=>i+j) v (.b n) H3 λz H5=>Zo x y z H5 λH6=>D.nx O H6;unfold ir at h ⊢;generalize O[k]?=u at h ⊢;generalize O[j]?=w at h ⊢;rcases u with _|_|x
 .exact h.elim
 .exact h.elim
 rcases w with _|_|y
 .exact h.elim
 .exact h.elim
 let#[a,xs,i,p,m,rfl,h2,rfl,h4,h5,h6]:=h;exact#[a,xs,i,.b m,rfl,rfl,h2,by unfold bL;rw[h4];exact h5,m,n,rfl,rfl,a,xs,i,p,rfl,rfl,h2,h4,h6]
set_option tactic.hygienic true in
def aa_(hO:∀C as,Y[g]?=M (G.c C as)->Bl X.K C/\∀f∈as,nV X.K C f)(ha:PE X o<|wE X.K Y E<|.a k)(hv:PE X value<|wE X.K Y E c)(hs:we [.Attribute o f pos'] value pos.line X.ab=pure W):PS X (.Assign [.Attribute o f pos'] value pos) (wS X.K Y E<|.f g k f c):=by
 intro pins s O H D I h;refine plainObj_wpAny_Assign_Attribute (bH (hv pins s O H _ I h) λu s1 ⟨y,H1,I1,ry,q⟩=>?_) hs;split at q
 .rename_i C as e1;let#[q0,q]:=q;let#[k1,k2]:=hO C as e1;have q:wE X.K Y E (.a k) O H1 (λv H2=>∃a dx fs,v=.a a/\H2 a=M (.g C dx fs)/\zl fs<1000/\D.nx O (upd H2 a<|.g C dx<|kH f y fs)):=q;refine bH (ha pins s1 O H1 _ I1 q) λov s2 z0=>?_;let#[x,H2,I2,rx,a,dx,fs,ex,ea,l,q2]:=z0;subst ex;obtain rfl:ov=bU a:=rx;exact Itt I2 ea k1 (k2 f q0) l ry λs3 I3=>#[O,_,I3,q2]
 .exact q.elim
section
set_option tactic.hygienic true in
mutual
theorem okS:∀{Y:B G} (c:CS) (st:Stmt) {X:Cx}{T:Tab}{E:XK},VX X T Y E->Xx T c st=L->PS X st (wS X.K Y E c)
|Y,.e c,st,X,T,E,ok,h=>by
 let#[h0,h]:=aca h;revert h;refine acu st (eq_of_beq h0) ?_;intro _ _ h;let#[h1,h2]:=aca h;exact aap (dY c _ ok.toOk h2).1<|GL h1
|Y,.d g c,st,X,T,E,ok,h=>by
 let#[h0,h]:=aca h;revert h;refine sy st (eq_of_beq h0) ?_;intro ts e p h
 match ts,h with
 |[],h=>exact no h
 |_::_::_,h=>exact no h
 |[t],h=>
  let#[#[#[h1,h2],h3],h4]:=wU h;exact Mh (dY c e ok.toOk h4).1 (MZ g t ok.toOk h3) (Fz ok.sc h1) (xC<|.inl h2) (by rw[qP<|FA h3];rfl)
|Y,.k g c,st,X,T,E,ok,h=>by
 apply hid (e:=st);intro P zk;cases st<;>first|exact no h|skip
 rename_i ts e p
 match ts,h with
 |[],h=>exact no h
 |_::_::_,h=>exact no h
 |[t],h=>
  let#[#[#[h1,h2],h3],h4]:=wU h;refine zk _ ?_;exact Mh (dY c e ok.toOk h4).1 (MZ g t ok.toOk h3) (J6 h1) (xC<|.inr h2) (by rw[qP<|FA h3];rfl)
|Y,.g i c,st,X,T,E,ok,h=>by
 let#[h0,h]:=aca h;let#[hf,h]:=aca h;revert hf h;refine BL st (eq_of_beq h0) ?_;intro t op e p hf h;revert h;refine f6 t (eq_of_beq hf) ?_;intro y py h;cases op<;>first|exact no h|skip
 let#[#[h1,h2],h3]:=tP h;have hl:X.ab.scope.names.lookup y=M .local:=by rw[ok.sc];exact aC h2
 exact acQ ok.nd (ok.toOk.Rp h1) (.inl hl) (dY c e ok.toOk h3).1 SW<|.inr hl
|Y,.i k j n,st,X,T,E,ok,h=>by
 let#[h0,h]:=aca h;revert h;refine BL st (eq_of_beq h0) ?_;intro t op e p h;cases t<;>first|exact no h|skip
 cases op<;>first|exact no h|skip
 rename_i o i _;let#[#[h1,h2],h3]:=tP h;have hi:=(dY (.a j) i ok.toOk h2).1;have hc:=(aca h2).1;revert hi;refine f6 i (eq_of_beq hc) ?_;intro y py hi;exact adU (dY (.a k) o ok.toOk h1).1 hi (dY (.c<|.b n) e ok.toOk h3).1
|Y,.l i nl j k,st,X,T,E,ok,h=>by
 let#[h0,h]:=aca h;revert h;refine sy st (eq_of_beq h0) ?_;intro ts e p h
 match ts,h with
 |[],h=>exact no h
 |_::_::_,h=>exact no h
 |[t],h=>
  let#[#[#[h1,h2],h3],h4]:=wU h;refine λpins s O H D I q=>Mh (ftr (qw:=Y4 nl j k) (dY (WV nl j k) e ok.toOk h4).1 λO H Q q=>?_) (MZ (.a i) t ok.toOk h3) (Fz ok.sc h1) (xC<|.inl h2) (by rw[qP<|FA h3];rfl) pins s O H D I<|aa8 q;let#[n,x,q1,q2,q3,q4]:=q;exact fwn q1 q2 q3 q4
|Y,.f g k f c,st,X,T,E,ok,h=>by
 let#[h0,h]:=aca h;revert h;refine sy st (eq_of_beq h0) ?_;intro ts e p h
 match ts,h with
 |[],h=>exact no h
 |[t],h=>
  cases t<;>first|exact no h|skip
  let#[#[#[h1,h2],h3],h4]:=wU h;have h1:=aC h1;subst h1;exact aa_ (ok.toOk.ab h4) (dY (.a k) _ ok.toOk h2).1 (dY c e ok.toOk h3).1 (Fz (t:=.Attribute _ _ _) (sc:=T.sc) ok.sc<|by simp[MR])
 |t::_::_,h=>
  cases t<;>exact no h
|Y,.h i c,st,X,T,E,ok,h=>by
 let#[h0,h]:=aca h;let#[hf,h]:=aca h;revert hf h;refine sy st (eq_of_beq h0) ?_;intro ts e p hf h
 match ts,hf,h with
 |[],hf,h=>exact no hf
 |t::tr,hf,h=>
  let#[hf,hg]:=aca hf;revert h;refine f6 t (eq_of_beq hf) ?_;intro y py h;cases tr<;>first|exact no h|skip
  revert h;refine Dt e (eq_of_beq hg) ?_;intro l gs sc T6 h;have QW:=(aca (aca h).1).1;have hns:T.semi=L->bu:=λz=>by have q:=(aca (aca h).1).2;rw[z]at q;cases q
  replace h:=(aca h).2;let#[#[h1,h2],h3]:=tP h;cases c<;>first|exact no h3|skip
  rename_i nl fr elt tg src cond _ _ _
  match gs,h3 with
  |[],h=>exact no h
  |⟨_,_,_,.ofNat 0⟩::_::_,h=>exact no h
  |⟨_,_,_,.ofNat<|n+1⟩::_,h=>exact no h
  |⟨_,_,_,.negSucc n⟩::_,h=>exact no h
  |[#[t,it,ifs,.ofNat 0]],h3=>
   replace h3:=(aca (aca h3).2).2;let#[#[#[#[#[k2,k3],k4],k5],td'],td1]:=DM h3;let#[k3,k3']:=aca k3;have hl:X.ab.scope.names.lookup y=M .local:=by
    unfold LK at h2;simp only[cG,eS]at h2;rw[ok.sc];exact h2.1.1
   exact aaR (ok.ac QW) ok.nd (ok.toOk.Rp h1) hl (ok.toOk.DN k2) (X4 src it k3' ok.toOk k4) (Ca k3) (aa9 ok.kind (by rw[ok.sc];exact h2)) (λC ais H ex=>MZ tg t (uQ ok.toOk k2 C ais H ex (λz=>(hns z).elim)<|.inl QW) k5) (λC ais H ex=>k6 cond ifs (uQ ok.toOk k2 C ais H ex (λz=>(hns z).elim)<|.inl QW) td')
    λC ais H ex=>(dY elt _ (uQ ok.toOk k2 C ais H ex (λz=>(hns z).elim)<|.inl QW) td1).1
|Y,.a c,st,X,T,E,ok,h=>by
 let#[h0,h]:=aca h;revert h;refine rg3 st (eq_of_beq h0) ?_;intro e p h;cases e<;>first|exact no h|skip
 .exact acK (dY c _ ok.toOk h).1
|Y,.b c a b,st,X,T,E,ok,h=>by
 let#[h0,h]:=aca h;revert h;refine Stmt.If.elim st (eq_of_beq h0) ?_;intro _ _ _ _ h;let#[#[h1,h2],h3]:=tP h;exact afb (dY c _ ok.toOk h1).2.1 (IQ a _ ok h2)<|IQ b _ ok h3
|Y,.j c b,st,X,T,E,ok,h=>by
 apply hid (e:=st);intro P zk;cases st<;>first|exact no h|skip
 rename_i e x l p;cases l<;>first|exact no h|skip
 .let#[h1,h2]:=aca h;refine zk _ ?_;exact hbl ok.po (dY c _ ok.toOk h1).2.1<|IQ b _ ok h2
|Y,.c g src b,st,X,T,E,ok,h=>by
 let#[h0,h]:=aca h;revert h;refine Stmt.For.elim st (eq_of_beq h0) ?_;intro t it x l p h;cases l<;>first|exact no h|skip
 .let#[QW,h]:=aca h;let#[#[#[#[h1,h1'],h2],h3],h4]:=DK h;exact afz ok.po (ok.ac QW) (X4 src _ h1' ok.toOk h2) (MZ g _ ok.toOk h3) (IQ b _ ok h4)<|Ca h1
|Y,.n,st,X,T,E,ok,h=>by
 let#[h0,h]:=aca h;revert h;refine aak st (eq_of_beq h0) ?_;intro _ h;exact hak
|Y,.m,st,X,T,E,ok,h=>by
 let#[h0,h]:=aca h;revert h;refine fk2 st (eq_of_beq h0) ?_;intro _ h;exact OG
|Y,.o,st,X,T,E,ok,h=>hbb
theorem IQ:∀{Y:B G} (cs:cC) (sts:B Stmt) {X:Cx}{T:Tab}{E:XK},VX X T Y E->ve T cs sts=L->zP X sts (wSs X.K Y E cs)
|Y,.nil,sts,X,T,E,ok,h=>by
 cases sts with
 |nil=>exact aao
 |cons s r=>exact no h
|Y,.cons c r,sts,X,T,E,ok,h=>by
 cases sts with
 |nil=>exact no h
 |cons s sr=>
  let#[h1,h2]:=aca h;exact hah (okS c s ok h1)<|IQ r sr ok h2
end
end
def zI(P:bS)(w:bO)(K:ao)(mg:Str->LD B5)(base:Heap)(k:Nat)(x:Str)(sp:Sp)(QL:B V):Prop:=QL=[]/\∃(C:Addr) (j:Nat) (f:Addr) (fd:fi) (ps:B Str) (SA:Sp),j+1<=k/\iB P w K mg base (mU P w) j f fd ps SA/\mg x=M (.ref C)/\Mk K C f/\RZ K fd ps []/\WW C SA sp
def IS(P:bS)(w:bO)(K:ao)(mg:Str->LD B5)(base:Heap)(k:Nat)(x:Str):G->Prop
|.d v=>∃u,mg x=M u/\acb v u
|.e a xs=>mg x=M (.ref a)/\VV K a L xs
|.a sp QL=>(∃(f:Addr) (fd:fi) (ps:B Str) (ds:B B5),iB P w K mg base (mU P w) k f fd ps sp/\mg x=M (.ref f)/\fK K (.ref f)=L/\RZ K fd ps ds/\bN QL ds)\/zI P w K mg base k x sp QL
|.c C as=>Bl K C/\∀f∈as,nV K C f
|.f sp=>∃(f:Addr) (fd:fi) (ps:B Str),Zy P w K mg base k f fd ps sp/\mg x=M (.ref f)/\fK K (.ref f)=L/\(RZ K fd ps []/\ps≠[])
|.b _=>True
|.g=>True
def Ce(P:bS)(w:bO)(K:ao)(mg:Str->LD B5)(base:Heap)(k:Nat):B Str->B G->Prop
|x::xs,g::gs=>IS P w K mg base k x g/\Ce P w K mg base k xs gs
|_,_=>True
theorem Ce.get{w:bO}{K:ao}{mg:Str->LD B5}{base:Heap}{k:Nat}:∀{xs:B Str}{gs:B G},Ce P w K mg base k xs gs->∀(i:Nat) x g,xs[i]?=M x->gs[i]?=M g->IS P w K mg base k x g
|[],_,_,i,x,g,h,_=>by simp at h
|_::_,[],_,i,x,g,_,h=>by simp at h
|x::xs,g::gs,a,0,y,g',h1,h2=>by
 simp at h1 h2;subst h1 h2;exact a.1
|x::xs,g::gs,a,i+1,y,g',h1,h2=>Ce.get a.2 i y g' (by simpa using h1)<|by simpa using h2
def M2(K:ao)(mg:Str->LD B5)(fd:fi)(Pa:Addr):Prop:=(∃c,fd.code=.ref c/\su K c Pa=L)/\(Pa,fd.qualname++".<locals>."++"<lambda>")∈o6
section
variable{P:bS}{w:bO}{K:ao}{mg:Str->LD B5}{base:Heap}
def xx.ab{st:Stmt}{f:Addr}{fd:fi}{N ps:B Str}{k:Nat}{sp:Sp}(F:xx K x qual st f fd)(Q7:uG N ps<|dH st)(len:∀vs H Q E,sp vs H Q E->zl vs=zl ps)(hbody:∀(cdv:B5),fd.code=cdv->fd.qualname=qual->∀(A:cY) (outer:B Env) (s:az) (H:Hp) (vs:B V) (Q:VK) (E:XK),jU k (A.deeper<|rB qual (dH st) s.heap.objs.size f cdv)->sp vs H Q E->
   ∃t,zP ((tw (mU P w) P w K mg base N qual (dH st) f cdv A outer s H E).s_<|Fe (tw (mU P w) P w K mg base N qual (dH st) f cdv A outer s H E) E) (jg st) t/\t { nx:=λ_ H'=>Q .d H',rt:=Q } (adt N vs) H):iB P w K mg base (mU P w) (k+1) f fd ps sp:=by
 let#[oc,od,kV,doc,pm,an,cdv,ct,osl,rfl,lk,hcd]:=F.ex;refine afn lk hcd Q7 len λA outer s H vs Q E hr Rj=>?_;let#[t,h,q]:=hbody cdv rfl rfl A outer s H vs Q E hr Rj;exact#[t,adm h,q]
def T3{st:Stmt}{f:Addr}{fd:fi}{N ps gl bn:B Str}{k:Nat}{sp:Sp}{Y:B G}(c:cC)(F:xx K x qual st f fd)(Q7:uG N ps<|dH st)(hc:ve #[N,dH st,gl,bn,(λ_=>L),L,W] c (jg st)=L)(hg:Ce P w K mg base k gl Y)(hl:∀(i:Nat) Pa,Y[i]?=M (.b Pa)->M2 K mg fd Pa)(hb:∀x∈bn,mg x=S)(len:∀vs H Q E,sp vs H Q E->zl vs=zl ps)(h:∀vs H Q E,sp vs H Q E->wSs K Y E c { nx:=λ_ H'=>Q .d H',rt:=Q } (adt N vs) H):iB P w K mg base (mU P w) (k+1) f fd ps sp:=by
 refine xx.ab F Q7 len λcdv ecd eq A outer s H vs Q E hr Rj=>#[wSs K Y E c,?_,h vs H Q E Rj];have ok:VX ((tw (mU P w) P w K mg base N qual (dH st) f cdv A outer s H E).s_<|Fe (tw (mU P w) P w K mg base N qual (dH st) f cdv A outer s H E) E) ⟨N,dH st,gl,bn,(λ_=>L),L,W⟩ Y E:=by
  refine#[#[rfl,Q7.nd,rfl,Q7.kind,λi x g hx hg'=>?_,hb,λ_ _=>rfl,λ_=>rfl,(λz=>nomatch z),Att (E:=E) rfl rfl,by have:=hr.un;show(A.deeper<|rB qual (dH st) s.heap.objs.size f cdv).units+60<d_;lia],λ_=>#[_,rfl,rfl,rfl,hr.hd]];have q:=hg.get i x g hx hg';cases g with
  |a sp QL=>
   rcases q with⟨f,fd,ps,ds,q1,q2,q3,q4,q5⟩|⟨e0,C,j,f,fd,ps,SA,hj,q1,q2,q3,q4,q5⟩
   .exact .inl #[k,f,fd,ps,ds,q1,hr,q2,q3,q4,q5,Px]
   .exact .inr (.inl #[e0,C,j,f,fd,ps,SA,q1,hr.ac hj,q2,q3,q4,q5,Px])
  |f sp=>
   let#[f,fd,ps,q1,q2,q3,q4]:=q;exact#[k,f,fd,ps,q1,#[rfl,hr.dp,hr.un],q2,q3,q4]
  |b Pa=>
   let#[#[c,q1,q2],q5]:=hl i Pa hg';refine#[#[c,ecd.symm.trans q1,q2],?_,hr.depth,?_]
   .rw[eq]at q5;exact q5
   .have:=hr.un;show(A.deeper<|rB qual (dH st) s.heap.objs.size f cdv).units+80<d_
    lia
  |_=>exact q
 exact IQ c _ ok hc
def iB.ac(F:iB P w K mg base (mU P w) k f fd ps sp):iB P w K mg base Tn k f fd ps (λvs H Q _=>sp vs H Q E0):=
 #[λvs H Q E h=>F.len vs H Q E0 h,λA outer s H args us vs Q E hr he hb hv hs=>kQ (F.run A outer s H args us vs Q E0 hr he hb hv hs) λr s' q=>by
  cases r with
  |error v=>cases q
  |ok fl=>cases fl<;>exact q]
end
end L3
end
section
namespace L3
open PySem L2
theorem len_str(x:Str):x.cps.toList.length=x.length:=by rfl
mutual
def bT(K:ao)(H F:Hp):D->V->B Addr->Prop
|.h,v,fp=>v=.d/\fp=[]
|.e b,v,fp=>v=.c b/\fp=[]
|.b i,v,fp=>v=.b i/\fp=[]
|.c x,v,fp=>(v=.e x/\x.length<=aj)/\fp=[]
|.a o ds,v,fp=>if o=L then ∃a vs fs,v=.a a/\H a=M (.a vs)/\vs.length<=aj/\aY K H F ds vs fs/\fp=a::fs else bA K F (.a o ds) v/\fp=[]
|.d ds,v,fp=>∃a vs,v=.a a/\F a=M (.b vs)/\vs.length<=aj/\aY K H F ds vs fp
|.g o ks ds,v,fp=>if o=L then ∃a kvs fs,v=.a a/\H a=M (.e kvs)/\kvs.length<=aj/\(kvs.map (·.1)=ks/\keysOk ks=L)/\aY K H F ds (kvs.map (·.2)) fs/\fp=a::fs else bA K F (.g o ks ds) v/\fp=[]
|.f o ks ds,v,fp=>if o=L then ∃a kvs fs,v=.a a/\H a=M (.c kvs)/\kvs.length<=aj/\(kvs.map (·.1)=ks/\fV ks=L)/\aY K H F ds (kvs.map (·.2)) fs/\fp=a::fs else bA K F (.f o ks ds) v/\fp=[]
|.i o C ks ds,v,fp=>if o=L then ∃a dx vs fs,v=.a a/\(H a=M (.g C dx vs)/\H dx=M (.d a))/\vs.length<=1000/\(vs.map (·.1)=ks/\ks.Nodup)/\aY K H F ds (vs.map (·.2)) fs/\fp=a::dx::fs else bA K F (.i o C ks ds) v/\fp=[]
def aY(K:ao)(H F:Hp):B D->B V->B Addr->Prop
|[],vs,fp=>vs=[]/\fp=[]
|d::ds,vs,fp=>∃v r f1 f2,vs=v::r/\fp=f1++f2/\bT K H F d v f1/\aY K H F ds r f2
end
section
variable{K:ao}{H H' F F':Hp}
def jt.same'(e:bx H H')(h:jt K H a t xs):jt K H' a t xs:=by
 rcases h with h|h
 .refine .inl ?_;unfold MI at h ⊢;cases q:H a with
  |none=>rw[q]at h;cases h
  |some o=>rw[q]at h;rw[e a o q];exact h
 .exact .inr h
def Rd.same(e:bx H H')(h:Rd H a u):Rd H' a u:=by
 rcases h with h|⟨o,h⟩
 .exact .inl (e _ _ h)
 .exact .inr #[o,e _ _ h]
def Rd.seq(h:Rd H a<|.a xs):jt K H a W xs:=by
 refine .inl ?_;unfold MI;rcases h with h|⟨o,h⟩<;>rw[h]
mutual
theorem bA.ac(e:bx H H'):∀(d:D) (v:V),bA K H d v->bA K H' d v
|.h,v,h=>h
|.e b,v,h=>h
|.b i,v,h=>h
|.c x,v,h=>h
|.a o ds,v,h=>by
 let#[a,vs,h1,h2,h3,h4]:=h;exact#[a,vs,h1,Rd.same e h2,h3,aT.ac e ds vs h4]
|.d ds,v,h=>by
 let#[a,vs,h1,h2,h3,h4]:=h;exact#[a,vs,h1,e _ _ h2,h3,aT.ac e ds vs h4]
|.g o ks ds,v,h=>by
 let#[a,vs,h1,h2,h3,h4,h5]:=h;exact#[a,vs,h1,e _ _ h2,h3,h4,aT.ac e ds _ h5]
|.f o ks ds,v,h=>by
 let#[a,vs,h1,h2,h3,h4,h5]:=h;exact#[a,vs,h1,e _ _ h2,h3,h4,aT.ac e ds _ h5]
|.i o C ks ds,v,h=>by
 let#[a,dx,vs,h1,h2,h3,h4,h5]:=h;exact#[a,dx,vs,h1,#[e _ _ h2.1,e _ _ h2.2],h3,h4,aT.ac e ds _ h5]
theorem aT.ac(e:bx H H'):∀(ds:B D) (vs:B V),aT K H ds vs->aT K H' ds vs
|[],vs,h=>h
|d::ds,vs,h=>by
 let#[v,r,h1,h2,h3]:=h;exact#[v,r,h1,bA.ac e d v h2,aT.ac e ds r h3]
end
mutual
theorem bA.br:∀(d:D) (v:V),bA K F (br d) v↔bA K F d v
|.h,v=>Ec
|.e b,v=>Ec
|.b i,v=>Ec
|.c x,v=>Ec
|.a o ds,v=>by
 constructor
 .intro z0;let#[a,vs,h1,h2,h3,h4]:=z0;exact#[a,vs,h1,h2,h3,(aT.aD ds vs).mp h4]
 .intro z0;let#[a,vs,h1,h2,h3,h4]:=z0;exact#[a,vs,h1,h2,h3,(aT.aD ds vs).mpr h4]
|.d ds,v=>by
 constructor
 .intro z0;let#[a,vs,h1,h2,h3,h4]:=z0;exact#[a,vs,h1,h2,h3,(aT.aD ds vs).mp h4]
 .intro z0;let#[a,vs,h1,h2,h3,h4]:=z0;exact#[a,vs,h1,h2,h3,(aT.aD ds vs).mpr h4]
|.g o ks ds,v=>by
 constructor
 .intro z0;let#[a,vs,h1,h2,h3,h4,h5]:=z0;exact#[a,vs,h1,h2,h3,h4,(aT.aD ds _).mp h5]
 .intro z0;let#[a,vs,h1,h2,h3,h4,h5]:=z0;exact#[a,vs,h1,h2,h3,h4,(aT.aD ds _).mpr h5]
|.f o ks ds,v=>by
 constructor
 .intro z0;let#[a,vs,h1,h2,h3,h4,h5]:=z0;exact#[a,vs,h1,h2,h3,h4,(aT.aD ds _).mp h5]
 .intro z0;let#[a,vs,h1,h2,h3,h4,h5]:=z0;exact#[a,vs,h1,h2,h3,h4,(aT.aD ds _).mpr h5]
|.i o C ks ds,v=>by
 constructor
 .intro z0;let#[a,dx,vs,h1,h2,h3,h4,h5]:=z0;exact#[a,dx,vs,h1,h2,h3,h4,(aT.aD ds _).mp h5]
 .intro z0;let#[a,dx,vs,h1,h2,h3,h4,h5]:=z0;exact#[a,dx,vs,h1,h2,h3,h4,(aT.aD ds _).mpr h5]
theorem aT.aD:∀(ds:B D) (vs:B V),aT K F (aD ds) vs↔aT K F ds vs
|[],vs=>Ec
|d::ds,vs=>by
 constructor
 .intro z0;let#[v,r,h1,h2,h3]:=z0;exact#[v,r,h1,(bA.br d v).mp h2,(aT.aD ds r).mp h3]
 .intro z0;let#[v,r,h1,h2,h3]:=z0;exact#[v,r,h1,(bA.br d v).mpr h2,(aT.aD ds r).mpr h3]
end
mutual
theorem bA.yH:∀(d:D) (v:V),bA K F d v->bT K H F (br d) v []
|.h,v,h=>#[h,rfl]
|.e b,v,h=>#[h,rfl]
|.b i,v,h=>#[h,rfl]
|.c x,v,h=>#[h,rfl]
|.a o ds,v,h=>#[(bA.br (.a o ds) v).mpr h,rfl]
|.d ds,v,h=>by
 let#[a,vs,h1,h2,h3,h4]:=h;exact#[a,vs,h1,h2,h3,aT.yH ds vs h4]
|.g o ks ds,v,h=>#[(bA.br (.g o ks ds) v).mpr h,rfl]
|.f o ks ds,v,h=>#[(bA.br (.f o ks ds) v).mpr h,rfl]
|.i o C ks ds,v,h=>#[(bA.br (.i o C ks ds) v).mpr h,rfl]
theorem aT.yH:∀(ds:B D) (vs:B V),aT K F ds vs->aY K H F (aD ds) vs []
|[],vs,h=>#[h,rfl]
|d::ds,vs,h=>by
 let#[v,r,h1,h2,h3]:=h;exact#[v,r,[],[],h1,rfl,bA.yH d v h2,aT.yH ds r h3]
end
mutual
theorem bT.ac(e:bx F F'):∀(d:D) (v:V) (fp:B Addr),(∀a∈fp,H' a=H a)->bT K H F d v fp->bT K H' F' d v fp
|.h,v,fp,_,h=>h
|.e b,v,fp,_,h=>h
|.b i,v,fp,_,h=>h
|.c x,v,fp,_,h=>h
|.a o ds,v,fp,s,h=>by
 unfold bT at h ⊢;split at h
 .rename_i ho;rw[aH ho];let#[a,vs,fs,h1,h2,h3,h4,rfl]:=h;exact#[a,vs,fs,h1,by rw[s a aB];exact h2,h3,aY.ac e ds vs fs (λb hb=>s b<|aq _ hb) h4,rfl]
 .rename_i ho;rw[aG ho];exact#[bA.ac e _ v h.1,h.2]
|.d ds,v,fp,s,h=>by
 let#[a,vs,h1,h2,h3,h4]:=h;exact#[a,vs,h1,e _ _ h2,h3,aY.ac e ds vs fp s h4]
|.g o ks ds,v,fp,s,h=>by
 unfold bT at h ⊢;split at h
 .rename_i ho;rw[aH ho];let#[a,vs,fs,h1,h2,h3,h4,h5,rfl]:=h;exact#[a,vs,fs,h1,by rw[s a aB];exact h2,h3,h4,aY.ac e ds _ fs (λb hb=>s b<|aq _ hb) h5,rfl]
 .rename_i ho;rw[aG ho];exact#[bA.ac e _ v h.1,h.2]
|.f o ks ds,v,fp,s,h=>by
 unfold bT at h ⊢;split at h
 .rename_i ho;rw[aH ho];let#[a,vs,fs,h1,h2,h3,h4,h5,rfl]:=h;exact#[a,vs,fs,h1,by rw[s a aB];exact h2,h3,h4,aY.ac e ds _ fs (λb hb=>s b<|aq _ hb) h5,rfl]
 .rename_i ho;rw[aG ho];exact#[bA.ac e _ v h.1,h.2]
|.i o C ks ds,v,fp,s,h=>by
 unfold bT at h ⊢;split at h
 .rename_i ho;rw[aH ho];let#[a,dx,vs,fs,h1,h2,h3,h4,h5,rfl]:=h;exact#[a,dx,vs,fs,h1,#[by rw[s a aB];exact h2.1,by rw[s dx<|aq _ aB];exact h2.2],h3,h4,aY.ac e ds _ fs (λb hb=>s b<|aq _<|aq _ hb) h5,rfl]
 .rename_i ho;rw[aG ho];exact#[bA.ac e _ v h.1,h.2]
theorem aY.ac(e:bx F F'):∀(ds:B D) (vs:B V) (fp:B Addr),(∀a∈fp,H' a=H a)->aY K H F ds vs fp->aY K H' F' ds vs fp
|[],vs,fp,_,h=>h
|d::ds,vs,fp,s,h=>by
 let#[v,r,f1,f2,h1,rfl,h3,h4]:=h;exact#[v,r,f1,f2,h1,rfl,bT.ac e d v f1 (λb hb=>s b<|cz _ hb) h3,aY.ac e ds r f2 (λb hb=>s b<|aR _ hb) h4]
end
mutual
theorem bT.ae(e:bx F F'):∀(d:D) (v:V) (fp:B Addr),(∀a∈fp,F' a=H a)->bT K H F d v fp->bA K F' d v
|.h,v,fp,_,h=>h.1
|.e b,v,fp,_,h=>h.1
|.b i,v,fp,_,h=>h.1
|.c x,v,fp,_,h=>h.1
|.a o ds,v,fp,s,h=>by
 unfold bT at h;split at h
 .let#[a,vs,fs,h1,h2,h3,h4,rfl]:=h;exact#[a,vs,h1,.inl (by rw[s a aB];exact h2),h3,aY.ae e ds vs fs (λb hb=>s b<|aq _ hb) h4]
 .exact bA.ac e _ v h.1
|.d ds,v,fp,s,h=>by
 let#[a,vs,h1,h2,h3,h4]:=h;exact#[a,vs,h1,e _ _ h2,h3,aY.ae e ds vs fp s h4]
|.g o ks ds,v,fp,s,h=>by
 unfold bT at h;split at h
 .let#[a,vs,fs,h1,h2,h3,h4,h5,rfl]:=h;exact#[a,vs,h1,by rw[s a aB];exact h2,h3,h4,aY.ae e ds _ fs (λb hb=>s b<|aq _ hb) h5]
 .exact bA.ac e _ v h.1
|.f o ks ds,v,fp,s,h=>by
 unfold bT at h;split at h
 .let#[a,vs,fs,h1,h2,h3,h4,h5,rfl]:=h;exact#[a,vs,h1,by rw[s a aB];exact h2,h3,h4,aY.ae e ds _ fs (λb hb=>s b<|aq _ hb) h5]
 .exact bA.ac e _ v h.1
|.i o C ks ds,v,fp,s,h=>by
 unfold bT at h;split at h
 .let#[a,dx,vs,fs,h1,h2,h3,h4,h5,rfl]:=h;exact#[a,dx,vs,h1,#[by rw[s a aB];exact h2.1,by rw[s dx<|aq _ aB];exact h2.2],h3,h4,aY.ae e ds _ fs (λb hb=>s b<|aq _<|aq _ hb) h5]
 .exact bA.ac e _ v h.1
theorem aY.ae(e:bx F F'):∀(ds:B D) (vs:B V) (fp:B Addr),(∀a∈fp,F' a=H a)->aY K H F ds vs fp->aT K F' ds vs
|[],vs,fp,_,h=>h.1
|d::ds,vs,fp,s,h=>by
 let#[v,r,f1,f2,h1,rfl,h3,h4]:=h;exact#[v,r,h1,bT.ae e d v f1 (λb hb=>s b<|cz _ hb) h3,aY.ae e ds r f2 (λb hb=>s b<|aR _ hb) h4]
end
def M3:HO->Prop
|.a _=>True
|.e _=>True
|.c _=>True
|.g _ _ _=>True
|.d _=>True
|_=>bu
def M4(F' F:Hp):Prop:=∀b o,F' b=M o->F b=M o\/M3 o
def M4.am{a:Addr}{xs:B V}(e:M4 F' F)(h:F' a=M (.b xs)):F a=M (.b xs):=by
 rcases e a _ h with z|z
 .exact z
 .exact z.elim
mutual
theorem bT.am(e:M4 F' F):∀(d:D) (v:V) (fp:B Addr),aX d=L->bT K H F' d v fp->bT K H F d v fp
|.h,v,fp,_,h=>h
|.e b,v,fp,_,h=>h
|.b i,v,fp,_,h=>h
|.c x,v,fp,_,h=>h
|.a o ds,v,fp,s,h=>by
 have s':o=L/\bq ds=L:=by simpa[aX]using s
 unfold bT at h ⊢;rw[aH s'.1]at h ⊢;let#[a,vs,fs,h1,h2,h3,h4,rfl]:=h;exact#[a,vs,fs,h1,h2,h3,aY.am e ds vs fs s'.2 h4,rfl]
|.d ds,v,fp,s,h=>by
 let#[a,vs,h1,h2,h3,h4]:=h;exact#[a,vs,h1,e.am h2,h3,aY.am e ds vs fp s h4]
|.g o ks ds,v,fp,s,h=>by
 have s':o=L/\bq ds=L:=by simpa[aX]using s
 unfold bT at h ⊢;rw[aH s'.1]at h ⊢;let#[a,vs,fs,h1,h2,h3,h4,h5,rfl]:=h;exact#[a,vs,fs,h1,h2,h3,h4,aY.am e ds _ fs s'.2 h5,rfl]
|.f o ks ds,v,fp,s,h=>by
 have s':o=L/\bq ds=L:=by simpa[aX]using s
 unfold bT at h ⊢;rw[aH s'.1]at h ⊢;let#[a,vs,fs,h1,h2,h3,h4,h5,rfl]:=h;exact#[a,vs,fs,h1,h2,h3,h4,aY.am e ds _ fs s'.2 h5,rfl]
|.i o C ks ds,v,fp,s,h=>by
 have s':o=L/\bq ds=L:=by simpa[aX]using s
 unfold bT at h ⊢;rw[aH s'.1]at h ⊢;let#[a,dx,vs,fs,h1,h2,h3,h4,h5,rfl]:=h;exact#[a,dx,vs,fs,h1,h2,h3,h4,aY.am e ds _ fs s'.2 h5,rfl]
theorem aY.am(e:M4 F' F):∀(ds:B D) (vs:B V) (fp:B Addr),bq ds=L->aY K H F' ds vs fp->aY K H F ds vs fp
|[],vs,fp,_,h=>h
|d::ds,vs,fp,s,h=>by
 have s':aX d=L/\bq ds=L:=by simpa[bq]using s
 let#[v,r,f1,f2,h1,rfl,h3,h4]:=h;exact#[v,r,f1,f2,h1,rfl,bT.am e d v f1 s'.1 h3,aY.am e ds r f2 s'.2 h4]
end
theorem aT.len:∀{ds:B D}{vs:B V},aT K H ds vs->zl vs=zl ds
|[],_,h=>by cases h;rfl
|d::ds,_,h=>by
 let#[v,r,rfl,_,h3]:=h;simp[aT.len h3]
theorem aY.len:∀{ds:B D}{vs:B V}{fp:B Addr},aY K H F ds vs fp->zl vs=zl ds
|[],_,_,h=>by cases h.1;rfl
|d::ds,_,_,h=>by
 let#[v,r,_,_,rfl,_,_,h3]:=h;simp[aY.len h3]
theorem aT.get:∀{ds:B D}{vs:B V} (i:Nat) {d:D},aT K H ds vs->ds[i]?=M d->∃v,vs[i]?=M v/\bA K H d v
|[],_,i,_,_,e=>by simp at e
|d::ds,_,0,_,h,e=>by
 let#[v,r,rfl,h2,_]:=h;simp at e;subst e;exact#[v,rfl,h2]
|d::ds,_,i+1,_,h,e=>by
 let#[v,r,rfl,_,h3]:=h;let#[w,e1,e2]:=aT.get i h3 (by simpa using e);exact#[w,by simpa using e1,e2]
theorem aT.ad:∀{ds ds':B D}{vs vs':B V},aT K H ds vs->aT K H ds' vs'->aT K H (ds++ds') (vs++vs')
|[],_,_,_,h,h'=>by cases h;exact h'
|d::ds,_,_,_,h,h'=>by
 let#[v,r,rfl,h2,h3]:=h;exact#[v,_,rfl,h2,aT.ad h3 h']
theorem aY.ad:∀{ds ds':B D}{vs vs':B V}{f f':B Addr},aY K H F ds vs f->aY K H F ds' vs' f'->aY K H F (ds++ds') (vs++vs') (f++f')
|[],_,_,_,_,_,h,h'=>by let#[rfl,rfl]:=h;exact h'
|d::ds,_,_,_,_,_,h,h'=>by
 let#[v,r,f1,f2,rfl,rfl,h2,h3]:=h;exact#[v,_,f1,_,rfl,by simp,h2,aY.ad h3 h']
def aY.one(h:bT K H F d v fp):aY K H F [d] [v] fp:=#[v,[],fp,[],rfl,by simp,h,rfl,rfl]
end
inductive R (α:Type) where
|c (a:α)|d
noncomputable def R.bind{α β:Type}:R α->(α->R β)->R β
|.c a,f=>f a
|.d,_=>.d
noncomputable def R.ab{α:Type}:LD α->R α
|some a=>.c a
|none=>.d
noncomputable def R.uS{α:Type}:R α->R α
|.c a=>.c a
|_=>.d
noncomputable def R.cA{α:Type}(b:Bool)(r:R α):R α:=match b with
|true=>r
|false=>.d
instance (i j:J):Ld (nF i j):=by unfold nF;infer_instance
instance (i j:J):Ld (vU i j):=by unfold vU;infer_instance
instance (i j:J):Ld (xq i j):=by unfold xq;infer_instance
noncomputable def k_:D->LD Key
|.b i=>M<|.inl i
|.c x=>M<|.inr x
|_=>S
def rG:B D->LD (B Key)
|[]=>M []
|d::r=>(k_ d).bind λk=>(rG r).map (k::·)
def iD:D->LD (B Key)
|.d xs=>rG xs
|_=>S
noncomputable def iR:Key->D
|.inl i=>.b i
|.inr x=>.c x
noncomputable def gq{κ:Type}[fE κ]:B κ->B D->κ->LD D
|k::ks,d::ds,q=>if k=q then M d else gq ks ds q
|_,_,_=>S
noncomputable def gw{κ:Type}[fE κ](ks:B κ)(q:κ):Bool:=ks.any λk=>decide<|k=q
noncomputable def jA{κ:Type}[fE κ]:B κ->B D->κ->D->B D
|k::ks,d::ds,q,x=>(if k=q then x else d)::jA ks ds q x
|_,_,_,_=>[]
noncomputable def zT(z:Str)(n:Nat):Str:=⟨(aL n z.cps.toList).flatten.toArray⟩
noncomputable def d7:D->Bool
|.h=>L
|_=>W
noncomputable def rH:D->Bool
|.e _=>L
|_=>W
noncomputable def vf:D->Bool
|.e L=>L
|_=>W
noncomputable def GV:B D->LD (B Str)
|[]=>M []
|.c x::r=>(GV r).map (x::·)
|_::_=>S
noncomputable def mH:B D->LD (B J)
|[]=>M []
|.b x::r=>(mH r).map (x::·)
|_::_=>S
def tB'(m:Mt)(xs:B D)(k:J):R D:=match m with
|.c=>(R.ab<|mH xs).bind λns=>.cA (decide<|k∈ns)<|.c<|.b<|ns.idxOf k
|_=>.d
def lq(op:A8)(x y:D):R D:=match x,y with
|.b i,.b j=>match op with
 |.Add=>.c<|.b<|i+j
 |.Sub=>.c<|.b<|i-j
 |.Mult=>.cA (decide<|nF i j)<|.c<|.b<|i*j
 |.FloorDiv=>.cA (decide<|vU i j)<|.c<|.b<|i / j
 |.Mod=>.cA (decide<|0<j)<|.c<|.b<|i%j
 |.Pow=>.cA (decide<|xq i j)<|.c<|.b<|i ^ j.toNat
 |_=>.d
|.c i,.c j=>match op with
 |.Add=>.cA (decide<|i.length+j.length<=aj)<|.c<|.c<|i++j
 |_=>.d
|.c i,.b j=>match op with
 |.Mult=>.cA (decide<|0<=j/\j<2 ^ 40/\i.length*j.toNat<=aj)<|.c<|.c<|zT i j.toNat
 |_=>.d
|.a _ xs,.a _ ys=>match op with
 |.Add=>.cA (decide<|xs.length+ys.length<=aj)<|.c<|.a L<|aD xs++aD ys
 |_=>.d
|.d xs,.d ys=>match op with
 |.Add=>.cA (!xs.isEmpty&&!ys.isEmpty&&decide (xs.length+ys.length<=aj))<|.c<|.d<|aD xs++aD ys
 |_=>.d
|.a _ xs,.b k=>match op with
 |.Mult=>.cA (decide<|(-(2 ^ 63)<=k/\k<2 ^ 63)/\xs.length*k.toNat<=aj)<|.c<|.a L (aL k.toNat<|aD xs).flatten
 |_=>.d
|_,_=>.d
noncomputable def Y5(op:Ea)(x y:D):R D:=match x,y with
|.b i,.b j=>match op with
 |.Lt=>.c<|.e<|decide<|i<j
 |.LtE=>.c<|.e<|decide<|i<=j
 |.Gt=>.c<|.e<|decide<|j<i
 |_=>.d
|_,_=>.d
def inD(x y:D):R Bool:=match y with
|.a _ ys=>.cA (dS x&&jw ys)<|.c<|acM x ys
|.d ys=>.cA (dS x&&jw ys)<|.c<|acM x ys
|.g _ ks _=>match k_ x with
 |some k=>.c<|gw ks k
 |none=>.d
|.f _ ks _=>match iD x with
 |some k=>.c<|gw ks k
 |none=>.d
|_=>.d
def dO(op:Ea)(x y:D):R D:=match op with
|.Eq=>.cA (dS x&&dS y)<|.c<|.e<|gJ x y
|.NotEq=>.cA (dS x&&dS y)<|.c<|.e<|!gJ x y
|.Is=>.cA (d7 y)<|.c<|.e<|d7 x
|.IsNot=>.cA (d7 y)<|.c<|.e<|!d7 x
|.In=>(inD x y).bind λb=>.c<|.e b
|.NotIn=>(inD x y).bind λb=>.c<|.e<|!b
|op=>Y5 op x y
noncomputable def lu:D->R Bool
|.e b=>.c b
|_=>.d
def g_(x y:D):R D:=match x with
|.c z=>match y with
 |.b i=>(R.ab<|bL z.cps.toList i).bind λc=>.c<|.c ⟨#[c]⟩
 |_=>.d
|.a _ xs=>match y with
 |.b i=>(R.ab<|bL xs i).bind λd=>.c<|br d
 |_=>.d
|.d xs=>match y with
 |.b i=>(R.ab<|bL xs i).bind λd=>.c<|br d
 |_=>.d
|.g _ ks xs=>match k_ y with
 |some k=>(R.ab<|gq ks xs k).bind λd=>.c<|br d
 |none=>.d
|.f _ ks xs=>match iD y with
 |some k=>(R.ab<|gq ks xs k).bind λd=>.c<|br d
 |none=>.d
|_=>.d
def J7(x:D)(lo hi:LD J):R D:=match x with
|.c z=>.c<|.c ⟨(cut z.cps.toList lo hi).toArray⟩
|.a _ xs=>.c<|.a L<|aD<|cut xs lo hi
|.d xs=>match lo,hi with
 |some n,S=>.cA (decide<|1<=n/\n<=zl xs)<|.c<|.d<|aD<|xs.drop n.toNat
 |_,_=>.d
|_=>.d
def TJ:D->LD (Key×D)
|.d [k,v]=>(k_ k).map λq=>(q,v)
|_=>S
def o8:B D->LD (B<|Key×D)
|[]=>M []
|x::r=>(TJ x).bind λp=>(o8 r).map (p::·)
def DO:D->LD (B Key×D)
|.d [k,v]=>(iD k).map λq=>(q,v)
|_=>S
def qR:B D->LD (B<|B Key×D)
|[]=>M []
|x::r=>(DO x).bind λp=>(qR r).map (p::·)
def fW{κ:Type}[fE κ]:B κ->B D->B (κ×D)->B κ×B D
|ks,xs,[]=>(ks,xs)
|ks,xs,p::r=>if gw ks p.1=L then fW ks (jA ks xs p.1 p.2) r else fW (ks++[p.1]) (xs++[p.2]) r
def DR:B D->LD (B<|B Key)
|[]=>M []
|d::r=>(iD d).bind λk=>(DR r).map (k::·)
def AN(xs:B D):LD (B<|B Key):=match GV xs with
|some ss=>M<|ss.map λx=>[.inr x]
|none=>match mH xs with
 |some ns=>M<|ns.map λx=>[.inl x]
 |none=>DR xs
def LM(kss:B<|B Key)(xs:B D):B D:=(dX kss).map λi=>(aD xs).getD i .h
def p8(ks:B<|B Key):B D:=(dX ks).map λi=>D.d<|(ks.getD i []).map iR
def h_(f:Bf)(vs:B D):R D:=match vs with
|[x]=>match f with
 |.a=>match x with
  |.c z=>.c<|.b z.length
  |.a _ xs=>.c<|.b xs.length
  |.d xs=>.c<|.b xs.length
  |_=>.d
 |.e=>match x with
  |.a _ xs=>.cA (xs.all rH)<|.c<|.e<|xs.all vf
  |_=>.d
 |.c=>match x with
  |.a _ xs=>.cA (xs.all rH)<|.c<|.e<|xs.any vf
  |_=>.d
 |.l=>match x with
  |.e b=>.c (.b (if b then 1 else 0))
  |_=>.d
 |.g=>match x with
  |.a _ xs=>.c<|.a L<|aD xs
  |_=>.d
 |.k=>match x with
  |.a _ xs=>.c<|.d<|aD xs
  |_=>.d
 |.b=>match x with
  |.a _ xs=>(R.ab<|o8 xs).bind λps=>.cA (decide (ps.map (·.1)).Nodup) (.c (.g L (ps.map (·.1)) (aD (ps.map (·.2)))))
  |_=>.d
 |.j=>match x with
  |.a _ xs=>(R.ab<|qR xs).bind λps=>.c<|.f L (fW [] [] ps).1<|aD (fW [] [] ps).2
  |_=>.d
 |.d=>match x with
  |.f _ ks _=>.cA (abb ks)<|.c<|.a L<|p8 ks
  |.a _ xs=>(R.ab<|AN xs).bind λkss=>.cA (abb kss)<|.c<|.a L<|LM kss xs
  |_=>.d
 |_=>.d
|[x,y]=>match x,y with
 |.b i,.b j=>match f with
  |.i=>.c (.b (if j>i then j else i))
  |.h=>.c (.b (if j<i then j else i))
  |_=>.d
 |_,_=>.d
|_=>.d
def uU(m:Mt)(x:D)(vs:B D):R D:=match x with
|.a _ xs=>match vs with
 |[y]=>match y with
  |.b k=>tB' m xs k
  |_=>.d
 |_=>.d
|.g _ ks xs=>match vs with
 |[k]=>match m with
  |.b=>match k_ k with
   |some k'=>.c<|br<|(gq ks xs k').getD .h
   |none=>.d
  |_=>.d
 |[k,y]=>match m with
  |.b=>match k_ k with
   |some k'=>.c<|br<|(gq ks xs k').getD y
   |none=>.d
  |_=>.d
 |_=>.d
|_=>.d
abbrev bw:=B<|LD D
inductive PG where
|e (d:D)
|a (m:B D->R D) (RW:B D)
|b (C:Addr) (as:B Str)
|g (m:B D->R D)
|d (m:B D->R D)
|c
|f
inductive Fl where
|a (O:bw)|c (d:D)|e (O:bw)|d (O:bw)|b
noncomputable def R.bH{α:Type}:R α->(α->Fl)->Fl
|.c a,f=>f a
|.d,_=>.b
noncomputable def R.tQ{α:Type}(b:Bool):R α->(α->Fl)->Fl
|.c a,f=>f a
|.d,_=>.b
noncomputable def Cf:V->R D
|.d=>.c .h
|.c b=>.c<|.e b
|.b i=>.c<|.b i
|.e x=>.c<|.c x
|_=>.d
noncomputable def GW(z:Str):B D:=z.cps.toList.map λc=>D.c ⟨#[c]⟩
noncomputable def fX(lo:J)(n:Nat):B D:=(bW n).map λ(i:Nat)=>D.b<|lo+(i:J)
def IT:B D->R D
|[.b i,.b j]=>.cA (decide<|-(2 ^ 62)<=i/\i<2 ^ 62/\-(2 ^ 62)<=j/\j<2 ^ 62/\(j-i).toNat<=2 ^ 24)<|.c<|.d<|fX i (j-i).toNat
|_=>.d
noncomputable def AO:B Key->B D->LD (B<|Str×J)
|[],[]=>M []
|.inr x::ks,.b i::xs=>(AO ks xs).map ((x,i)::·)
|_,_=>S
def M5:D->R D
|.g _ ks xs=>(R.ab<|AO ks xs).bind λps=>.cA (decide<|zl ps<64)<|.c<|.a L<|p8<|mW ps
|_=>.d
def M6:D->R D
|.a _ xs=>.c<|.a L<|aD xs.reverse
|_=>.d
def IU(n:J)(ks:B<|B Key):B D:=(ks.filterMap<|tH n).map λk=>.d<|k.map iR
noncomputable def iW:Nat->B D->B D
|_,[]=>[]
|n,x::r=>.d [.b (n:J),x]::iW (n+1) r
def vY:D->R (B D)
|.c z=>.c<|GW z
|.a _ xs=>.c<|aD xs
|.d xs=>.c<|aD xs
|_=>.d
def FE:B D->R (B D)
|[.b j]=>.cA (decide<|-(2 ^ 62)<=j/\j.toNat<=aj)<|.c<|fX 0 j.toNat
|_=>.d
def yI(m:bw->R D)(cs:bw):Nat->Nat->R (B<|B Key)
|0,_=>.c []
|n+1,i=>(m (M (.b (i:J))::cs)).bind λd=>(R.ab<|iD d).bind λkk=>(yI m cs n<|i+1).bind λr=>.c (kk::r)
noncomputable def W7:D->LD Nat
|.b i=>if 0<=i/\i<64 then M i.toNat else S
|_=>S
def IV(Y:B PG)(g:Nat)(n:R D)(m:bw->R D)(cs:bw):R D:=match Y[g]? with
|some .c=>n.bind λd=>(R.ab<|W7 d).bind λk=>(yI m cs k 0).uS.bind λkss=>.cA (L2.abb kss)<|.c<|.a L<|(L2.dX kss).map λ(i:Nat)=>D.b (i:J)
|_=>.d
noncomputable def dK(g:D->bw->R bw)(c:bw->R Bool)(e:bw->R D):B D->bw->R (B D)
|[],_=>.c []
|d::r,O=>(g d O).bind fun σ2=>(c σ2).bind λb=>if b=L then(e σ2).bind λy=>(dK g c e r σ2).bind λys=>.c (y::ys)else dK g c e r σ2
noncomputable def QS(g:D->bw->R bw)(b:bw->Fl):B D->bw->Fl
|[],O=>.a O
|d::r,O=>(g d O).bH fun σ2=>match b σ2 with
 |.a σ3=>QS g b r σ3
 |.d σ3=>QS g b r σ3
 |.e σ3=>.a σ3
 |.c d=>.c d
 |.b=>.b
noncomputable def tR(c:bw->R Bool)(b:bw->Fl):Nat->bw->Fl
|0,_=>.b
|n+1,O=>(c O).bH λk=>if k=L then match b O with
 |.a σ3=>tR c b n σ3
 |.d σ3=>tR c b n σ3
 |.e σ3=>.a σ3
 |.c d=>.c d
 |.b=>.b
 else .a O
noncomputable def Rr:B Str->B D->Str->LD D
|k::ks,d::ds,f=>if f=k then M d else Rr ks ds f
|_,_,_=>S
def rW(Y:B PG)(g:Nat)(f:Str)(x:D):R D:=match Y[g]? with
|some (.b C as)=>match x with
 |.i _ C' ks xs=>.cA (decide (C'=C)&&decide (f∈as))<|(R.ab<|Rr ks xs f).bind λd=>.c<|br d
 |_=>.d
|_=>.d
def GX:D->R D
|.a _ ds=>match mH ds with
 |some ss=>.cA (decide<|zl ss<4000)<|.c<|.b<|zl<|wQ ss
 |none=>.d
|_=>.d
mutual
noncomputable def pE(Y:B PG):CE->bw->R D
|.a i=>λO=>match O[i]? with
 |some (M d)=>.c<|br d
 |_=>.d
|.c v=>λ_=>Cf v
|.g op a b=>λO=>(pE Y a O).bind λx=>(pE Y b O).bind λy=>lq op x y
|.y a=>λO=>(pE Y a O).bind λx=>GX x
|.p a=>λO=>(pE Y a O).bind λx=>match x with
 |.b i=>.c<|.b<|-i
 |_=>.d
|.q a=>λO=>(pE Y a O).bind λx=>(lu x).bind λb=>.c<|.e<|!b
|.k a b=>λO=>(pE Y a O).bind λx=>match x with
 |.e c=>if c=L then pE Y b O else .c (.e W)
 |_=>.d
|.n a b=>λO=>(pE Y a O).bind λx=>match x with
 |.e c=>if c=L then .c (.e L)else pE Y b O
 |_=>.d
|.r c a b=>λO=>(pT Y c O).bind λk=>if k=L then pE Y a O else pE Y b O
|.d op a b=>λO=>(pE Y a O).bind λx=>(pE Y b O).bind λy=>dO op x y
|.s o1 o2 a b c=>λO=>(pE Y a O).bind λx=>(pE Y b O).bind λy=>(dO o1 x y).bind λz=>match z with
 |.e k=>if k=L then(pE Y c O).bind λu=>dO o2 y u else .c (.e W)
 |_=>.d
|.e g as=>λO=>match Y[g]? with
 |some (.a m RW)=>(iE Y as O).bind λds=>m<|aD ds++RW
 |_=>.d
|.h f as=>λO=>(iE Y as O).bind λds=>h_ f ds
|.l m o as=>λO=>(pE Y o O).bind λx=>(iE Y as O).uS.bind λds=>uU m x ds
|.b a b=>λO=>(pE Y a O).bind λx=>(pE Y b O).bind λy=>g_ x y
|.m a lo hi=>λO=>(pE Y a O).bind λx=>(pO Y lo O).bind λl=>(pO Y hi O).bind λh=>J7 x l h
|.i as=>λO=>(iE Y as O).bind λds=>.cA (decide<|zl ds<=aj)<|.c<|.a L ds
|.f as=>λO=>(iE Y as O).bind λds=>.cA (decide<|zl ds<=aj)<|.c<|.d ds
|.z=>λ_=>.c<|.g L [] []
|.j nl fr elt tg src cond=>λO=>(pI Y src O).bind λitems=>(dK (pG tg) (pC Y cond) (pE Y elt) items.2<|nl.map (λ_=>S)++fr.map λi=>O.getD i S).uS.bind λds=>.c<|.a L ds
|.o g a f=>λO=>(pE Y a O).bind λx=>rW Y g f x
|.t=>λ_=>.c<|.f L [] []
|.w as=>λO=>(iE Y as O).bind λds=>IT ds
|.u a=>λO=>(pE Y a O).bind λx=>M5 x
|.v a=>λO=>(pE Y a O).bind λx=>M6 x
|.x g fr n body=>λO=>IV Y g (pE Y n O) (pE Y body)<|fr.map λi=>O.getD i S
noncomputable def pT(Y:B PG):CE->bw->R Bool
|.q a=>λO=>(pT Y a O).bind λb=>.c<|!b
|.k a b=>λO=>(pT Y a O).bind λc=>if c=L then pT Y b O else .c W
|.n a b=>λO=>(pT Y a O).bind λc=>if c=L then .c L else pT Y b O
|.r c a b=>λO=>(pT Y c O).bind λk=>if k=L then pT Y a O else pT Y b O
|.d op a b=>λO=>(pE Y a O).bind λx=>(pE Y b O).bind λy=>(dO op x y).bind λz=>match z with
 |.e k=>.c k
 |_=>.d
|.s o1 o2 a b c=>λO=>(pE Y a O).bind λx=>(pE Y b O).bind λy=>(dO o1 x y).bind λz=>match z with
 |.e k=>if k=L then(pE Y c O).bind λu=>(dO o2 y u).bind λz=>match z with
  |.e k=>.c k
  |_=>.d
  else .c W
 |_=>.d
|.a i=>λO=>match O[i]? with
 |some (M d)=>lu d
 |_=>.d
|.b a b=>λO=>((pE Y a O).bind λx=>(pE Y b O).bind λy=>g_ x y).bind lu
|.e g as=>λO=>match Y[g]? with
 |some (.a m RW)=>((iE Y as O).bind λds=>m<|aD ds++RW).bind lu
 |_=>.d
|.h f as=>λO=>((iE Y as O).bind λds=>h_ f ds).bind lu
|.l m o as=>λO=>(pE Y o O).bind λx=>(iE Y as O).uS.bind λds=>(uU m x ds).bind lu
|_=>λ_=>.d
noncomputable def iE(Y:B PG):mV->bw->R (B D)
|.nil=>λ_=>.c []
|.cons a r=>λO=>(pE Y a O).bind λx=>(iE Y r O).bind λxs=>.c (x::xs)
noncomputable def pO(Y:B PG):CO->bw->R (LD J)
|.none=>λ_=>.c S
|.some a=>λO=>(pE Y a O).bind λx=>match x with
 |.b i=>.c<|M i
 |_=>.d
noncomputable def pC(Y:B PG):CO->bw->R Bool
|.none=>λ_=>.c L
|.some a=>pT Y a
noncomputable def pG:CG->D->bw->R bw
|.a i=>λd O=>.c<|O.set i<|M d
|.b gs=>λd O=>match d with
 |.d ds=>.cA (decide<|zl ds=gs.len)<|Cg gs ds O
 |_=>.d
|.c _ _=>λ_ _=>.d
noncomputable def Cg:yE->B D->bw->R bw
|.nil=>λds O=>match ds with
 |[]=>.c O
 |_=>.d
|.cons g r=>λds O=>match ds with
 |d::dr=>(pG g d O).bind fun σ'=>Cg r dr σ'
 |_=>.d
noncomputable def pI(Y:B PG):CI->bw->R (Bool×B D)
|.a a=>λO=>(pE Y a O).bind λx=>(vY x).bind λds=>.c (aX x,ds)
|.b as=>λO=>(iE Y as O).bind λxs=>(FE xs).bind λds=>.c (L,ds)
|.c a=>λO=>(pE Y a O).bind λx=>match x with
 |.a _ xs=>.c (aX x,iW 0<|aD xs)
 |_=>.d
|.d a=>λO=>(pE Y a O).bind λx=>match x with
 |.a _ xs=>.c (aX x,(aD xs).reverse)
 |_=>.d
|.e _=>λ_=>.d
end
mutual
noncomputable def fc:CE->Bool
|.c v=>match v with
 |.e x=>decide<|x.length<=aj
 |_=>L
|.g _ a b=>fc a&&fc b
|.y a=>fc a
|.p a=>fc a
|.q a=>fc a
|.k a b=>fc a&&fc b
|.n a b=>fc a&&fc b
|.r c a b=>fc c&&(fc a&&fc b)
|.d _ a b=>fc a&&fc b
|.s _ _ a b c=>fc a&&(fc b&&fc c)
|.e _ as=>rX as
|.h _ as=>rX as
|.l _ o as=>fc o&&rX as
|.b a b=>fc a&&fc b
|.m a lo hi=>fc a&&(T5 lo&&T5 hi)
|.i as=>rX as
|.f as=>rX as
|.j _ _ elt _ src cond=>fc elt&&(ltI src&&T5 cond)
|.o _ a _=>fc a
|.t=>L
|.w as=>rX as
|.u a=>fc a
|.v a=>fc a
|.x _ _ n b=>fc n&&fc b
|_=>L
noncomputable def rX:mV->Bool
|.nil=>L
|.cons a r=>fc a&&rX r
noncomputable def T5:CO->Bool
|.none=>L
|.some a=>fc a
noncomputable def ltI:CI->Bool
|.a a=>fc a
|.b as=>rX as
|.c a=>fc a
|.d a=>fc a
|.e a=>fc a
end
noncomputable def zm:Bf->mV->Bool
|.a,#v[.a _]=>L
|_,_=>W
mutual
noncomputable def cO:CE->B Nat
|.a i=>[i]
|.c _=>[]
|.g _ a b=>cO a++cO b
|.y a=>cO a
|.p a=>cO a
|.q a=>cO a
|.k a b=>cO a++cO b
|.n a b=>cO a++cO b
|.r c a b=>cO c++(cO a++cO b)
|.d _ a b=>cO a++cO b
|.s _ _ a b c=>cO a++(cO b++cO c)
|.e _ as=>ly as
|.h f as=>if zm f as=L then[]else ly as
|.l _ o as=>cO o++ly as
|.b a b=>cO a++cO b
|.m a lo hi=>cO a++(J8 lo++J8 hi)
|.i as=>ly as
|.f as=>ly as
|.z=>[]
|.j _ fr _ _ src _=>yJ src++fr
|.o _ a _=>cO a
|.t=>[]
|.w as=>ly as
|.u a=>cO a
|.v a=>cO a
|.x _ fr n _=>cO n++fr
noncomputable def ly:mV->B Nat
|.nil=>[]
|.cons a r=>cO a++ly r
noncomputable def J8:CO->B Nat
|.none=>[]
|.some a=>cO a
noncomputable def yJ:CI->B Nat
|.a a=>cO a
|.b as=>ly as
|.c a=>cO a
|.d a=>cO a
|.e a=>cO a
end
def NT:LD HO->Prop
|none=>True
|some (.b _)=>True
|_=>bu
def NT.of(h:o=S):NT o:=by rw[h];trivial
def NT.own(h:NT o)(e:o=M u)(k:M3 u):bu:=by
 subst e;cases u<;>first|exact h.elim|exact k.elim
structure cH (F H F' H':Hp):Prop where
 h:bx H H'
 f:bx F F'
 s:bx F' H'
 n:∀b o,F' b=M o->F b=S->NT (H b)
structure ju (fp:B Addr) (H F':Hp):Prop where
 nd:fp.Nodup
 nh:∀a∈fp,H a=S
 nf:∀a∈fp,F' a=S
section
variable{K:ao}{H H1 H2 F F1 F2:Hp}
def cH.refl(s:bx F H):cH F H F H:=#[bx.refl _,bx.refl _,s,λb o h h'=>by rw[h]at h';cases h']
def bx.none(e:bx H H1)(h:H1 a=S):H a=S:=by
 cases q:H a with
 |none=>rfl
 |some o=>rw[e a o q]at h;cases h
def NT.ac(e:bx H H1)(h:NT<|H1 a):NT (H a):=by
 cases q:H a with
 |none=>trivial
 |some o=>rw[e a o q]at h;exact h
def cH.trans(g:cH F H F1 H1)(g':cH F1 H1 F2 H2):cH F H F2 H2:=#[g.h.trans g'.h,g.f.trans g'.f,g'.s,λb o h h'=>by
 cases q:F1 b with
 |none=>exact NT.ac g.h<|g'.n b o h q
 |some u=>exact g.n b u q h']
def ju.nil:ju [] H F:=#[gZ,λ_ h=>aI h aF,λ_ h=>aI h aF]
mutual
theorem bT.ex:∀(d:D) (v:V) (fp:B Addr),bT K H F d v fp->∀a∈fp,∃o,H a=M o/\M3 o
|.h,v,fp,h=>by rw[h.2];intro a ha;cases ha
|.e b,v,fp,h=>by rw[h.2];intro a ha;cases ha
|.b i,v,fp,h=>by rw[h.2];intro a ha;cases ha
|.c x,v,fp,h=>by rw[h.2];intro a ha;cases ha
|.a o ds,v,fp,h=>by
 unfold bT at h;split at h
 .let#[a,vs,fs,h1,h2,h3,h4,rfl]:=h;intro b hb;rcases aO.mp hb with rfl|hb
  .exact#[_,h2,trivial]
  .exact aY.ex ds vs fs h4 b hb
 .rw[h.2];intro a ha;cases ha
|.d ds,v,fp,h=>by
 let#[a,vs,h1,h2,h3,h4]:=h;exact aY.ex ds vs fp h4
|.g o ks ds,v,fp,h=>by
 unfold bT at h;split at h
 .let#[a,vs,fs,h1,h2,h3,h4,h5,rfl]:=h;intro b hb;rcases aO.mp hb with rfl|hb
  .exact#[_,h2,trivial]
  .exact aY.ex ds _ fs h5 b hb
 .rw[h.2];intro a ha;cases ha
|.f o ks ds,v,fp,h=>by
 unfold bT at h;split at h
 .let#[a,vs,fs,h1,h2,h3,h4,h5,rfl]:=h;intro b hb;rcases aO.mp hb with rfl|hb
  .exact#[_,h2,trivial]
  .exact aY.ex ds _ fs h5 b hb
 .rw[h.2];intro a ha;cases ha
|.i o C ks ds,v,fp,h=>by
 unfold bT at h;split at h
 .let#[a,dx,vs,fs,h1,h2,h3,h4,h5,rfl]:=h;intro b hb;rcases aO.mp hb with rfl|hb
  .exact#[_,h2.1,trivial]
  .rcases aO.mp hb with rfl|hb
   .exact#[_,h2.2,trivial]
   .exact aY.ex ds _ fs h5 b hb
 .rw[h.2];intro a ha;cases ha
theorem aY.ex:∀(ds:B D) (vs:B V) (fp:B Addr),aY K H F ds vs fp->∀a∈fp,∃o,H a=M o/\M3 o
|[],vs,fp,h=>by rw[h.2];intro a ha;cases ha
|d::ds,vs,fp,h=>by
 let#[v,r,f1,f2,h1,rfl,h3,h4]:=h;intro a ha;rcases bh.mp ha with ha|ha
 .exact bT.ex d v f1 h3 a ha
 .exact aY.ex ds r f2 h4 a ha
end
noncomputable def RQ(F H:Hp)(fp:B Addr):Hp:=λb=>if b∈fp then H b else F b
def nH(h:a∈fp):RQ F H fp a=H a:=aH h
def lO(h:a∉fp):RQ F H fp a=F a:=aG h
def gk(s:bx F H):bx F (RQ F H fp):=λb o h=>by
 by_cases q:b∈fp
 .rw[nH q];exact s b o h
 .rw[lO q];exact h
def ku(s:bx F H):bx (RQ F H fp) H:=λb o h=>by
 by_cases q:b∈fp
 .rw[nH q]at h;exact h
 .rw[lO q]at h;exact s b o h
def AQ(g:cH F H F1 H1)(n:∀a∈fp,H a=S):cH F H (RQ F1 H1 fp) H1:=#[g.h,g.f.trans<|gk g.s,ku g.s,λb o h h'=>by
 by_cases q:b∈fp
 .exact .of (n b q)
 .rw[lO q]at h;exact g.n b o h h']
def W8(g:cH F H F1 H1)(fr:ju fp H F1)(r:bT K H1 F1 d v fp):∃F2,cH F H F2 H1/\bx F1 F2/\bA K F2 d v:=
 #[RQ F1 H1 fp,AQ g fr.nh,gk g.s,bT.ae (gk g.s) d v fp (λ_ ha=>nH ha) r]
def Rt(g:cH F H F1 H1)(fr:ju fp H F1)(r:aY K H1 F1 ds vs fp):∃F2,cH F H F2 H1/\bx F1 F2/\aT K F2 ds vs:=
 #[RQ F1 H1 fp,AQ g fr.nh,gk g.s,aY.ae (gk g.s) ds vs fp (λ_ ha=>nH ha) r]
def agv(g:cH F1 H1 F2 H2)(fr:ju fp H F1)(r:bT K H1 F1 d v fp):bT K H2 F2 d v fp/\(∀a∈fp,F2 a=S):=by
 refine#[bT.ac g.f d v fp (λa ha=>?_) r,λa ha=>?_]
 .let#[o,e,_]:=bT.ex d v fp r a ha;rw[e,g.h a o e]
 .let#[o,e,k]:=bT.ex d v fp r a ha;cases q:F2 a with
  |none=>rfl
  |some u=>exact((g.n a u q<|fr.nf a ha).own e k).elim
def adX(g:cH F1 H1 F2 H2)(fr:ju fp H F1)(r:aY K H1 F1 ds vs fp):aY K H2 F2 ds vs fp/\(∀a∈fp,F2 a=S):=by
 refine#[aY.ac g.f ds vs fp (λa ha=>?_) r,λa ha=>?_]
 .let#[o,e,_]:=aY.ex ds vs fp r a ha;rw[e,g.h a o e]
 .let#[o,e,k]:=aY.ex ds vs fp r a ha;cases q:F2 a with
  |none=>rfl
  |some u=>exact((g.n a u q<|fr.nf a ha).own e k).elim
def ju.ad(s:bx H H1)(a1:ju f1 H F1)(e1:∀a∈f1,∃o,H1 a=M o)(k1:∀a∈f1,F2 a=S)(a2:ju f2 H1 F2):ju (f1++f2) H F2:=by
 refine#[cL.mpr #[a1.nd,a2.nd,λa h1 b h2 z=>?_],λa ha=>?_,λa ha=>?_]
 .subst z;let#[o,e]:=e1 a h1;rw[a2.nh a h2]at e;cases e
 .rcases bh.mp ha with h|h
  .exact a1.nh a h
  .exact bx.none s (a2.nh a h)
 .rcases bh.mp ha with h|h
  .exact k1 a h
  .exact a2.nf a h
def newList{vs:B V}(s:bx F H)(hp:H p=S):cH F H F (upd H p o)/\F p=S:=by
 have hf:=bx.none s hp;refine#[#[λb u q=>by rw[bg<|cj q hp];exact q,bx.refl _,λb u q=>by rw[bg<|cj q hf];exact s b u q,λb o h h'=>by rw[h]at h';cases h'],hf]
def GY(s:bx F H)(hp:H p=S):cH F H (upd F p o) (upd H p o):=by
 have hf:=bx.none s hp;refine#[λb u q=>by rw[bg<|cj q hp];exact q,λb u q=>by rw[bg<|cj q hf];exact q,λb u q=>?_,λb u q q'=>?_]
 .by_cases e:b=p
  .subst e;rw[bZ]at q ⊢;exact q
  .rw[bg e]at q ⊢;exact s b u q
 .by_cases e:b=p
  .subst e;exact .of hp
  .rw[bg e]at q;rw[q]at q';cases q'
end
class Ex where
 E:XK
def PV[Ex](K:ao)(F H:Hp)(r:R D)(Q:VK):Prop:=match r with
|.c d=>∀F' H' v fp,cH F H F' H'->ju fp H F'->bT K H' F' d v fp->Q v H'
|.d=>bu
def Bp[Ex](K:ao)(F H:Hp)(r:R<|B D)(Q:B V->Hp->Prop):Prop:=match r with
|.c ds=>∀F' H' vs fp,cH F H F' H'->ju fp H F'->aY K H' F' ds vs fp->Q vs H'
|.d=>bu
def PB[Ex]{α:Type}(K:ao)(F H:Hp)(r:R α)(Q:α->Hp->Prop):Prop:=match r with
|.c b=>∀F' H',cH F H F' H'->Q b H'
|.d=>bu
def VU(K:ao)(F:Hp)(d:D):R6->Prop
|.v x=>bA K F d x
|.a xs=>∃ds,d=.d ds/\aT K F ds xs/\zl xs<=aj
def lA(K:ao)(F:Hp):B D->B R6->Prop
|[],its=>its=[]
|d::ds,its=>∃it r,its=it::r/\VU K F d it/\lA K F ds r
noncomputable def Sf(F:Hp)(A:B Addr):Hp:=λb=>if b∈A then S else F b
def wV(own:Bool)(F:Hp)(A:B Addr):Hp:=if own=L then Sf F A else F
def S_[Ex](K:ao)(A:B Addr)(F H:Hp)(r:R<|Bool×B D)(k:(Hp->Prop)->B R6->Hp->Prop):Prop:=match r with
|.c ds=>∀F' H' ok its,cH F H F' H'->(∀Rk,bx (wV ds.1 F' A) Rk->ok Rk)->lA K (wV ds.1 F' A) ds.2 its->zl ds.2<=aj->k ok its H'
|.d=>bu
def W9(K:ao)(H:Hp)(U:bw)(O:L2.St):Prop:=∀(k:Nat) d,U[k]?=M (M d)->∃v F',O[k]?=M (M v)/\bx F' H/\bA K F' d v
structure lB (K:ao) (F H:Hp) (is:B Nat) (U:bw) (O:L2.St):Prop where
 e:∀i∈is,∀d,U[i]?=M (M d)->∃v,O[i]?=M (M v)/\bA K F d v
 n:W9 K H U O
def zU(K:ao)(m:B D->R D):Sp:=λvs H Q E=>∃F ds,bx F H/\aD ds=ds/\aT K F ds vs/\@PV ⟨E⟩ K F H (m ds) Q
def W_(K:ao):PG->G->Prop
|.e d,.d v=>bA K (λ_=>S) d v
|.e d,.e a _=>bA K (λ_=>S) d<|.a a
|.a m RW,.a sp QL=>(∀vs H Q E,zU K m vs H Q E->sp vs H Q E)/\aD RW=RW/\aT K (λ_=>S) RW QL
|.b C as,.c C' as'=>C=C'/\as=as'
|.g m,.f sp=>∀vs H Q E,zU K m vs H Q E->sp vs H Q E
|.d _,.a _ _=>True
|.c,.b _=>True
|.f,.g=>True
|_,_=>bu
def gC(K:ao):B PG->B G->Prop
|p::ps,gs=>∃g r,gs=g::r/\W_ K p g/\gC K ps r
|[],_=>True
theorem gC.get:∀{ps:B PG}{gs:B G} (i:Nat) {p:PG},gC K ps gs->ps[i]?=M p->∃g,gs[i]?=M g/\W_ K p g
|[],_,i,_,_,e=>by simp at e
|p::ps,_,0,_,h,e=>by
 let#[g,r,rfl,h2,_]:=h;simp at e;subst e;exact#[g,rfl,h2]
|p::ps,_,i+1,_,h,e=>by
 let#[g,r,rfl,_,h3]:=h;let#[w,e1,e2]:=gC.get i h3 (by simpa using e);exact#[w,by simpa using e1,e2]
def Ru(K:ao)(Q2:B PG)(Y:B G)(H0:Hp):Prop:=∀(g:Nat) (m:B D->R D),Q2[g]?=M (.d m)->∃(e:Addr) (q8:Sp) (C:Addr) (od:LD Addr),Y[g]?=M (.a (isNo e q8) [])/\H0 e=M (W3 W e C od)/\∀vs H Q E,zU K m vs H Q E->q8 vs H Q E
def jH(h:b∉A):Sf F A b=F b:=aG h
def FF(h:b∈A):Sf F A b=S:=aH h
theorem J9(F:Hp):Sf F []=F:=by rfl
def adq(o:Bool)(F:Hp):wV o F []=F:=by unfold wV;rw[J9];split<;>rfl
def o9(F:Hp)(A:B Addr):bx (Sf F A) F:=λb o h=>by
 by_cases q:b∈A
 .rw[FF q]at h;cases h
 .rw[jH q]at h;exact h
def Ci(o:Bool)(F:Hp)(A:B Addr):bx (wV o F A) F:=by
 unfold wV;split
 .exact o9 F A
 .exact bx.refl F
def sG(H:Hp)(A:B Addr):Prop:=∀a∈A,∃o,H a=M o/\M3 o
def tT(s:bx F H)(h:sG H A):M4 F (Sf F A):=λb o q=>by
 by_cases z:b∈A
 .let#[u,e,k]:=h b z;rw[s b o q]at e;cases e;exact .inr k
 .exact .inl (by rw[jH z];exact q)
def sG.ac(s:bx H H')(h:sG H A):sG H' A:=λa ha=>by
 let#[o,e,k]:=h a ha;exact#[o,s a o e,k]
def Xa(hA:sG H A)(g:cH F H F1 H1)(fr:ju fp H F1)(r:bT K H1 F1 d v fp):∃F2,cH F H F2 H1/\bA K (wV (aX d) F2 A) d v:=by
 have g2:=AQ g fr.nh;refine#[RQ F1 H1 fp,g2,?_];unfold wV;by_cases ho:aX d=L
 .rw[aH ho];have r2:=bT.am (tT g.s<|hA.ac g.h) d v fp ho r;refine bT.ae ?_ d v fp ?_ r2
  .intro b o q;by_cases z:b∈A
   .rw[FF z]at q;cases q
   .rw[jH z]at q ⊢;exact gk g.s b o q
  .intro a ha;have z:a∉A:=λz=>by
    let#[o,e,_]:=hA a z;rw[fr.nh a ha]at e;cases e
   rw[jH z,nH ha]
 .rw[aG ho];exact bT.ae (gk g.s) d v fp (λ_ ha=>nH ha) r
section
variable{K:ao}{H H1 F F1:Hp}{U:bw}{O:L2.St}
def lB.l(h:lB K F H (a++b) U O):lB K F H a U O:=#[λi hi=>h.e i<|cz _ hi,h.n]
def lB.r(h:lB K F H (a++b) U O):lB K F H b U O:=#[λi hi=>h.e i<|aR _ hi,h.n]
def lB.ac(h:lB K F H a U O)(g:cH F H F1 H1):lB K F1 H1 a U O:=#[λi hi d hd=>by
 let#[v,h1,h2]:=h.e i hi d hd;exact#[v,h1,bA.ac g.f d v h2],λk d e=>by
 let#[v,F',h1,h2,h3]:=h.n k d e;exact#[v,F',h1,h2.trans g.h,h3]]
def PV.int[Ex](h:PV K F H (.c<|.b n) Q)(s:bx F H):PV K F' H (.c<|.b n) Q:=λF2 H2 v fp g fr r=>by
 let#[rfl,rfl]:=r;exact h F H2 _ [] #[g.h,bx.refl _,s.trans g.h,λb o q q'=>by rw[q]at q';cases q'] .nil #[rfl,rfl]
def PV.grow[Ex](h:PV K F H r Q)(g:cH F H F1 H1):PV K F1 H1 r Q:=by
 cases r with
 |c d=>exact λF' H' v fp g' fr rx=>h F' H' v fp (g.trans g') #[fr.nd,λa ha=>bx.none g.h<|fr.nh a ha,fr.nf] rx
 |d=>exact h
def PB.grow[Ex]{α:Type}{r:R α}{Q:α->Hp->Prop}(h:PB K F H r Q)(g:cH F H F1 H1):PB K F1 H1 r Q:=by
 cases r with
 |c d=>exact λF' H' g'=>h F' H'<|g.trans g'
 |d=>exact h
def PV.here[Ex](h:PV K F H (.c<|br d) Q)(s:bx F H)(r:bA K F d v):Q v H:=h F H v [] (cH.refl s) .nil<|bA.yH d v r
def PV.ab[Ex](h:PV K F H (.c d) Q)(s:bx F H)(r:bT K H F d v []):Q v H:=h F H v [] (cH.refl s) .nil r
def o_{α:Type}{r:R α}{a:α}(h:R.cA b r=.c a):b=L/\r=.c a:=by
 cases b with
 |true=>exact#[rfl,h]
 |false=>cases h
def PV.cA[Ex](h:PV K F H (R.cA b r) Q):b=L/\PV K F H r Q:=by
 cases b with
 |true=>exact#[rfl,h]
 |false=>cases h
end
theorem szl:aj=16777216:=by rfl
theorem IX(x:Str):x.cps.toList.length=x.length:=by rfl
theorem T7(l:B Nat):(⟨l.toArray⟩:Str).length=l.length:=by rfl
def aco(z:Str)(n:Nat):(zT z n).length=z.length*n:=by
 unfold zT;rw[T7];induction n with
 |zero=>simp
 |succ n ih=>rw[eE,gH,aZ,ih,IX,Ou,Ov]
def PN{α:Type}(l:B α)(lo hi:LD J):zl (cut l lo hi)<=zl l:=by
 unfold cut;rw[cM,cR]
 lia
def uH{α:Type}{xs:B α}{i:J}{x:α}(h:bL xs i=M x):∃j,kq (zl xs) i=M j/\xs[j]?=M x:=by
 unfold bL at h;cases q:kq (zl xs) i with
 |none=>simp_all
 |some j=>simp_all
def GZ{α:Type}{xs:B α}{i:J}{j:Nat}{x:α}(h:kq (zl xs) i=M j)(e:xs[j]?=M x):bL xs i=M x:=by
 unfold bL;rw[h];exact e
section
variable{K:ao}{H H0 F F0:Hp}
def J_(r:bA K F x v):decide (v=.d)=d7 x:=by
 cases x with
 |h=>rw[show v=.d from r];rfl
 |e b=>rw[show v=.c b from r];rfl
 |b i=>rw[show v=.b i from r];rfl
 |c z=>rw[show v=.e z from r.1];rfl
 |a o ds=>let#[a,vs,rfl,_]:=r;rfl
 |d ds=>let#[a,vs,rfl,_]:=r;rfl
 |g o ks ds=>let#[a,vs,rfl,_]:=r;rfl
 |f o ks ds=>let#[a,vs,rfl,_]:=r;rfl
 |i o C ks ds=>let#[a,dx,vs,rfl,_]:=r;rfl
def T8(r:bA K F x v)(h:d7 x=L):v=.d:=by
 cases x<;>first|exact r|(cases h)
def rY{x:D}{v:V}{k:Key}(r:bA K F x v)(h:k_ x=M k):v=kV k:=by
 cases x with
 |b i=>cases h;exact r
 |c z=>cases h;exact r.1
 |_=>cases h
theorem Cj:∀{ds:B D}{vs:B V}{k:B Key},aT K F ds vs->rG ds=M k->vs=k.map kV/\keysOk k=L
|[],_,_,h,e=>by cases h;cases e;exact#[rfl,rfl]
|d::ds,_,k,h,e=>by
 let#[v,r,rfl,h2,h3]:=h;unfold rG at e;cases hd:k_ d with
 |none=>rw[hd]at e;cases e
 |some q=>
  rw[hd]at e;cases hr:rG ds with
  |none=>rw[hr]at e;cases e
  |some rs=>
   rw[hr]at e;cases e;let#[w1,w2]:=Cj h3 hr;refine#[by rw[rY h2 hd,w1];rfl,?_];show(Sg q&&keysOk rs)=L;rw[w2,n_];cases d with
   |b i=>cases hd;rfl
   |c z=>cases hd;exact aU h2.2
   |_=>cases hd
def AR{x:D}{v:V}{k:B Key}(r:bA K F x v)(h:iD x=M k):∃b,v=.a b/\F b=M (.b<|k.map kV)/\nW k=L:=by
 cases x with
 |d ds=>
  let#[a,vs,rfl,h2,h3,h4]:=r;let#[w1,w2]:=Cj h4 h;subst w1;refine#[a,rfl,h2,?_];unfold nW;rw[w2,wu];rw[aa]at h3;exact aU h3
 |_=>cases h
theorem FG{κ:Type}[fE κ]:∀(kvs:B<|κ×V) (k:κ),gw (kvs.map (·.1)) k=(iC kvs k).isSome
|[],k=>rfl
|p::r,k=>by
 have ih:=FG r k;unfold gw at ih ⊢;unfold iC at ih ⊢;simp only[bB,rQ,iA];by_cases e:p.1=k
 .simp[e]
 .simp only[e,uo,BD];exact ih
theorem xD{κ:Type}[fE κ]:∀(kvs:B<|κ×V) (ds:B D) (k:κ),aT K F ds (kvs.map (·.2))->match gq (kvs.map (·.1)) ds k with
 |some d=>∃v,iC kvs k=M v/\bA K F d v
 |none=>iC kvs k=S
|[],ds,k,h=>by rfl
|p::r,[],k,h=>by cases h
|p::r,d::ds,k,h=>by
 let#[v,vs,e,h2,h3]:=h;simp only[bB]at e;injection e with e1 e2;subst e1 e2;simp only[bB,gq];by_cases q:p.1=k
 .rw[aH q];exact#[p.2,by simp[iC,iA,q],h2]
 .rw[aG q];have ih:=xD r ds k h3;have z:iC (p::r) k=iC r k:=by simp[iC,iA,q]
  rw[z];exact ih
theorem rZ:∀(xs ys:B D),aD (xs++ys)=aD xs++aD ys
|[],_=>rfl
|x::r,ys=>by show br x::aD (r++ys)=_;rw[rZ r ys];rfl
theorem uV:∀xs:B D,zl (aD xs)=zl xs
|[]=>rfl
|x::r=>by show(aD r).length+1=_;rw[uV r];rfl
def PV.ae[Ex]{ds:B D}{vs:B V}{Q:VK}{p:Addr}(h:PV K F H (.c<|.a L<|aD ds) Q)(s:bx F H)(r:aT K F ds vs)(hl:zl vs<=aj)(hp:H p=S):Q (.a p) (upd H p<|.a vs):=by
 let#[g,hf]:=newList (vs:=vs) s hp;refine h F _ (.a p) [p] g #[by simp,?_,?_] ?_
 .simp_all
 .simp_all
 .unfold bT;rw[aH rfl];exact#[p,vs,[],rfl,bZ,hl,aT.yH ds vs r,rfl]
def PV.am[Ex]{ds:B D}{vs:B V}{Q:VK}{p:Addr}(h:PV K F H (.c<|.d<|aD ds) Q)(s:bx F H)(r:aT K F ds vs)(hl:zl vs<=aj)(hp:H p=S):Q (.a p) (upd H p<|.b vs):=by
 have g:=GY (o:=.b vs) s hp;refine h _ _ (.a p) [] g .nil ?_;exact#[p,vs,rfl,bZ,hl,aT.yH ds vs<|aT.ac g.f ds vs r]
theorem M7:∀(n:Nat) {ds:B D}{vs:B V},aT K F ds vs->aT K F (aL n ds).flatten (aL n vs).flatten
|0,_,_,_=>rfl
|n+1,ds,vs,r=>by
 rw[eE,eE,gH,gH];exact aT.ad r<|M7 n r
def hκ(n:Nat)(xs:B D):(aL n<|aD xs).flatten=aD (aL n xs).flatten:=by
 induction n with
 |zero=>rfl
 |succ n ih=>rw[eE,eE,gH,gH,rZ,ih]
def afO[Ex](s:bx F H)(rx:bA K F x v)(ry:bA K F y u)(h:PV K F H (lq op x y) Q):Wz K op v u H Q:=by
 cases x with
 |b i=>
  cases rx;cases y with
  |b j=>
   cases ry;cases op<;>first|exact h.elim|exact h.ab s ⟨rfl,rfl⟩|(let#[c,h]:=h.cA;exact#[aC c,h.ab s #[rfl,rfl]])
  |_=>cases h
 |c z=>
  let#[rfl,hz]:=rx;cases y with
  |b j=>
   cases ry;cases op<;>first|exact h.elim|skip
   let#[c,h]:=h.cA;have c:=aC c;exact#[c,h.ab s #[#[rfl,by rw[aco];exact c.2.2],rfl]]
  |c q=>
   let#[rfl,hq]:=ry;cases op<;>first|exact h.elim|skip
   let#[c,h]:=h.cA;have c:=aC c;exact#[c,h.ab s #[#[rfl,by rw[Str.length_append];exact c],rfl]]
  |_=>cases h
 |a o xs=>
  let#[a,vs,rfl,h2,h3,h4]:=rx;cases y with
  |a o' ys=>
   let#[b,us,rfl,k2,k3,k4]:=ry;cases op<;>first|exact h.elim|skip
   let#[c,h]:=h.cA;have c:=aC c;rw[<-h4.len,<-k4.len]at c;rw[<-rZ]at h;exact .inl #[vs,us,Rd.same s h2,Rd.same s k2,c,λp hp=>h.ae s (h4.ad k4) (by rw[aZ];exact c) hp]
  |b k=>
   cases ry;cases op<;>first|exact h.elim|skip
   let#[c,h]:=h.cA;have c:=aC c;rw[<-h4.len]at c;rw[hκ]at h;refine#[vs,Rd.same s h2,c.1,c.2,λp hp=>h.ae s (M7 _ h4) ?_ hp];have z:∀n,(aL n vs).flatten.length=vs.length*n:=by
    intro n;induction n with
    |zero=>rfl
    |succ n ih=>rw[eE,gH,aZ,ih,Ou,Ov]
   rw[z];exact c.2
  |_=>cases h
 |d xs=>
  let#[a,vs,rfl,h2,h3,h4]:=rx;cases y with
  |d ys=>
   let#[b,us,rfl,k2,k3,k4]:=ry;cases op<;>first|exact h.elim|skip
   let#[c,h]:=h.cA;simp only[cG,eS,mQ,List.isEmpty_eq_false_iff]at c;let#[#[c1,c2],c3]:=c;rw[<-h4.len,<-k4.len]at c3;rw[<-rZ]at h;refine .inr #[vs,us,(RS h2).same' s,(RS k2).same' s,?_,?_,c3,λp hp=>h.am s (h4.ad k4) (by rw[aZ];exact c3) hp]
   .rintro rfl;exact c1 (jr (by rw[<-h4.len];rfl))
   .rintro rfl;exact c2 (jr (by rw[<-k4.len];rfl))
  |_=>cases h
 |_=>cases h
def okIn(s:bx F H)(rx:bA K F x v)(ry:bA K F y u)(h:inD x y=.c b){Q:Bool->Prop}(q:Q b):∃a,u=.a a/\((∃t xs dx ds,jt K H a t xs/\bA K H dx v/\aT K H ds xs/\dS dx=L/\jw ds=L/\Q (acM dx ds))\/(∃kvs k,Rd H a (.e kvs)/\v=kV k/\Q (iC kvs k).isSome)\/∃kvs k b,Rd H a (.c kvs)/\v=.a b/\H b=M (.b<|k.map kV)/\Q (iC kvs k).isSome):=by
 cases y with
 |a o ys=>
  let#[a,us,rfl,k2,k3,k4]:=ry;let#[c,e]:=o_ h;cases e;have c:dS x=L/\jw ys=L:=by simpa using c
  exact#[a,rfl,.inl #[W,us,x,ys,(Rd.seq k2).same' s,bA.ac s _ _ rx,aT.ac s _ _ k4,c.1,c.2,q]]
 |d ys=>
  let#[a,us,rfl,k2,k3,k4]:=ry;let#[c,e]:=o_ h;cases e;have c:dS x=L/\jw ys=L:=by simpa using c
  exact#[a,rfl,.inl #[L,us,x,ys,(RS k2).same' s,bA.ac s _ _ rx,aT.ac s _ _ k4,c.1,c.2,q]]
 |g o ks ds=>
  let#[a,kvs,rfl,k2,k3,k4,k5]:=ry;unfold inD at h;cases e:k_ x with
  |none=>rw[e]at h;cases h
  |some k=>
   rw[e]at h;cases h;refine#[a,rfl,.inr<|.inl #[kvs,k,.inl<|s _ _ k2,rY rx e,?_]];rw[<-k4.1,FG]at q;exact q
 |f o ks ds=>
  let#[a,kvs,rfl,k2,k3,k4,k5]:=ry;unfold inD at h;cases e:iD x with
  |none=>rw[e]at h;cases h
  |some k=>
   rw[e]at h;cases h;let#[b,rfl,hb,_]:=AR rx e;refine#[a,rfl,.inr<|.inr #[kvs,k,b,.inl<|s _ _ k2,rfl,s _ _ hb,?_]];rw[<-k4.1,FG]at q;exact q
 |_=>cases h
def DS[Ex](s:bx F H)(rx:bA K F x v)(ry:bA K F y u)(h:PV K F H (dO op x y) Q):tB K op v u H Q:=by
 have ord:(op=.Lt\/op=.LtE\/op=.Gt)->PV K F H (Y5 op x y) Q->tB K op v u H Q:=by
  intro ho h;cases x with
  |b i=>
   cases rx;cases y with
   |b j=>
    cases ry;rcases ho with rfl|rfl|rfl<;>exact h.ab s #[rfl,rfl]
   |_=>cases h
  |_=>cases h
 cases op with
 |Lt=>exact ord (.inl rfl) h
 |LtE=>exact ord (.inr<|.inl rfl) h
 |Gt=>exact ord (.inr<|.inr rfl) h
 |GtE=>cases x<;>first|exact h.elim|(cases y<;>exact h.elim)
 |Eq=>
  let#[c,h]:=h.cA;have c:dS x=L/\dS y=L:=by simpa using c
  exact#[x,y,bA.ac s _ _ rx,bA.ac s _ _ ry,c.1,c.2,h.ab s #[rfl,rfl]]
 |NotEq=>
  let#[c,h]:=h.cA;have c:dS x=L/\dS y=L:=by simpa using c
  exact#[x,y,bA.ac s _ _ rx,bA.ac s _ _ ry,c.1,c.2,h.ab s #[rfl,rfl]]
 |Is=>
  let#[c,h]:=h.cA;rw[T8 ry c];show Q (.c<|decide<|v=.d) H;rw[J_ rx];exact h.ab s #[rfl,rfl]
 |IsNot=>
  let#[c,h]:=h.cA;rw[T8 ry c];show Q (.c<|!decide (v=.d)) H;rw[J_ rx];exact h.ab s #[rfl,rfl]
 |In=>
  have h:PV K F H ((inD x y).bind λb=>.c<|.e b) Q:=h;cases e:inD x y with
  |c b=>
   rw[e]at h;let#[a,rfl,z]:=okIn s rx ry e (Q:=λb=>Q (.c b) H)<|h.ab s #[rfl,rfl];exact z
  |d=>rw[e]at h;exact h.elim
 |NotIn=>
  have h:PV K F H ((inD x y).bind λb=>.c<|.e<|!b) Q:=h;cases e:inD x y with
  |c b=>
   rw[e]at h;let#[a,rfl,z]:=okIn s rx ry e (Q:=λb=>Q (.c<|!b) H)<|h.ab s #[rfl,rfl];exact z
  |d=>rw[e]at h;exact h.elim
def Rx{Q:Bool->Prop}(s:bx F H)(rx:bA K F x v)(h:lu x=.c b)(q:Q b):tD K v H Q:=by
 cases x with
 |e k=>cases rx;cases h;exact q
 |_=>cases h
def c6{α β:Type}{r:R α}{f:α->R β}{b:β}(h:r.bind f=.c b):∃a,r=.c a/\f a=.c b:=by
 cases r with
 |c a=>exact#[a,rfl,h]
 |d=>cases h
def xE{α:Type}{o:LD α}{a:α}(h:R.ab o=.c a):o=M a:=by
 cases o with
 |none=>cases h
 |some b=>cases h;rfl
def PV.some[Ex]{r:R D}{Q:VK}(h:PV K F H r Q):∃d,r=.c d:=by
 cases r with
 |c d=>exact#[d,rfl]
 |d=>cases h
def Y6[Ex]{x y:D}{v u:V}{Q:VK}(s:bx F H)(rx:bA K F x v)(ry:bA K F y u)(h:PV K F H (g_ x y) Q):Tq K v u H Q:=by
 let#[d,e]:=h.some;rw[e]at h;have hs:=szl;cases x with
 |c z=>
  let#[rfl,hz]:=rx;cases y with
  |b i=>
   cases ry;let#[c,e1,e2]:=c6 e;cases e2;exact#[hz,c,xE e1,h.ab s #[#[rfl,by show(1:Nat)<=_;lia],rfl]]
  |_=>cases e
 |a o ds=>
  let#[a,vs,rfl,h2,h3,h4]:=rx;cases y with
  |b i=>
   cases ry;let#[c,e1,e2]:=c6 e;cases e2;let#[j,i1,i2]:=uH<|xE e1;let#[w,w1,w2]:=h4.get j i2;exact .inl #[W,vs,i,w,rfl,(Rd.seq h2).same' s,GZ (by rw[h4.len];exact i1) w1,h.here s w2]
  |_=>cases e
 |d ds=>
  let#[a,vs,rfl,h2,h3,h4]:=rx;cases y with
  |b i=>
   cases ry;let#[c,e1,e2]:=c6 e;cases e2;let#[j,i1,i2]:=uH<|xE e1;let#[w,w1,w2]:=h4.get j i2;exact .inl #[L,vs,i,w,rfl,(RS h2).same' s,GZ (by rw[h4.len];exact i1) w1,h.here s w2]
  |_=>cases e
 |g o ks ds=>
  let#[a,kvs,rfl,h2,h3,h4,h5]:=rx;unfold g_ at e;cases q:k_ y with
  |none=>simp only[q]at e;cases e
  |some k=>
   simp only[q]at e;let#[c,e1,e2]:=c6 e;cases e2;have z:=xD kvs ds k h5;rw[h4.1,xE e1]at z;let#[w,w1,w2]:=z;exact .inr<|.inl #[kvs,k,w,.inl<|s _ _ h2,rY ry q,w1,h.here s w2]
 |f o ks ds=>
  let#[a,kvs,rfl,h2,h3,h4,h5]:=rx;unfold g_ at e;cases q:iD y with
  |none=>simp only[q]at e;cases e
  |some k=>
   simp only[q]at e;let#[c,e1,e2]:=c6 e;cases e2;have z:=xD kvs ds k h5;rw[h4.1,xE e1]at z;let#[w,w1,w2]:=z;let#[b,rfl,hb,_]:=AR ry q;exact .inr<|.inr #[kvs,k,b,w,.inl<|s _ _ h2,rfl,s _ _ hb,w1,h.here s w2]
 |_=>cases e
def aT.cut:∀{ds:B D}{vs:B V},aT K F ds vs->∀lo hi,aT K F (L3.cut ds lo hi) (L3.cut vs lo hi):=by
 have dr:∀(n:Nat) {ds:B D}{vs:B V},aT K F ds vs->aT K F (ds.drop n) (vs.drop n):=by
  intro n;induction n with
  |zero=>intro ds vs h;exact h
  |succ n ih=>
   intro ds vs h;cases ds with
   |nil=>cases h;exact rfl
   |cons d ds=>
    let#[v,r,rfl,_,h3]:=h;exact ih h3
 have tk:∀(n:Nat) {ds:B D}{vs:B V},aT K F ds vs->aT K F (ds.take n) (vs.take n):=by
  intro n;induction n with
  |zero=>intro ds vs h;exact rfl
  |succ n ih=>
   intro ds vs h;cases ds with
   |nil=>cases h;exact rfl
   |cons d ds=>
    let#[v,r,rfl,h2,h3]:=h;exact#[v,_,rfl,h2,ih h3]
 intro ds vs h lo hi;unfold L3.cut;rw[h.len];exact tk _<|dr _ h
def okSl[Ex](s:bx F H)(rx:bA K F x v)(h:PV K F H (J7 x lo hi) Q):Zp K v lo hi H Q:=by
 cases x with
 |c z=>
  let#[rfl,hz]:=rx;refine#[hz,h.ab s #[#[rfl,?_],rfl]];rw[T7];have:=PN z.cps.toList lo hi;rw[IX]at this
  lia
 |a o ds=>
  let#[a,vs,rfl,h2,h3,h4]:=rx;exact .inl #[W,vs,(Rd.seq h2).same' s,rfl,λp hp=>h.ae s (h4.cut lo hi) (cu (PN _ _ _) h3) hp]
 |d ds=>
  let#[a,vs,rfl,h2,h3,h4]:=rx;cases lo with
  |none=>cases h
  |some n=>
   cases hi with
   |some _=>cases h
   |none=>
    let#[c,h]:=h.cA;have c:=aC c;have en:((n.toNat:Nat):J)=n:=by lia
    have dr:∀(n:Nat) {ds:B D}{vs:B V},aT K F ds vs->aT K F (ds.drop n) (vs.drop n):=by
     intro n;induction n with
     |zero=>intro ds vs h;exact h
     |succ n ih=>
      intro ds vs h;cases ds with
      |nil=>cases h;exact rfl
      |cons d ds=>
       let#[v,r,rfl,_,h3]:=h;exact ih h3
    have hl:=h4.len;exact .inr #[n.toNat,vs,(RS h2).same' s,by rw[en],rfl,by lia,by lia,λp hp=>h.am s (dr n.toNat h4) (by rw[cR];lia) hp]
 |_=>cases h
theorem Ck:∀{ds:B D}{vs:B V},aT K F ds vs->ds.all rH=L->AE vs=L/\vs.all tE=ds.all vf/\vs.any tE=ds.any vf
|[],_,h,_=>by cases h;exact#[rfl,rfl,rfl]
|d::ds,_,h,e=>by
 let#[v,r,rfl,h2,h3]:=h;have e':rH d=L/\ds.all rH=L:=by simpa using e
 let#[i1,i2,i3]:=Ck h3 e'.2;cases d with
 |e b=>
  cases h2;refine#[by show(L&&AE r)=L;rw[i1];rfl,?_,?_]
  .rw[wo,wo,i2];cases b<;>rfl
  .rw[rQ,rQ,i3];cases b<;>rfl
 |_=>exact aI e'.1 bY
def PV.ZE[Ex]{ks:B Key}{ds:B D}{kvs:B<|Key×V}{Q:VK}{p:Addr}(h:PV K F H (.c<|.g L ks<|aD ds) Q)(s:bx F H)(r:aT K F ds (kvs.map (·.2)))(hk:kvs.map (·.1)=ks/\keysOk ks=L)(hl:zl kvs<=aj)(hp:H p=S):Q (.a p) (upd H p<|.e kvs):=by
 let#[g,hf]:=newList (vs:=[]) s hp;refine h F _ (.a p) [p] g #[by simp,?_,?_] ?_
 .simp_all
 .simp_all
 .unfold bT;rw[aH rfl];exact#[p,kvs,[],rfl,bZ,hl,hk,aT.yH ds _ r,rfl]
set_option tactic.hygienic true
def ads(h:TJ d=M p):∃k x,d=.d [k,x]/\k_ k=M p.1/\p.2=x:=by
 unfold TJ at h;split at h
 .rename_i k v;cases e:k_ k with
  |none=>rw[e]at h;cases h
  |some q=>rw[e]at h;cases h;exact#[k,v,rfl,e,rfl]
 .cases h
theorem Ka(s:bx F H):∀{ds:B D}{vs:B V}{ps:B<|Key×D},aT K F ds vs->o8 ds=M ps->
 ∃qs:B<|Key×V,Tt K H vs qs/\qs.map (·.1)=ps.map (·.1)/\aT K F (ps.map (·.2)) (qs.map (·.2))/\keysOk (ps.map (·.1))=L
|[],_,_,h,e=>by cases h;cases e;exact#[[],.nil,rfl,rfl,rfl]
|d::ds,_,ps,h,e=>by
 let#[v,r,rfl,h2,h3]:=h;unfold o8 at e;cases hd:TJ d with
 |none=>rw[hd]at e;cases e
 |some p=>
  rw[hd]at e;cases hr:o8 ds with
  |none=>rw[hr]at e;cases e
  |some rs=>
   rw[hr]at e;cases e;let#[qs,w1,w2,w3,w4]:=Ka s h3 hr;let#[k,x,rfl,hk,hx]:=ads hd;let#[a,ws,rfl,t2,t3,t4]:=h2;let#[vk,r1,rfl,rk,t5]:=t4;let#[vx,r2,rfl,rx,t6]:=t5;cases t6;have ek:=rY rk hk;subst ek;refine#[(p.1,vx)::qs,.cons #[a,rfl,((RS t2).same' s).vA] w1,by rw[bB,bB,w2],#[vx,_,rfl,by show bA K F p.2 vx;rw[hx];exact rx,w3],?_];show(Sg p.1&&keysOk (rs.map (·.1)))=L;rw[w4,n_];cases k with
   |b i=>
    have e:=cE hk;rw[<-e];rfl
   |c z=>
    have e:=cE hk;rw[<-e];exact aU rk.2
   |_=>cases hk
theorem aT.jA{κ:Type}[fE κ]{kk:κ}(hd:bA K F d v):∀{ds:B D}{kvs:B<|κ×V},aT K F ds (kvs.map (·.2))->aT K F (L3.jA (kvs.map (·.1)) ds kk d) ((kvs.map λkv=>if kv.1=kk then(kv.1,v)else kv).map (·.2))
|[],[],_=>rfl
|[],_::_,h=>by cases h
|_::_,[],h=>by rfl
|e::ds,(k,w)::kvs,h=>by
 let#[u,r,z,h3,h4]:=h;simp only[bB]at z;injection z with z1 z2;subst z1 z2;have q1:=aT.jA (kk:=kk) hd h4;simp only[bB,L3.jA];by_cases hk:k=kk
 .rw[aH hk,aH hk];exact#[v,_,rfl,hd,q1]
 .rw[aG hk,aG hk];exact#[w,_,rfl,h3,q1]
def ags{κ:Type}[fE κ](kvs:B<|κ×V)(kk:κ)(v:V):(kvs.map λkv=>if kv.1=kk then(kv.1,v)else kv).map (·.1)=kvs.map (·.1):=by
 rw[bG];apply fT;intro kv _;show(if kv.1=kk then(kv.1,v)else kv).1=kv.1;split<;>rfl
theorem Cn:∀{ps:B<|B Key×D}{qs kvs:B<|B Key×V}{xs:B D},qs.map (·.1)=ps.map (·.1)->aT K F (ps.map (·.2)) (qs.map (·.2))->aT K F xs (kvs.map (·.2))->
 (qO kvs qs).map (·.1)=(fW (kvs.map (·.1)) xs ps).1/\aT K F (fW (kvs.map (·.1)) xs ps).2 ((qO kvs qs).map (·.2))
|[],[],kvs,xs,_,_,h=>#[rfl,h]
|[],_::_,_,_,e,_,_=>by cases e
|_::_,[],_,_,e,_,_=>by cases e
|(k,d)::ps,(k',v)::qs,kvs,xs,e,h1,h2=>by
 simp only[bB,aal]at e;let#[rfl,e]:=e;let#[v',r,z,r1,r2]:=h1;simp only[bB]at z;injection z with z1 z2;subst z1 z2;have hany:(kvs.any λkv=>decide<|kv.1=k')=gw (kvs.map (·.1)) k':=by unfold gw;rw[pZ];rfl
 show(qO (QO kvs k' v) qs).map (·.1)=(if gw (kvs.map (·.1)) k'=L then fW (kvs.map (·.1)) (jA (kvs.map (·.1)) xs k' d) ps else fW (kvs.map (·.1)++[k']) (xs++[d]) ps).1 /\
  aT K F (if gw (kvs.map (·.1)) k'=L then fW (kvs.map (·.1)) (jA (kvs.map (·.1)) xs k' d) ps else fW (kvs.map (·.1)++[k']) (xs++[d]) ps).2 ((qO (QO kvs k' v) qs).map (·.2))
 by_cases hh:gw (kvs.map (·.1)) k'=L
 .have e5:QO kvs k' v=kvs.map (λkv=>if kv.1=k' then(kv.1,v)else kv):=by
   unfold QO;rw[hany,aH hh]
  rw[aH hh,e5];have:=Cn e r2<|aT.jA (kk:=k') r1 h2;rw[ags]at this;exact this
 .have e5:QO kvs k' v=kvs++[(k',v)]:=by
   unfold QO;rw[hany,aG hh]
  rw[aG hh,e5];have:=Cn (kvs:=kvs++[(k',v)]) (xs:=xs++[d]) e r2 (by rw[bl];exact h2.ad #[v,[],rfl,r1,rfl]);rw[bl]at this;exact this
theorem AS:∀(ps:B<|B Key×D) (ks:B<|B Key) (xs:B D),fV ks=L->fV (ps.map (·.1))=L->fV (fW ks xs ps).1=L
|[],ks,xs,h,_=>h
|p::r,ks,xs,h,e=>by
 have e':nW p.1=L/\fV (r.map (·.1))=L:=by simpa[fV]using e
 unfold fW;split
 .exact AS r ks _ h e'.2
 .refine AS r _ _ ?_ e'.2;unfold fV at h ⊢;rw[zg,h];simp[e'.1]
def aeA(h:DO d=M p):∃k x,d=.d [k,x]/\iD k=M p.1/\p.2=x:=by
 unfold DO at h;split at h
 .rename_i k v;cases e:iD k with
  |none=>rw[e]at h;cases h
  |some q=>rw[e]at h;cases h;exact#[k,v,rfl,e,rfl]
 .cases h
theorem G0(s:bx F H):∀{ds:B D}{vs:B V}{ps:B<|B Key×D},aT K F ds vs->qR ds=M ps->
 ∃qs:B<|B Key×V,QY K H vs qs/\qs.map (·.1)=ps.map (·.1)/\aT K F (ps.map (·.2)) (qs.map (·.2))/\fV (ps.map (·.1))=L
|[],_,_,h,e=>by cases h;cases e;exact#[[],.nil,rfl,rfl,rfl]
|d::ds,_,ps,h,e=>by
 let#[v,r,rfl,h2,h3]:=h;unfold qR at e;cases hd:DO d with
 |none=>rw[hd]at e;cases e
 |some p=>
  rw[hd]at e;cases hr:qR ds with
  |none=>rw[hr]at e;cases e
  |some rs=>
   rw[hr]at e;cases e;let#[qs,w1,w2,w3,w4]:=G0 s h3 hr;let#[k,x,rfl,hk,hx]:=aeA hd;let#[a,ws,rfl,t2,t3,t4]:=h2;let#[vk,r1,rfl,rk,t5]:=t4;let#[vx,r2,rfl,rx,t6]:=t5;cases t6;let#[b,rfl,hb,ho]:=AR rk hk;refine#[(p.1,vx)::qs,.cons #[a,b,rfl,((RS t2).same' s).vA,s _ _ hb] w1,by rw[bB,bB,w2],#[vx,_,rfl,by show bA K F p.2 vx;rw[hx];exact rx,w3],?_];show(nW p.1&&fV (rs.map (·.1)))=L;rw[w4,ho];rfl
def PV.ZF[Ex]{ks:B<|B Key}{ds:B D}{kvs:B<|B Key×V}{Q:VK}{p:Addr}(h:PV K F H (.c<|.f L ks<|aD ds) Q)(s:bx F H)(r:aT K F ds (kvs.map (·.2)))(hk:kvs.map (·.1)=ks/\fV ks=L)(hl:zl kvs<=aj)(hp:H p=S):Q (.a p) (upd H p<|.c kvs):=by
 let#[g,hf]:=newList (vs:=[]) s hp;refine h F _ (.a p) [p] g #[by simp,?_,?_] ?_
 .simp_all
 .simp_all
 .unfold bT;rw[aH rfl];exact#[p,kvs,[],rfl,bZ,hl,hk,aT.yH ds _ r,rfl]
theorem Kc:∀(k:B Key),keysOk k=L->aT K F (k.map iR) (k.map kV)
|[],_=>rfl
|q::r,h=>by
 have h':Sg q=L/\keysOk r=L:=by simpa[keysOk]using h
 refine#[kV q,_,rfl,?_,Kc r h'.2];cases q with
 |inl i=>exact rfl
 |inr z=>exact#[rfl,aC h'.1]
theorem PR:∀{kss:B<|B Key}{ts:B Addr},jX H kss ts->zl kss=zl ts/\∀i,i<zl kss->H (ts.getD i 0)=M (.b<|(kss.getD i []).map kV)/\ts.getD i 0∈ts
|_,_,.nil=>#[rfl,λi h=>aI h<|lX _]
|_,_,.cons e r=>by
 let#[h1,h2]:=PR r;refine#[by simp[h1],λi hi=>?_];cases i with
 |zero=>exact#[e,aB]
 |succ i=>
  let#[a,b]:=h2 i (by simpa using hi);exact#[by simpa using a,aq _<|by simpa using b]
theorem Kd:∀{ds:B D}{vs:B V}{ss:B Str},aT K F ds vs->GV ds=M ss->vs=ss.map V.e
|[],_,_,h,e=>by cases h;cases e;rfl
|d::ds,_,ss,h,e=>by
 let#[v,r,rfl,h2,h3]:=h;cases d with
 |c z=>
  have e:(GV ds).map (z::·)=M ss:=e;cases q:GV ds with
  |none=>rw[q]at e;cases e
  |some s2=>
   rw[q]at e;cases e;rw[Kd h3 q,h2.1];rfl
 |_=>cases e
theorem yK:∀{ds:B D}{vs:B V}{ss:B J},aT K F ds vs->mH ds=M ss->vs=ss.map V.b
|[],_,_,h,e=>by cases h;cases e;rfl
|d::ds,_,ss,h,e=>by
 let#[v,r,rfl,h2,h3]:=h;cases d with
 |b z=>
  have e:(mH ds).map (z::·)=M ss:=e;cases q:mH ds with
  |none=>rw[q]at e;cases e
  |some s2=>
   rw[q]at e;cases e;rw[yK h3 q,h2];rfl
 |_=>cases e
theorem Ke:∀{ds:B D}{vs:B V}{kss:B<|B Key},aT K F ds vs->DR ds=M kss->∃ts,vs=ts.map V.a/\jX F kss ts
|[],_,_,h,e=>by cases e;cases h;exact#[[],rfl,.nil]
|d::ds,_,_,h,e=>by
 let#[v,r,rfl,h2,h3]:=h;have e:((iD d).bind λk=>(DR ds).map (k::·))=M _:=e;cases q:iD d with
 |none=>rw[q]at e;cases e
 |some k=>
  rw[q]at e;cases q2:DR ds with
  |none=>rw[q2]at e;cases e
  |some ks=>
   rw[q2]at e;cases e;let#[ts,rfl,ht]:=Ke h3 q2;cases d with
   |d xs=>
    let#[a,us,rfl,u2,_,u4]:=h2;exact#[a::ts,rfl,.cons (by rw[u2,(Cj u4 q).1]) ht]
   |_=>cases q
theorem EB(s:bx F H):∀{kss:B<|B Key}{ts:B Addr},jX F kss ts->jX H kss ts
|_,_,.nil=>.nil
|_,_,.cons e r=>.cons (s _ _ e)<|EB s r
def b64(h:aT K F ds vs)(e:AN ds=M kss):zl kss=zl ds/\∀{H:Hp},bx F H->MD H vs kss:=by
 have hl:=h.len;unfold AN at e;split at e
 .rename_i ss q;cases e;have:=Kd h q;exact#[by rw[<-hl,this,aa,aa],λ_=>.inr<|.inl #[ss,this,rfl]]
 .split at e
  .rename_i ns q;cases e;have:=yK h q;exact#[by rw[<-hl,this,aa,aa],λ_=>.inr<|.inr #[ns,this,rfl]]
  .let#[ts,e1,e2]:=Ke h e;exact#[by rw[<-hl,e1,aa];exact Paired.length e2,λs=>.inl #[ts,e1,EB s e2]]
theorem Kf:∀(ds:B D) (i:Nat),(aD ds).getD i .h=br (ds.getD i .h)
|[],_=>rfl
|_::_,0=>rfl
|_::ds,i+1=>Kf ds i
theorem Kg(h:aT K F ds vs):∀l:B Nat,(∀i∈l,i<zl ds)->aT K F (l.map λi=>ds.getD i .h) (l.map λi=>vs.getD i .d)/\aD (l.map λi=>ds.getD i .h)=l.map λi=>(aD ds).getD i .h
|[],_=>#[rfl,rfl]
|i::r,hi=>by
 have h0:=hi i aB;let#[v,e1,e2]:=aT.get i h<|ai h0;let#[q1,q2]:=Kg h r λj hj=>hi j<|aq _ hj;refine#[#[_,_,rfl,?_,q1],?_]
 .show bA K F (ds.getD i .h) (vs.getD i .d);rw[aV,aV,ai h0,e1];exact e2
 .show br (ds.getD i .h)::aD _=(aD ds).getD i .h::_;rw[q2,Kf]
def PV.sorted[Ex](h:PV K F H (.c<|.a L<|p8 ks) Q)(s:bx F H)(hk:fV ks=L)(hs:abb ks=L)(ht:jX H ks ts)(hp:H p=S):Q (.a p) (upd H p<|.a<|(dX ks).map λi=>.a<|ts.getD i 0):=by
 let#[hl,hat]:=PR ht;have hlt:∀i∈dX ks,i<zl ks:=λi hi=>vz _ _ i hi;have hpt:p∉ts:=λz=>by
  let#[i,hi,e]:=eF z;have:=(hat i<|by lia).1;rw[aV,ai hi]at this;have this:H ts[i]=_:=this;rw[e,hp]at this;cases this
 have sa:bx (RQ F H ts) H:=ku s;have g:cH F H (RQ F H ts) (upd H p<|.a<|(dX ks).map λi=>.a<|ts.getD i 0):=by
  refine#[λb u q=>by rw[bg<|cj q hp];exact q,gk s,λb u q=>by
   have:=sa b u q;rw[bg<|cj this hp];exact this,λb o h h'=>?_]
  by_cases z:b∈ts
  .let#[i,hi,e]:=eF z;have:=(hat i<|by lia).1;rw[aV,ai hi]at this;have this:H ts[i]=_:=this;rw[e]at this;rw[this];trivial
  .rw[lO z,h']at h;cases h
 have fp0:RQ F H ts p=S:=by rw[lO hpt];exact bx.none s hp
 refine h (RQ F H ts) _ (.a p) [p] g #[by simp,?_,?_] ?_
 .intro a ha;rw[aK.mp ha];exact hp
 .intro a ha;rw[aK.mp ha];exact fp0
 .unfold bT;rw[aH rfl];refine#[p,_,[],rfl,bZ,?_,?_,rfl]
  .rw[aa];unfold dX;rw[oA,cg];have:=(oB hs).1
   lia
  .unfold p8;have:∀l:B Nat,(∀i∈l,i<zl ks)->aY K (upd H p<|.a<|(dX ks).map λi=>.a<|ts.getD i 0) (RQ F H ts) (l.map λi=>D.d<|(ks.getD i []).map iR) (l.map λi=>V.a<|ts.getD i 0) []:=by
    intro l;induction l with
    |nil=>intro _;exact#[rfl,rfl]
    |cons i r ih=>
     intro hi;have h0:=hi i aB;let#[a1,a2]:=hat i h0;have ko:nW (ks.getD i [])=L:=by
      unfold fV at hk;have:=bC.mp hk (ks.getD i []) (by rw[aV,ai h0];exact cK h0);exact this
     unfold nW at ko;rw[cG]at ko;refine#[_,_,[],[],rfl,rfl,#[ts.getD i 0,_,rfl,by rw[nH a2];exact a1,by rw[aa];exact aC ko.2,?_],ih λj hj=>hi j<|aq _ hj];have q:=aT.yH (H:=upd H p<|.a<|(dX ks).map λi=>.a<|ts.getD i 0) _ _<|Kc (K:=K) (F:=RQ F H ts) (ks.getD i []) ko.1;have ef:∀k:B Key,aD (k.map iR)=k.map iR:=by
      intro k;induction k with
      |nil=>rfl
      |cons q r ih=>
       show br (iR q)::aD (r.map iR)=_;rw[ih];cases q<;>rfl
     rw[ef]at q;exact q
   exact this _ hlt
theorem G1:∀(ps acc:B<|Key×V),((acc++ps).map (·.1)).Nodup->vt acc ps=acc++ps
|[],acc,_=>(ee acc).symm
|p::r,acc,h=>by
 have hn:¬(acc.any λkv=>decide<|kv.1=p.1)=L:=by grind
 have e:QO acc p.1 p.2=acc++[p]:=by
  unfold QO;rw[aG hn]
 show vt (QO acc p.1 p.2) r=_;rw[e,G1 r (acc++[p]) (by rw[bE];exact h),bE];rfl
def aba(h:Tt K H vs qs):zl vs=zl qs:=Paired.length h
def Rz[Ex](s:bx F H)(r:aT K F ds vs)(h:PV K F H (h_ f ds) Q):AF K f vs H Q:=by
 match ds,r,h with
 |[],_,h=>cases h
 |[x],r,h=>
  let#[v,r',rfl,rx,e]:=r;cases e;cases f with
  |a=>
   cases x with
   |c z=>let#[rfl,hz]:=rx;exact#[hz,h.ab s #[rfl,rfl]]
   |a o ds=>
    let#[a,vs,rfl,h2,h3,h4]:=rx;exact#[W,vs,(Rd.seq h2).same' s,by show Q (.b<|zl vs) H;rw[h4.len];exact h.ab s #[rfl,rfl]]
   |d ds=>
    let#[a,vs,rfl,h2,h3,h4]:=rx;exact#[L,vs,(RS h2).same' s,by show Q (.b<|zl vs) H;rw[h4.len];exact h.ab s #[rfl,rfl]]
   |_=>cases h
  |e=>
   cases x with
   |a o ds=>
    let#[a,vs,rfl,h2,h3,h4]:=rx;let#[c,h]:=h.cA;let#[i1,i2,i3]:=Ck h4 c;exact#[W,vs,(Rd.seq h2).same' s,rfl,i1,by rw[i2];exact h.ab s #[rfl,rfl]]
   |_=>cases h
  |c=>
   cases x with
   |a o ds=>
    let#[a,vs,rfl,h2,h3,h4]:=rx;let#[c,h]:=h.cA;let#[i1,i2,i3]:=Ck h4 c;exact#[W,vs,(Rd.seq h2).same' s,rfl,i1,by rw[i3];exact h.ab s #[rfl,rfl]]
   |_=>cases h
  |l=>
   cases x with
   |e b=>cases rx;exact h.ab s #[rfl,rfl]
   |_=>cases h
  |g=>
   cases x with
   |a o ds=>
    let#[a,vs,rfl,h2,h3,h4]:=rx;exact#[vs,Rd.same s h2,λp hp=>h.ae s h4 h3 hp]
   |_=>cases h
  |k=>
   cases x with
   |a o ds=>
    let#[a,vs,rfl,h2,h3,h4]:=rx;exact#[vs,Rd.same s h2,λp hp=>h.am s h4 h3 hp]
   |_=>cases h
  |b=>
   cases x with
   |a o ds=>
    let#[a,vs,rfl,h2,h3,h4]:=rx;have h:PV K F H ((R.ab<|o8 ds).bind λps=>.cA (decide (ps.map (·.1)).Nodup) (.c (.g L (ps.map (·.1)) (aD (ps.map (·.2)))))) Q:=h;cases e:o8 ds with
    |none=>rw[e]at h;exact h.elim
    |some ps=>
     rw[e]at h;let#[c,h]:=h.cA;let#[qs,w1,w2,w3,w4]:=Ka s h4 e;refine#[vs,qs,((Rd.seq h2).same' s).Tv,w1,λp hp=>?_];have hn:(qs.map (·.1)).Nodup:=by rw[w2];exact aC c
     rw[G1 qs [] hn];exact PV.ZE h s w3 #[w2,w4] (by rw[lY,<-aba w1];exact h3) hp
   |_=>cases h
  |j=>
   cases x with
   |a o ds=>
    let#[a,vs,rfl,h2,h3,h4]:=rx;have h:PV K F H ((R.ab<|qR ds).bind λps=>.c<|.f L (fW [] [] ps).1<|aD (fW [] [] ps).2) Q:=h;cases e:qR ds with
    |none=>rw[e]at h;exact h.elim
    |some ps=>
     rw[e]at h;have h:PV K F H (.c<|.f L (fW [] [] ps).1<|aD (fW [] [] ps).2) Q:=h;let#[qs,w1,w2,w3,w4]:=G0 s h4 e;refine#[vs,qs,((Rd.seq h2).same' s).Tv,w1,λp hp=>?_];let#[m1,m2]:=Cn (kvs:=[]) (xs:=[]) w2 w3 rfl;refine PV.ZF h s m2 #[m1,AS ps [] [] rfl w4] ?_ hp;have z1:=AD qs [];have z2:zl vs=zl qs:=Paired.length w1;rw[jT]at z1
     lia
   |_=>cases h
  |d=>
   cases x with
   |f o ks ds=>
    let#[a,kvs,rfl,h2,h3,h4,h5]:=rx;have h:PV K F H (.cA (abb ks)<|.c<|.a L<|p8 ks) Q:=h;let#[c,h]:=h.cA;let#[rfl,hk]:=h4;exact .inl #[kvs,.inl<|s _ _ h2,c,λts ht p hp=>PV.sorted h s hk c ht hp]
   |a o ds=>
    let#[a,vs,rfl,h2,h3,h4]:=rx;have h:PV K F H ((R.ab<|AN ds).bind λkss=>.cA (abb kss)<|.c<|.a L<|LM kss ds) Q:=h;cases e:AN ds with
    |none=>rw[e]at h;exact h.elim
    |some kss=>
     rw[e]at h;let#[c,h]:=PV.cA h;let#[k1,k2]:=b64 h4 e;refine .inr #[vs,kss,Rd.same s h2,k2 s,c,λp hp=>?_];let#[r1,r2]:=Kg h4 (dX kss) λi hi=>by rw[<-k1];exact vz _ _ i hi
     have:=(oB c).1;exact PV.ae (by rw[r2];exact h) s r1 (by rw[aa];unfold dX;rw[oA,cg];lia) hp
   |_=>cases h
  |_=>cases h
 |[x,y],r,h=>
  let#[v,r',rfl,rx,u,r2,rfl,ry,e]:=r;cases e;cases x with
  |b i=>
   cases rx;cases y with
   |b j=>
    cases ry;cases f<;>first|exact h.elim|exact h.ab s ⟨rfl,rfl⟩
   |_=>cases h
  |_=>cases h
 |_::_::_::_,_,h=>cases h
def Ub(s:bx F H)(rx:bA K F x v)(h:uU m x ds=.c d):yF m v H:=by
 cases x with
 |a o xs=>
  let#[a,us,rfl,h2,_]:=rx
  match ds,h with
  |[y],h=>
   cases y<;>first|(cases h;done)|skip
   all_goals (cases m<;>first|exact⟨us,Rd.same s h2⟩|(cases h))
  |[],h=>cases h
  |_::_::_,h=>cases h
 |g o ks xs=>
  let#[a,kvs,rfl,h2,_]:=rx
  match ds,h with
  |[k,y],h=>
   cases m<;>first|(cases h)|skip
   show AG H a;unfold AG;rw[s _ _ h2];trivial
  |[],h=>cases h
  |[k],h=>
   cases m<;>first|(cases h)|skip
   show AG H a;unfold AG;rw[s _ _ h2];trivial
  |_::_::_::_,h=>cases h
 |_=>cases h
def ZG[Ex](s:bx F H)(rx:bA K F x v)(r:aT K F ds vs)(h:PV K F H (uU m x ds) Q):zp K m v vs H Q:=by
 cases x with
 |a o xs=>
  let#[a,us,rfl,h2,h3,h4]:=rx
  match ds,r,h with
  |[y],r,h=>
   let#[u,r',rfl,ry,e]:=r;cases e;cases y<;>first|exact h.elim|skip
   case b k=>
    cases ry;cases m<;>first|exact h.elim|skip
    have h:PV K F H ((R.ab<|mH xs).bind λns=>.cA (decide<|k∈ns)<|.c<|.b<|ns.idxOf k) Q:=h;cases q:mH xs with
    |none=>rw[q]at h;exact h.elim
    |some ns=>
     rw[q]at h;have e:=yK h4 q;subst e;let#[c,h]:=PV.cA h;exact#[ns,Rd.same s h2,aC c,h.ab s #[rfl,rfl]]
  |[],_,h=>cases h
  |_::_::_,_,h=>cases h
 |g o ks xs=>
  let#[a,kvs,rfl,h2,h3,h4,h5]:=rx
  match ds,r,h with
  |[k,y],r,h=>
   let#[u,r',rfl,rk,w,r2,rfl,ry,e]:=r;cases e;cases m<;>first|exact h.elim|skip
   have h:PV K F H (match k_ k with|some k'=>.c (br<|(gq ks xs k').getD y)|none=>.d) Q:=h;cases q:k_ k with
   |none=>rw[q]at h;exact h.elim
   |some k'=>
    have h:PV K F H (.c<|br<|(gq ks xs k').getD y) Q:=by rw[q]at h;exact h
    refine#[kvs,k',.inl<|s _ _ h2,rY rk q,?_];have z:=xD kvs xs k' h5;rw[h4.1]at z;cases e:gq ks xs k' with
    |none=>
     rw[e]at z h;rw[show iC kvs k'=S from z];exact h.here s ry
    |some d=>
     rw[e]at z h;let#[w',w1,w2]:=z;rw[w1];exact h.here s w2
  |[],_,h=>cases h
  |[k],r,h=>
   let#[u,r',rfl,rk,e]:=r;cases e;cases m<;>first|exact h.elim|skip
   have h:PV K F H (match k_ k with|some k'=>.c (br<|(gq ks xs k').getD .h)|none=>.d) Q:=h;cases q:k_ k with
   |none=>rw[q]at h;exact h.elim
   |some k'=>
    have h:PV K F H (.c<|br<|(gq ks xs k').getD .h) Q:=by rw[q]at h;exact h
    refine#[kvs,k',.inl<|s _ _ h2,rY rk q,?_];have z:=xD kvs xs k' h5;rw[h4.1]at z;cases e:gq ks xs k' with
    |none=>
     rw[e]at z h;rw[show iC kvs k'=S from z];exact h.here s rfl
    |some d=>
     rw[e]at z h;let#[w',w1,w2]:=z;rw[w1];exact h.here s w2
  |_::_::_::_,_,h=>cases h
 |_=>cases h
set_option tactic.hygienic false
end
section
variable{K:ao}{Q2:B PG}{Y:B G}
def PV.bind[Ex]{f:D->R D}(h:PV K F H (r.bind f) Q)(k:∀x F1 H1 v,cH F H F1 H1->bA K F1 x v->PV K F1 H1 (f x) Q->Q' v H1):PV K F H r Q':=by
 cases r with
 |c x=>
  intro F1 H1 v fp g fr rx;let#[F2,g2,s2,rf]:=W8 g fr rx;exact k x F2 H1 v g2 rf<|PV.grow h g2
 |d=>cases h
def PB.tU[Ex]{α:Type}{f:D->R α}{Q:α->Hp->Prop}(h:PB K F H (r.bind f) Q)(k:∀x F1 H1 v,cH F H F1 H1->bA K F1 x v->PB K F1 H1 (f x) Q->Q' v H1):PV K F H r Q':=by
 cases r with
 |c x=>
  intro F1 H1 v fp g fr rx;let#[F2,g2,s2,rf]:=W8 g fr rx;exact k x F2 H1 v g2 rf<|PB.grow h g2
 |d=>cases h
def PB.ad[Ex]{α β:Type}{F H:Hp}{r:R β}{f:β->R α}{Q:α->Hp->Prop}{Q':β->Hp->Prop}(h:PB K F H (r.bind f) Q)(k:∀x F1 H1,cH F H F1 H1->PB K F1 H1 (f x) Q->Q' x H1):PB K F H r Q':=by
 cases r with
 |c x=>exact λF1 H1 g=>k x F1 H1 g<|PB.grow h g
 |d=>cases h
def PV.ad[Ex]{β:Type}{r:R β}{f:β->R D}{Q:VK}{Q':β->Hp->Prop}(h:PV K F H (r.bind f) Q)(k:∀x F1 H1,cH F H F1 H1->PV K F1 H1 (f x) Q->Q' x H1):PB K F H r Q':=by
 cases r with
 |c x=>exact λF1 H1 g=>k x F1 H1 g<|PV.grow h g
 |d=>cases h
def Bp.G2[Ex]{f:B D->R D}{Q':B V->Hp->Prop}(h:PV K F H (r.bind f) Q)(k:∀xs F1 H1 vs,cH F H F1 H1->aT K F1 xs vs->PV K F1 H1 (f xs) Q->Q' vs H1):Bp K F H r Q':=by
 cases r with
 |c x=>
  intro F1 H1 v fp g fr rx;let#[F2,g2,s2,rf]:=Rt g fr rx;exact k x F2 H1 v g2 rf<|PV.grow h g2
 |d=>cases h
def PB.ab[Ex]{α:Type}{f:B D->R α}{Q:α->Hp->Prop}{Q':B V->Hp->Prop}(h:PB K F H (r.bind f) Q)(k:∀xs F1 H1 vs,cH F H F1 H1->aT K F1 xs vs->PB K F1 H1 (f xs) Q->Q' vs H1):Bp K F H r Q':=by
 cases r with
 |c x=>
  intro F1 H1 v fp g fr rx;let#[F2,g2,s2,rf]:=Rt g fr rx;exact k x F2 H1 v g2 rf<|PB.grow h g2
 |d=>cases h
def PV.Xc[Ex](h:PV K F H (.c<|.a L ds) Q)(g:cH F H F1 H1)(fr:ju fp H F1)(r:aY K H1 F1 ds vs fp)(hl:zl vs<=aj)(hp:H1 p=S):Q (.a p) (upd H1 p<|.a vs):=by
 let#[g2,hf]:=newList (vs:=vs) g.s hp;have np:p∉fp:=λz=>by
  let#[o,e,_]:=aY.ex ds vs fp r p z;rw[hp]at e;cases e
 refine h F1 _ (.a p) (p::fp) (g.trans g2) #[b9.mpr #[np,fr.nd],?_,?_] ?_
 .intro a ha;rcases aO.mp ha with rfl|ha
  .exact bx.none g.h hp
  .exact fr.nh a ha
 .intro a ha;rcases aO.mp ha with rfl|ha
  .exact hf
  .exact fr.nf a ha
 .unfold bT;rw[aH rfl];exact#[p,vs,fp,rfl,bZ,hl,aY.ac (bx.refl _) ds vs fp (λa ha=>bg λz=>np (by rw[<-z];exact ha)) r,rfl]
def PV.ar[Ex](h:PV K F H (.c<|.d ds) Q)(g:cH F H F1 H1)(fr:ju fp H F1)(r:aY K H1 F1 ds vs fp)(hl:zl vs<=aj)(hp:H1 p=S):Q (.a p) (upd H1 p<|.b vs):=by
 have g2:=GY (o:=.b vs) g.s hp;have np:p∉fp:=λz=>by
  let#[o,e,_]:=aY.ex ds vs fp r p z;rw[hp]at e;cases e
 refine h _ _ (.a p) fp (g.trans g2) #[fr.nd,fr.nh,λa ha=>?_] ?_
 .rw[bg λz=>np<|by simp_all];exact fr.nf a ha
 .exact#[p,vs,rfl,bZ,hl,aY.ac g2.f ds vs fp (λa ha=>bg λz=>np<|by simp_all) r]
def blD(z:Str):lA K F (GW z) ((TX z).map .v):=by
 unfold GW TX;have hs:=szl;induction z.cps.toList with
 |nil=>exact rfl
 |cons c r ih=>exact#[_,_,rfl,#[rfl,by show(1:Nat)<=_;lia],ih]
theorem Co:∀{ds:B D}{vs:B V},aT K F ds vs->lA K F (aD ds) (vs.map .v)
|[],_,h=>by cases h;exact rfl
|d::ds,_,h=>by
 let#[v,r,rfl,h2,h3]:=h;exact#[_,_,rfl,(bA.br d v).mpr h2,Co h3]
theorem PU:∀{ds es:B D}{xs ys:B R6},lA K F ds xs->lA K F es ys->lA K F (ds++es) (xs++ys)
|[],_,_,_,h,h'=>by cases h;exact h'
|d::ds,_,_,_,h,h'=>by
 let#[it,r,rfl,h2,h3]:=h;exact#[_,_,rfl,h2,PU h3 h']
theorem PX:∀{ds:B D}{vs:B V},aT K F ds vs->lA K F (aD ds).reverse (vs.reverse.map .v)
|[],_,h=>by cases h;exact rfl
|d::ds,_,h=>by
 let#[v,r,rfl,h2,h3]:=h;show lA K F (br d::aD ds).reverse _;rw[ic,ic,bl];exact PU (PX h3) #[_,_,rfl,(bA.br d v).mpr h2,rfl]
theorem M8:∀{ds:B D}{vs:B V} (n:Nat),aT K F ds vs->lA K F (iW n<|aD ds) (rF n vs)
|[],_,n,h=>by cases h;exact rfl
|d::ds,_,n,h=>by
 let#[v,r,rfl,h2,h3]:=h;have hs:=szl;exact#[_,_,rfl,#[_,rfl,#[_,_,rfl,rfl,_,_,rfl,(bA.br d v).mpr h2,rfl],by show(2:Nat)<=_;lia],M8 (n+1) h3]
def chT(lo:J)(n:Nat):lA K F (fX lo n) ((bW n).map λ(i:Nat)=>R6.v<|.b<|lo+(i:J)):=by
 unfold fX;induction bW n with
 |nil=>exact rfl
 |cons c r ih=>exact#[_,_,rfl,rfl,ih]
theorem Kh:∀(ds:B D) (n:Nat),zl (iW n ds)=zl ds
|[],n=>rfl
|d::r,n=>by show(iW (n+1) r).length+1=_;rw[Kh r];rfl
theorem lA.ac(e:bx F F'):∀{ds:B D}{its:B R6},lA K F ds its->lA K F' ds its
|[],_,h=>h
|d::ds,_,h=>by
 let#[it,r,h1,h2,h3]:=h;refine#[it,r,h1,?_,lA.ac e h3];cases it with
 |v x=>exact bA.ac e d x h2
 |a xs=>let#[es,q1,q2,q3]:=h2;exact#[es,q1,aT.ac e es xs q2,q3]
def Kl{k:V->Hp->Prop}(s:bx F H)(r:VU K F d it)(h:∀F1 H1 v,cH F H F1 H1->bA K F1 d v->k v H1):Uk it H k:=by
 cases it with
 |v x=>exact h F H x (cH.refl s) r
 |a xs=>
  let#[ds,rfl,r2,r3]:=r;intro p hp;have g:=GY (o:=.b xs) s hp;exact h _ _ _ g #[p,xs,rfl,bZ,r3,aT.ac g.f ds xs r2]
def l_(K:ao)(F:Hp)(U:bw)(O:L2.St):Prop:=∀(i:Nat) d,U[i]?=M (M d)->∃v,O[i]?=M (M v)/\bA K F d v
def l_.ab(h:l_ K F U O)(s:bx F H):lB K F H is U O:=#[λi _ d e=>h i d e,λk d e=>let⟨v,h1,h2⟩:=h k d e;#[v,F,h1,s,h2]]
def l_.ac(h:l_ K F U O)(e:bx F F'):l_ K F' U O:=λi d q=>by
 let#[v,h1,h2]:=h i d q;exact#[v,h1,bA.ac e d v h2]
def l_.set(h:l_ K F U O)(hl:zl U=zl O)(r:bA K F d v):l_ K F (U.set i<|M d) (O.set i<|M v):=λj e q=>by
 by_cases hij:i=j
 .subst hij;rw[j_]at q;by_cases hi:i<zl U
  .simp[hi]at q;subst q;exact#[v,by rw[j_];simp[<-hl,hi],r]
  .simp[hi]at q
 .rw[dw hij]at q;let#[w,h1,h2]:=h j e q;exact#[w,by rw[dw hij];exact h1,h2]
mutual
theorem nt:∀(g:CG) {d:D}{v:V}{U QZ:bw}{O:L2.St}{F H:Hp}{Q:L2.St->Hp->Prop},l_ K F U O->zl U=zl O->bx F H->bA K F d v->pG g d U=.c QZ->(∀σ',l_ K F QZ σ'->zl QZ=zl σ'->Q σ' H)->wG K Y E g v O H Q
|.a i,d,v,U,QZ,O,F,H,Q,a,hl,s,r,e,h=>by
 cases e;exact h _ (a.set hl r)<|by simp[hl]
|.b gs,d,v,U,QZ,O,F,H,Q,a,hl,s,r,e,h=>by
 cases d with
 |d ds=>
  let#[b,vs,rfl,h2,h3,h4]:=r;let#[c,e]:=o_ e;exact#[L,vs,(RS h2).same' s,rfl,by rw[h4.len];exact aC c,Xr gs a hl s h4 e h]
 |_=>cases e
|.c _ _,d,v,U,QZ,O,F,H,Q,a,hl,s,r,e,h=>by cases e
theorem Xr:∀(g:yE) {ds:B D}{vs:B V}{U QZ:bw}{O:L2.St}{F H:Hp}{Q:L2.St->Hp->Prop},l_ K F U O->zl U=zl O->bx F H->aT K F ds vs->Cg g ds U=.c QZ->(∀σ',l_ K F QZ σ'->zl QZ=zl σ'->Q σ' H)->Py K Y E g vs O H Q
|.nil,ds,vs,U,QZ,O,F,H,Q,a,hl,s,r,e,h=>by
 cases ds with
 |nil=>cases r;cases e;exact h O a hl
 |cons d dr=>cases e
|.cons g gr,ds,vs,U,QZ,O,F,H,Q,a,hl,s,r,e,h=>by
 cases ds with
 |nil=>cases e
 |cons d dr=>
  let#[v,vr,rfl,r1,r2]:=r;let#[σ2,e1,e2]:=c6 e;exact nt g a hl s r1 e1 fun σ' a' hl'=>Xr gr a' hl' s r2 e2 h
end
def Km{U:bw}{O:L2.St}{nl:B Str}{fr:B Nat}(h:lB K F H fr U O):l_ K F (nl.map (λ_=>S)++fr.map λi=>U.getD i S) (nl.map (λ_=>S)++fr.map λi=>O.getD i S):=by
 intro i d e;by_cases hi:i<zl nl
 .rw[bJ<|by simpa using hi]at e;rw[aJ]at e;cases q:nl[i]? with
  |none=>rw[q]at e;cases e
  |some x=>rw[q]at e;cases e
 .rw[eG<|by simpa using hi]at e ⊢;simp only[aa,aJ]at e ⊢;cases q:fr[i-zl nl]? with
  |none=>rw[q]at e;cases e
  |some j=>
   rw[q]at e;have e:U.getD j S=M d:=by simpa using e
   have e':U[j]?=M (M d):=by
    rw[aV]at e;cases z:U[j]? with
    |none=>rw[z]at e;cases e
    |some o=>rw[z]at e;simp at e;rw[e]
   let#[v,h1,h2]:=h.e j (dz q) d e';refine#[v,?_,h2];simp[aV,h1]
def chd{U:bw}{O:L2.St}{nl:B Str}{fr:B Nat}:zl (nl.map (λ_=>(S:LD D))++fr.map λi=>U.getD i S)=zl (nl.map (λ_=>(S:LD V))++fr.map λi=>O.getD i S):=by simp
theorem M9[Ex]{E:XK}{tg:CG}{cond:CO}{elt:CE}{k:B V->Hp->Prop}(hc:∀{U:bw}{O:L2.St}{F H:Hp}{Q:Bool->Hp->Prop},l_ K F U O->bx F H->PB K F H (pC Q2 cond U) Q->wC K Y E cond O H Q)(he:∀{U:bw}{O:L2.St}{F H:Hp}{Q:VK},l_ K F U O->bx F H->PV K F H (pE Q2 elt U) Q->wE K Y E elt O H Q)(ok:Hp->Prop)(H0:Hp)(F0:Hp):∀(ds:B D) (its:B R6) (acc:B D) (Sy:B V) (fp:B Addr) (U:bw) (O:L2.St) (F H:Hp),l_ K F U O->zl U=zl O->cH F0 H0 F H->lA K F ds its->(∀Rk,bx F Rk->ok Rk)->zl acc+zl ds<=aj->
  aY K H F acc Sy fp->ju fp H0 F->
  (∀ys,dK (pG tg) (pC Q2 cond) (pE Q2 elt) ds U=.c ys->∀F' H' vs fp',cH F0 H0 F' H'->aY K H' F' (acc++ys) vs fp'->ju fp' H0 F'->k vs H')->(∃ys,dK (pG tg) (pC Q2 cond) (pE Q2 elt) ds U=.c ys)->
  tG ok (wG K Y E tg) (wC K Y E cond) (wE K Y E elt) k its Sy O H
|[],its,acc,Sy,fp,U,O,F,H,a,hl,g,hi,hok,hz,ra,fr,hk,hy=>by
 cases hi;refine#[hok H g.s,hk [] rfl F H Sy fp g (by rw[ee];exact ra) fr]
|d::ds,its,acc,Sy,fp,U,O,F,H,a,hl,g,hi,hok,hz,ra,fr,hk,hy=>by
 let#[it,r,rfl,i1,i2]:=hi;let#[ys,ey]:=hy;let#[σ2,e1,e2]:=c6 ey;let#[b,e3,e4]:=c6 e2;simp only[cX]at hz;refine#[hok H g.s,by rw[ra.len];lia,Kl g.s i1 λF1 H1 v g1 r1=>?_];have Yo:∀{F' H':Hp},cH F H F' H'->aY K H' F' acc Sy fp/\ju fp H0 F':=λg'=>by
  let#[c1,c2]:=adX g' fr ra;exact#[c1,fr.nd,fr.nh,c2]
 refine nt tg (a.ac g1.f) hl g1.s r1 e1 fun σ' a' hl'=>?_;refine hc a' g1.s ?_;rw[e3];intro F2 H2 g2;have TL:=g1.trans g2;have V8:∀{F' H':Hp},cH F H F' H'->∀Rk,bx F' Rk->ok Rk:=λg' Rk s''=>hok Rk<|g'.f.trans s'';cases b with
 |false=>
  rw[aG bY];let#[c1,c2]:=Yo TL;refine M9 hc he ok H0 F0 ds r acc Sy fp σ2 σ' F2 H2 (a'.ac g2.f) hl' (g.trans TL) (lA.ac TL.f i2) (V8 TL) (by lia) c1 c2 (λzs ez=>?_) #[ys,e4];refine hk zs ?_;simp only[dK,e1,R.bind,e3,gg,iN];exact ez
 |true=>
  rw[aH rfl];let#[y,e5,e6]:=c6 e4;let#[zs,e7,e8]:=c6 e6;refine he (a'.ac g2.f) g2.s ?_;rw[e5];intro F3 H3 w f3 g3 U6 r3;have Uy:=TL.trans g3;let#[c1,c2]:=Yo Uy;have hx:∀a∈fp,∃o,H a=M o:=λa ha=>by
   let#[o,e,_]:=aY.ex acc Sy fp ra a ha;exact#[o,e]
  have UP:=ju.ad g.h fr hx c2.nf #[U6.nd,λa ha=>bx.none TL.h<|U6.nh a ha,U6.nf];refine M9 hc he ok H0 F0 ds r (acc++[y]) (Sy++[w]) (fp++f3) σ2 σ' F3 H3 (a'.ac<|g2.f.trans g3.f) hl' (g.trans Uy) (lA.ac Uy.f i2) (V8 Uy) (by simp;lia) (aY.ad c1<|aY.one r3) UP (λzs' ez=>?_) #[zs,e7];rw[bE];refine hk (y::zs') ?_;simp only[dK,e1,R.bind,e3,e5,ez,kF]
theorem G3:∀{ds:B D}{vs:B V}{fp:B Addr}{k:B Key},aY K H F ds vs fp->rG ds=M k->vs=k.map kV
|[],_,_,_,h,e=>by cases e;exact h.1
|d::ds,_,_,k,h,e=>by
 let#[v,r,f1,f2,rfl,_,h1,h2]:=h;unfold rG at e;cases hk:k_ d with
 |none=>rw[hk]at e;cases e
 |some q=>
  rw[hk]at e;cases hr:rG ds with
  |none=>rw[hr]at e;cases e
  |some qs=>
   rw[hr]at e;cases e;rw[G3 h2 hr];cases d<;>first|(cases hk;done)|skip
   .cases hk;rw[h1.1];rfl
   .cases hk;rw[h1.1.1];rfl
theorem Kn:∀is:B Nat,aY K H F (is.map λ(i:Nat)=>D.b (i:J)) (is.map λ(i:Nat)=>V.b (i:J)) []
|[]=>#[rfl,rfl]
|_::r=>#[_,_,[],[],rfl,rfl,#[rfl,rfl],Kn r]
def l_.cons{F:Hp}{U:bw}{O:L2.St}{d:D}{v:V}(h:l_ K F U O)(r:bA K F d v):l_ K F (M d::U) (M v::O):=λj e q=>by
 cases j with
 |zero=>simp_all
 |succ j=>exact h j e q
def cH.code(s:bx F H)(h:H2=H\/∃c oc P,H c=S/\H2=upd H c (.f oc<|.d P)):cH F H F H2:=by
 rcases h with rfl|⟨c,oc,P,hc,rfl⟩
 .exact cH.refl s
 .let#[g,_]:=newList (vs:=[]) s hc;exact g
theorem ZH[Ex]{E:XK}{body:CE}{k:B (Addr×B Key)->Hp->Prop}{W0:bw}{cs:L2.St}(he:∀{U:bw}{O:L2.St}{F H:Hp}{Q:VK},l_ K F U O->bx F H->PV K F H (pE Q2 body U) Q->wE K Y E body O H Q)(H0:Hp)(F0:Hp):∀(m i:Nat) (ks:B<|Addr×B Key) (F H:Hp),l_ K F W0 cs->cH F0 H0 F H->(∀p∈ks,H p.1=M (.b<|p.2.map kV))->
  (∀kss,yI (pE Q2 body) W0 m i=.c kss->∀F' H' ks',cH F0 H0 F' H'->ks'.map (·.2)=ks.map (·.2)++kss->(∀p∈ks',H' p.1=M (.b<|p.2.map kV))->k ks' H')->(∃kss,yI (pE Q2 body) W0 m i=.c kss)->
  Q5 (wE K Y E body) cs k m i ks H
|0,i,ks,F,H,a,g,hp,hk,_=>hk [] rfl F H ks g (by simp) hp
|m+1,i,ks,F,H,a,g,hp,hk,hy=>by
 let#[kss,ey]:=hy;let#[d,e1,e2]:=c6 ey;let#[kk,e3,e4]:=c6 e2;let#[r,e5,e6]:=c6 e4;refine he (a.cons (d:=.b (i:J)) rfl) g.s ?_;rw[e1];intro F1 H1 v fp g1 S5 r1;have Si:iD d=M kk:=by
  cases q:iD d with
  |none=>rw[q]at e3;cases e3
  |some z=>rw[q]at e3;cases e3;rfl
 have hb:∃b,v=.a b/\H1 b=M (.b<|kk.map kV):=by
  cases d<;>first|(cases Si;done)|skip
  let#[b,vs,rfl,hb,_,hr]:=r1;exact#[b,rfl,by rw[g1.s _ _ hb,G3 hr Si]]
 let#[b,rfl,hb]:=hb;refine#[b,kk,rfl,ZH he H0 F0 m (i+1) _ F1 H1 (a.ac g1.f) (g.trans g1) (λp Sl=>?_) (λzs ez F' H' ks' g' e' Sl=>hk (kk::zs) ?_ F' H' ks' g' ?_ Sl) #[r,e5]]
 .rcases bh.mp Sl with z|z
  .exact g1.h _ _ (hp p z)
  .rw[aK.mp z];exact hb
 .simp only[yI,e1,R.bind,R.ab,Si,ez]
 .rw[e'];simp
end
section
variable{K:ao}{Q2:B PG}{Y:B G}
mutual
theorem PY:∀d:D,br (br d)=br d
|.h=>rfl
|.e _=>rfl
|.b _=>rfl
|.c _=>rfl
|.a o xs=>by show D.a W (aD<|aD xs)=_;rw[jI xs];rfl
|.d xs=>by show D.d (aD<|aD xs)=_;rw[jI xs];rfl
|.g o ks xs=>by show D.g W ks (aD<|aD xs)=_;rw[jI xs];rfl
|.f o ks xs=>by show D.f W ks (aD<|aD xs)=_;rw[jI xs];rfl
|.i o C ks xs=>by show D.i W C ks (aD<|aD xs)=_;rw[jI xs];rfl
theorem jI:∀ds:B D,aD (aD ds)=aD ds
|[]=>rfl
|d::r=>by show br (br d)::aD (aD r)=_;rw[PY d,jI r];rfl
end
def PV.ac[Ex](h:PV K F H r Q):∃d,r=.c d:=h.some
def S_.ac[Ex]{k:(Hp->Prop)->B R6->Hp->Prop}(h:S_ K A F H r k):∃d,r=.c d:=by
 cases r with
 |c d=>exact#[d,rfl]
 |d=>cases h
def PB.ac[Ex]{α:Type}{F H:Hp}{r:R α}{Q:α->Hp->Prop}(h:PB K F H r Q):∃d,r=.c d:=by
 cases r with
 |c d=>exact#[d,rfl]
 |d=>cases h
def DT{α:Type}{r:R α}{a:α}(h:r.uS=.c a):r=.c a:=by
 cases r with
 |c b=>exact h
 |d=>cases h
theorem M_:∀{fs:B<|Str×V}{ds:B D}{f:Str}{d:D},Rr (fs.map (·.1)) ds f=M d->aT K F ds (fs.map (·.2))->∃w,fs.lookup f=M w/\bA K F d w
|[],ds,f,d,e,h=>by cases ds<;>cases e
|(k,v)::r,[],f,d,e,h=>by cases e
|(k,v)::r,y::ds,f,d,e,h=>by
 let#[v',r',e1,h2,h3]:=h;cases e1;have e:(if f=k then M y else Rr (r.map (·.1)) ds f)=M d:=e;by_cases c:f=k
 .rw[aH c]at e;cases e;exact#[v,by simp[oG,c],h2]
 .rw[aG c]at e;let#[w,w1,w2]:=M_ e h3;have hb:=dM.mpr c;exact#[w,by simp only[oG,hb];exact w1,w2]
def afP[Ex](hΓ:gC K Q2 Y)(s:bx F H)(r:bA K F x v)(h:PV K F H (rW Q2 g f x) Q):MK Y g f v H Q:=by
 let#[y,e]:=h.ac;rw[e]at h;unfold rW at e;unfold MK;cases z:Q2[g]? with
 |none=>rw[z]at e;cases e
 |some p=>
  let#[g',e1,e2]:=hΓ.get g z;rw[z]at e;rw[e1];cases p<;>first|cases e|skip
  .cases g'<;>first|exact e2.elim|skip
   let#[rfl,rfl]:=e2;cases x<;>first|cases e|skip
   let#[a,dx,fs,rfl,h2,h3,h4,h5]:=r;let#[c,e]:=o_ e;let#[y',e3,e4]:=c6 e;cases e4;simp only[cG,eS]at c;let#[rfl,c2]:=c;let#[w,k1,k2]:=M_ (by rw[h4.1];exact xE e3) h5;exact#[dx,fs,w,s _ _ h2.1,c2,k1,h.here s k2]
def bnd{α β γ:Type}(r:R α)(f:α->R β)(g:β->R γ):(r.bind f).bind g=r.bind λx=>(f x).bind g:=by cases r<;>rfl
def PB.ZI[Ex]{F H:Hp}{r:R D}{Q:Bool->Hp->Prop}(h:PB K F H (r.bind lu) Q):PV K F H r (λx H1=>tD K x H1 λb=>Q b H1):=by
 refine h.tU λx F1 H1 v g r hb=>?_;let#[b,e]:=hb.ac;rw[e]at hb;exact Rx g.s r e<|hb F1 H1<|cH.refl g.s
def chs(F:Hp):bx (λ_=>S) F:=λb o h=>by cases h
def ial(r:bA K F x v)(h:vY x=.c ds):zl ds<=aj:=by
 cases x with
 |c z=>cases h;unfold GW;rw[aa,IX];exact r.2
 |a o xs=>cases h;let#[a,vs,_,_,h3,h4]:=r;rw[uV,<-h4.len];exact h3
 |d xs=>cases h;let#[a,vs,_,_,h3,h4]:=r;rw[uV,<-h4.len];exact h3
 |_=>cases h
def afQ{G H:Hp}{k:(Hp->Prop)->B R6->Hp->Prop}(s:bx G H)(r:bA K G x v)(e:vY x=.c ds)(h:∀ok its,(∀Rk,bx G Rk->ok Rk)->lA K G ds its->zl ds<=aj->k ok its H):II K v H k:=by
 have hl:=ial r e;cases x with
 |c z=>cases e;let#[rfl,hz]:=r;exact#[hz,h _ _ (λ_ _=>trivial) (blD z) hl]
 |a o xs=>
  cases e;let#[a,vs,rfl,h2,h3,h4]:=r;exact#[W,vs,(Rd.seq h2).same' s,h _ _ (λ_ s'=>(Rd.seq h2).same' s') (Co h4) hl]
 |d xs=>
  cases e;let#[a,vs,rfl,h2,h3,h4]:=r;exact#[L,vs,(RS h2).same' s,h _ _ (λ_ s'=>(RS h2).same' s') (Co h4) hl]
 |_=>cases e
def afR{k:(Hp->Prop)->B R6->Hp->Prop}(r:aT K F ds vs)(e:FE ds=.c is)(h:∀its,(∀G,lA K G is its)->zl is<=aj->k (λ_=>True) its H):GA vs H k:=by
 have hs:=szl
 match ds,r,e with
 |[x],r,e=>
  let#[v,r',rfl,rx,er]:=r;cases er;cases x with
  |b j=>
   cases rx;let#[c,e2]:=o_ e;cases e2;have c:=aC c;refine#[#[c.1,by omega],h _ (λG=>?_) (by unfold fX;rw[aa,ig];exact c.2)];have q:=chT (K:=K) (F:=G) 0 j.toNat;simpa using q
  |_=>cases e
 |[],_,e=>cases e
 |x::_::_,_,e=>cases x<;>cases e
theorem Ko(i:J):∀l:B Nat,aD (l.map λ(k:Nat)=>D.b<|i+(k:J))=(l.map λ(k:Nat)=>D.b<|i+(k:J))/\aT K F (l.map λ(k:Nat)=>D.b<|i+(k:J)) (l.map λ(k:Nat)=>V.b<|i+(k:J))
|[]=>#[rfl,rfl]
|k::r=>by
 let#[a,b]:=Ko i r;exact#[by show D.b _::aD (r.map λ(k:Nat)=>D.b<|i+(k:J))=_;rw[a];rfl,#[_,_,rfl,rfl,b]]
set_option tactic.hygienic true
def afS[Ex](s:bx F H)(r:aT K F ds vs)(h:PV K F H (IT ds) Q):WA vs H Q:=by
 unfold IT at h;split at h
 .rename_i i j;let#[v,r',rfl,rx,u,r2,rfl,ry,e]:=r;cases e;cases rx;cases ry;let#[c,h]:=PV.cA h;have c:=aC c;let#[e1,e2]:=Ko i<|bW (j-i).toNat;have h:PV K F H (.c<|.d<|aD<|(bW (j-i).toNat).map λ(k:Nat)=>D.b<|i+(k:J)) Q:=by rw[e1];exact h
  exact#[c,λp hp=>h.am s e2 (by rw[aa,ig,cg];omega) hp]
 .exact h.elim
theorem dj{α:Type}(f:α->D)(h:∀a,br (f a)=f a):∀l:B α,aD (l.map f)=l.map f
|[]=>rfl
|a::r=>by show br (f a)::aD (r.map f)=_;rw[h a,dj f h r];rfl
theorem IY:∀(ks:B<|B Key) {F H:Hp}{k:B Addr->Hp->Prop},bx F H->(∀ts F1 H1,cH F H F1 H1->jX F1 ks ts->k ts H1)->zQ ks H k
|[],F,H,k,s,h=>h [] F H (cH.refl s) .nil
|x::ks,F,H,k,s,h=>λp hp=>by
 have hf:=bx.none s hp;have g:cH F H (upd F p<|.b<|x.map kV) (upd H p<|.b<|x.map kV):=by
  refine#[λb u q=>by rw[bg<|cj q hp];exact q,λb u q=>by rw[bg<|cj q hf];exact q,λb u q=>?_,λb o q q'=>?_]
  .by_cases hb:b=p
   .subst hb;rw[bZ]at q ⊢;exact q
   .rw[bg hb]at q ⊢;exact s b u q
  .by_cases hb:b=p
   .subst hb;exact NT.of hp
   .rw[bg hb,q']at q;cases q
 refine IY ks g.s λts F1 H1 g1 ht=>h (p::ts) F1 H1 (g.trans g1)<|.cons (g1.f p _ bZ) ht
theorem Kp:∀{k:B Key},keysOk k=L->aT K F (k.map iR) (k.map kV)
|[],_=>rfl
|x::k,h=>by
 obtain⟨h1,h2⟩:Sg x=L/\keysOk k=L:=by simpa[keysOk]using h
 refine#[_,_,rfl,?_,Kp h2];cases x with
 |inl i=>rfl
 |inr x=>exact#[rfl,aC h1]
theorem Kq:∀{ks:B<|B Key}{ts:B Addr},jX F ks ts->fV ks=L->aT K F (ks.map λk=>.d<|k.map iR) (ts.map V.a)
|_,_,.nil,_=>rfl
|_,_,.cons (a:=k) e r,h=>by
 obtain⟨h1,h2⟩:nW k=L/\fV _=L:=by simpa[fV]using h
 let#[h3,h4]:=nT.mp h1;exact#[_,_,rfl,#[_,_,rfl,e,by rw[aa];exact aC h4,Kp h3],Kq r h2]
def cl'(ks:B<|B Key):aD (ks.map λk=>D.d<|k.map iR)=ks.map λk=>D.d (k.map iR):=by
 induction ks with
 |nil=>rfl
 |cons k ks ih=>
  show br (.d<|k.map iR)::aD _=_::_;rw[ih];congr 1;show D.d (aD _)=_;rw[dj _ λx=>by cases x<;>rfl]
def OP(ks:B<|B Key):bq (ks.map λk=>D.d<|k.map iR)=L:=by
 induction ks with
 |nil=>rfl
 |cons k ks ih=>
  show(bq (k.map iR)&&_)=L;rw[ih,n_];induction k with
  |nil=>rfl
  |cons x k ih2=>
   show(aX (iR x)&&_)=L;rw[ih2];cases x<;>rfl
theorem PZ:∀{ks:B Key}{xs:B D}{kvs:B<|Key×V}{ps:B<|Str×J},AO ks xs=M ps->kvs.map (·.1)=ks->aT K F xs (kvs.map (·.2))->kvs=ps.map λp:Str×J=>(dg p.1,V.b p.2)
|[],[],kvs,ps,h,h1,_=>by
 cases h;cases kvs with
 |nil=>rfl
 |cons _ _=>cases h1
|.inr x::ks,d::xs,kvs,ps,h,h1,h2=>by
 cases d<;>first|(cases h;done)|skip
 cases kvs with
 |nil=>cases h1
 |cons kv kvs=>
  let#[k,v]:=kv;let#[qs,e1,rfl]:=jF.mp h;let#[w,r,e2,e3,e4]:=h2;cases e2;cases h1;cases e3;rw[PZ e1 rfl e4];rfl
|[],_::_,_,_,h,_,_=>by cases h
|.inr _::_,[],_,_,h,_,_=>by cases h
|.inl _::_,_,_,_,h,_,_=>by cases h
theorem Na:∀{ps:B<|Str×J},keysOk (ps.map λp=>(dg p.1:Key))=L->fV (mW ps)=L
|[],_=>rfl
|p::ps,h=>by
 obtain⟨h1,h2⟩:Sg (.inr p.1)=L/\keysOk (ps.map λp=>(dg p.1:Key))=L:=by simpa[keysOk]using h
 have h3:=Na h2;have h4:nW [.inr p.1,.inl p.2]=L:=by
  have:2<=aj:=by rw[cg];lia
  unfold nW keysOk;simp[h1,Sg,this];exact aC h1
 show(nW _&&_)=L;rw[h4];exact h3
def afT[Ex](s:bx F H)(r:bA K F d v)(h:PV K F H (M5 d) Q):WB v H Q:=by
 cases d<;>first|exact h.elim|skip
 rename_i o ks xs;let#[a,kvs,rfl,h1,h2,#[h3,h4],h5]:=r;have h:PV K F H ((R.ab<|AO ks xs).bind λps=>.cA (decide<|zl ps<64)<|.c<|.a L<|p8<|mW ps) Q:=h;cases e:AO ks xs with
 |none=>rw[e]at h;exact h.elim
 |some ps=>
  rw[e]at h;let#[c,h]:=PV.cA h;have ek:=PZ e h3 h5;subst ek;have h64:=aC c;rw[<-h3,bG]at h4;refine#[a,ps,rfl,.inl<|s a _ h1,h64,IY _ s λts F1 H1 g ht p hp=>(h.grow g).sorted g.s (Na h4) ?_ (Paired.imp' (λk t e=>g.s t _ e) ht) hp];unfold abb;rw[cG];refine#[by rw[mW,aa];exact c,bC.mpr λk hk=>?_];rw[cG];refine#[?_,bC.mpr λq hq=>J4 k hk q hq];let#[p,_,rfl]:=bF.mp hk;rfl
theorem Kr:∀{ds:B D}{vs:B V},aT K F ds vs->aT K F ds.reverse vs.reverse
|[],_,h=>by cases h;rfl
|d::ds,_,h=>by
 let#[v,r,rfl,h1,h2]:=h;rw[ic,ic];exact aT.ad (Kr h2) #[v,[],rfl,h1,rfl]
def afU[Ex](s:bx F H)(r:bA K F d v)(h:PV K F H (M6 d) Q):WC v H Q:=by
 cases d<;>first|exact h.elim|skip
 let#[a,vs,rfl,h1,h2,h3]:=r;exact#[a,vs,rfl,Rd.same s h1,λp hp=>PV.ae h s (Kr h3) (by simp_all) hp]
def afV[Ex](s:bx F H)(r:bA K F (.f o ks xs) v)(hk:(ks.all λk=>decide<|zl k=3)=L)(h:PV K F H (.c<|.a L<|IU n ks) Q):Q3 n v H Q:=by
 let#[a,kvs,rfl,h1,h2,#[h3,h4],h5]:=r;have hk':fV (ks.filterMap<|tH n)=L:=bC.mpr λk hk1=>by
  let#[q,hq,e]:=vM.mp hk1;have h6:=bC.mp h4 q hq;let#[x,y,z,rfl]:=Y3<|aC<|bC.mp hk q hq;by_cases c:z=.inl n
  .have e:=(aH c).symm.trans e;cases e;unfold nW keysOk at h6 ⊢;simp at h6 ⊢;have:2<=aj:=by rw[cg];lia
   exact#[#[h6.1.1,h6.1.2.1],this]
  .have e:=(aG c).symm.trans e;cases e
 have hlen:zl (ks.filterMap<|tH n)<=aj:=cu (List.length_filterMap_le _ _) (by rw[<-h3,aa];exact h2);rw[<-h3]at hk hk' hlen;refine#[a,kvs,rfl,s a _ h1,#[h2,by rw[h3];exact h4,λk q=>aC<|bC.mp hk k q],IY _ s λts F1 H1 g ht p hp=>?_];have h6:PV K F H (.c (.a L (aD (((kvs.map (·.1)).filterMap<|tH n).map λk=>D.d<|k.map iR)))) Q:=by rw[cl',h3];exact h
 exact PV.ae (h6.grow g) g.s (Kq ht hk') (by rw[aa,<-Paired.length ht];exact hlen) hp
def UnR:aX (.a L<|IU n ks)=L:=OP _
def QK(h:(a&&b)=L):a=L/\b=L:=by simpa using h
def afW[Ex](h:PV K F H (h_ .a [x]) Q)(s:bx F H):PV K F' H (h_ .a [x]) Q:=by
 cases x<;>first|exact PV.int h s|exact h.elim
def ZJ[Ex](n:W9 K H U O)(s:bx F H)(hl:zm f as=L)(h:PV K F H ((iE Q2 as U).bind λds=>h_ f ds) Q):wEs K Y Ex.E as O H λvs H1=>AF K f vs H1 Q:=by
 cases f<;>first|cases hl;done|skip
 cases as with
 |nil=>cases hl
 |cons a r=>
  cases a<;>first|cases hl;done|skip
  rename_i k;cases r with
  |cons _ _=>cases hl
  |nil=>
  have h:PV K F H (((match U[k]? with
   |some (M d)=>R.c<|br d
   |_=>.d).bind λx=>(R.c []).bind λxs=>.c (x::xs)).bind λds=>h_ .a ds) Q:=h
  show ir O k λv=>AF K .a [v] H Q;unfold ir;cases q:U[k]? with
  |none=>rw[q]at h;exact h.elim
  |some o=>
   cases o with
   |none=>rw[q]at h;exact h.elim
   |some d=>
    rw[q]at h;let#[v,F',h1,h2,h3]:=n k d q;rw[h1];exact Rz h2 (show aT K F' [br d] [v]from#[v,[],rfl,(bA.br d v).mpr h3,rfl]) (afW (show PV K F H (h_ .a [br d]) Q from h) s)
set_option tactic.hygienic false
def Ui(hΓ:gC K Q2 Y)[Ex](hE:∀QA:B V->Hp->Prop,Bp K F H (iE Q2 as U) QA->wEs K Y Ex.E as O H QA)(h:PV K F H (pE Q2 (.e g as) U) Q):wE K Y Ex.E (.e g as) O H Q:=by
 have h:PV K F H (match Q2[g]? with
  |some (.a m RW)=>(iE Q2 as U).bind λds=>m<|aD ds++RW
  |_=>.d) Q:=h
 show(match Y[g]? with
  |some (.a sp QL)=>wEs K Y Ex.E as O H λvs H1=>sp (vs++QL) H1 Q Ex.E
  |_=>bu)
 cases q:Q2[g]? with
 |none=>rw[q]at h;exact h.elim
 |some p=>
  let#[g',e1,e2]:=hΓ.get g q;rw[q]at h;rw[e1];cases p<;>first|exact h.elim|skip
  .rename_i m RW;cases g'<;>first|exact e2.elim|skip
   .rename_i sp QL;refine hE _<|Bp.G2 h λds F1 H1 vs g1 r1 h1=>?_;exact e2.1 _ _ _ _ #[F1,aD ds++RW,g1.s,by rw[rZ,jI,e2.2.1],aT.ad ((aT.aD ds vs).mpr r1)<|aT.ac (chs F1) RW QL e2.2.2,h1]
set_option tactic.hygienic true in
mutual
theorem iF(hΓ:gC K Q2 Y)[Ex]:∀(e:CE) {U:bw}{O:L2.St}{F H:Hp}{Q:VK},lB K F H (cO e) U O->bx F H->fc e=L->PV K F H (pE Q2 e U) Q->wE K Y Ex.E e O H Q
|.a i,U,O,F,H,Q,env,s,lt,h=>by
 have h:PV K F H (match U[i]? with
  |some (M d)=>.c<|br d
  |_=>.d) Q:=h
 show ir O i λv=>Q v H;unfold ir;cases q:U[i]? with
 |none=>rw[q]at h;exact h.elim
 |some o=>
  cases o with
  |none=>rw[q]at h;exact h.elim
  |some d=>
   rw[q]at h;let#[v,h1,h2]:=env.e i (aK.mpr rfl) d q;rw[h1];exact h.here s h2
|.c v,U,O,F,H,Q,env,s,lt,h=>by
 have h:PV K F H (Cf v) Q:=h;show Q v H;unfold Cf at h;cases v<;>first|exact h.elim|exact h.ab s ⟨rfl,rfl⟩|exact h.ab s ⟨⟨rfl,aC lt⟩,rfl⟩
|.g op a b,U,O,F,H,Q,env,s,lt,h=>by
 let#[l1,l2]:=QK lt;refine iF hΓ a env.l s l1 (PV.bind (show PV K F H ((pE Q2 a U).bind λx=>(pE Q2 b U).bind λy=>lq op x y) Q from h) λx F1 H1 v g1 r1 h1=>?_);refine iF hΓ b (env.r.ac g1) g1.s l2<|h1.bind λy F2 H2 u g2 r2 h2=>?_;exact afO g2.s (bA.ac g2.f x v r1) r2 h2
|.y a,U,O,F,H,Q,env,s,lt,h=>by
 refine iF hΓ a env s lt (PV.bind (show PV K F H ((pE Q2 a U).bind λx=>GX x) Q from h) λx F1 H1 v g1 r1 h1=>?_);cases x with
 |a o ds=>
  have h1:PV K F1 H1 (match mH ds with
   |some ss=>.cA (decide<|zl ss<4000)<|.c<|.b<|zl<|wQ ss
   |none=>.d) Q:=h1
  split at h1
  .rename_i ss e1;let#[c,h1]:=PV.cA h1;let#[b,us,rfl,k2,k3,k4]:=r1;have e2:=yK k4 e1;subst e2;exact#[b,ss,rfl,Rd.same g1.s k2,aC c,h1.ab g1.s #[rfl,rfl]]
  .exact h1.elim
 |_=>cases h1
|.p a,U,O,F,H,Q,env,s,lt,h=>by
 refine iF hΓ a env s lt (PV.bind (show PV K F H ((pE Q2 a U).bind λx=>match x with|.b i=>.c (.b<|-i)|_=>.d) Q from h) λx F1 H1 v g1 r1 h1=>?_);cases x with
 |b i=>cases r1;exact h1.ab g1.s #[rfl,rfl]
 |_=>cases h1
|.q a,U,O,F,H,Q,env,s,lt,h=>by
 refine iF hΓ a env s lt (PV.bind (show PV K F H ((pE Q2 a U).bind λx=>(lu x).bind λb=>.c<|.e<|!b) Q from h) λx F1 H1 v g1 r1 h1=>?_);let#[d,e]:=h1.ac;let#[b,e1,e2]:=c6 e;rw[e1]at h1;exact Rx g1.s r1 e1<|h1.ab g1.s #[rfl,rfl]
|.k a b,U,O,F,H,Q,env,s,lt,h=>by
 let#[l1,l2]:=QK lt;refine iF hΓ a env.l s l1 (PV.bind (show PV K F H ((pE Q2 a U).bind λx=>match x with|.e c=>if c=L then pE Q2 b U else .c (.e W)|_=>.d) Q from h) λx F1 H1 v g1 r1 h1=>?_);cases x with
 |e c=>
  cases r1;cases c with
  |true=>exact iF hΓ b (env.r.ac g1) g1.s l2 h1
  |false=>exact h1.ab g1.s #[rfl,rfl]
 |_=>cases h1
|.n a b,U,O,F,H,Q,env,s,lt,h=>by
 let#[l1,l2]:=QK lt;refine iF hΓ a env.l s l1 (PV.bind (show PV K F H ((pE Q2 a U).bind λx=>match x with|.e c=>if c=L then .c (.e L)else pE Q2 b U|_=>.d) Q from h) λx F1 H1 v g1 r1 h1=>?_);cases x with
 |e c=>
  cases r1;cases c with
  |false=>exact iF hΓ b (env.r.ac g1) g1.s l2 h1
  |true=>exact h1.ab g1.s #[rfl,rfl]
 |_=>cases h1
|.r c a b,U,O,F,H,Q,env,s,lt,h=>by
 let#[l1,l2]:=QK lt;let#[l2,l3]:=QK l2;refine Cp hΓ c env.l s l1 (PV.ad (K:=K) (show PV K F H ((pT Q2 c U).bind λk=>if k=L then pE Q2 a U else pE Q2 b U) Q from h) λk F1 H1 g1 h1=>?_);cases k with
 |true=>exact iF hΓ a (env.r.l.ac g1) g1.s l2 h1
 |false=>exact iF hΓ b (env.r.r.ac g1) g1.s l3 h1
|.d op a b,U,O,F,H,Q,env,s,lt,h=>by
 let#[l1,l2]:=QK lt;refine iF hΓ a env.l s l1 (PV.bind (show PV K F H ((pE Q2 a U).bind λx=>(pE Q2 b U).bind λy=>dO op x y) Q from h) λx F1 H1 v g1 r1 h1=>?_);refine iF hΓ b (env.r.ac g1) g1.s l2<|h1.bind λy F2 H2 u g2 r2 h2=>?_;exact DS g2.s (bA.ac g2.f x v r1) r2 h2
|.s o1 o2 a b c,U,O,F,H,Q,env,s,lt,h=>by
 let#[l1,l2]:=QK lt;let#[l2,l3]:=QK l2;refine iF hΓ a env.l s l1 (PV.bind (show PV K F H ((pE Q2 a U).bind λx=>(pE Q2 b U).bind λy=>(dO o1 x y).bind λz=>match z with|.e k=>if k=L then(pE Q2 c U).bind λu=>dO o2 y u else .c (.e W)|_=>.d) Q from h) λx F1 H1 v g1 r1 h1=>?_);refine iF hΓ b (env.r.l.ac g1) g1.s l2<|h1.bind λy F2 H2 u g2 r2 h2=>?_;refine DS g2.s (bA.ac g2.f x v r1) r2<|h2.bind λz F3 H3 w g3 r3 h3=>?_;cases z with
 |e k=>
  cases r3;cases k with
  |true=>exact iF hΓ c (env.r.r.ac<|g1.trans<|g2.trans g3) g3.s l3 (PV.bind (show PV K F3 H3 ((pE Q2 c U).bind λu=>dO o2 y u) Q from h3) λz F4 H4 w g4 r4 h4=>DS g4.s (bA.ac (g3.f.trans g4.f) y u r2) r4 h4)
  |false=>exact h3.ab g3.s #[rfl,rfl]
 |_=>cases h3
|.e g as,U,O,F,H,Q,env,s,lt,h=>Ui hΓ (λ_ h=>xF hΓ as env s lt h) h
|.h f as,U,O,F,H,Q,env,s,lt,h=>by
 by_cases hl:zm f as=L
 .exact ZJ env.n s hl h
 have env:lB K F H (ly as) U O:=by
  have e:lB K F H (if zm f as=L then[]else ly as) U O:=env;rw[aG hl]at e;exact e
 refine xF hΓ as env s lt (Bp.G2 (show PV K F H ((iE Q2 as U).bind λds=>h_ f ds) Q from h) λds F1 H1 vs g1 r1 h1=>Rz g1.s r1 h1)
|.l m o as,U,O,F,H,Q,env,s,lt,h=>by
 let#[l1,l2]:=QK lt;refine iF hΓ o env.l s l1 (PV.bind (show PV K F H ((pE Q2 o U).bind λx=>(iE Q2 as U).uS.bind λds=>uU m x ds) Q from h) λx F1 H1 v g1 r1 h1=>?_);let#[d,e]:=h1.ac;let#[ds,e1,e2]:=c6 e;have W1:=DT e1;rw[e1,<-W1]at h1;refine#[Ub g1.s r1 e2,xF hΓ as (env.r.ac g1) g1.s l2<|Bp.G2 h1 λds F2 H2 vs g2 r2 h2=>?_];exact ZG g2.s (bA.ac g2.f x v r1) r2 h2
|.b a b,U,O,F,H,Q,env,s,lt,h=>by
 let#[l1,l2]:=QK lt;refine iF hΓ a env.l s l1 (PV.bind (show PV K F H ((pE Q2 a U).bind λx=>(pE Q2 b U).bind λy=>g_ x y) Q from h) λx F1 H1 v g1 r1 h1=>?_);refine iF hΓ b (env.r.ac g1) g1.s l2<|h1.bind λy F2 H2 u g2 r2 h2=>?_;exact Y6 g2.s (bA.ac g2.f x v r1) r2 h2
|.m a lo hi,U,O,F,H,Q,env,s,lt,h=>by
 let#[l1,l2]:=QK lt;let#[l2,l3]:=QK l2;refine iF hΓ a env.l s l1 (PV.bind (show PV K F H ((pE Q2 a U).bind λx=>(pO Q2 lo U).bind λl=>(pO Q2 hi U).bind λh=>J7 x l h) Q from h) λx F1 H1 v g1 r1 h1=>?_);refine oz hΓ lo (env.r.l.ac g1) g1.s l2<|h1.ad λl F2 H2 g2 h2=>?_;refine oz hΓ hi (env.r.r.ac<|g1.trans g2) g2.s l3<|h2.ad λl' F3 H3 g3 h3=>?_;exact okSl g3.s (bA.ac (g2.f.trans g3.f) x v r1) h3
|.i as,U,O,F,H,Q,env,s,lt,h=>by
 have h:PV K F H ((iE Q2 as U).bind λds=>.cA (decide<|zl ds<=aj)<|.c<|.a L ds) Q:=h;refine xF hΓ as env s lt ?_;cases e1:iE Q2 as U with
 |d=>rw[e1]at h;exact h.elim
 |c ds=>
 rw[e1]at h;let#[c,h]:=PV.cA h;intro F1 H1 vs fp g fr r;have hl:zl vs<=aj:=by rw[r.len];exact aC c
 exact#[hl,λp hp=>h.Xc g fr r hl hp]
|.f as,U,O,F,H,Q,env,s,lt,h=>by
 have h:PV K F H ((iE Q2 as U).bind λds=>.cA (decide<|zl ds<=aj)<|.c<|.d ds) Q:=h;refine xF hΓ as env s lt ?_;cases e1:iE Q2 as U with
 |d=>rw[e1]at h;exact h.elim
 |c ds=>
 rw[e1]at h;let#[c,h]:=PV.cA h;intro F1 H1 vs fp g fr r;have hl:zl vs<=aj:=by rw[r.len];exact aC c
 exact#[hl,λp hp=>h.ar g fr r hl hp]
|.x g fr n body,U,O,F,H,Q,env,s,lt,h=>by
 let#[l1,l2]:=QK lt;have h:PV K F H (IV Q2 g (pE Q2 n U) (pE Q2 body)<|fr.map λi=>U.getD i S) Q:=h;unfold IV at h;cases eg:Q2[g]? with
 |none=>rw[eg]at h;exact h.elim
 |some p=>
 rw[eg]at h;cases p<;>first|exact h.elim|skip
 let#[g',e1,e2]:=hΓ.get g eg;cases g'<;>first|exact e2.elim|skip
 show(match Y[g]? with
  |some (.b _)=>Q6 (wE K Y Ex.E n) (wE K Y E0 body) fr O H Q
  |_=>bu)
 rw[e1];refine iF hΓ n env.l s l1<|PV.bind h λd F1 H1 v g1 r1 h1=>?_;cases ed:W7 d with
 |none=>rw[ed]at h1;exact h1.elim
 |some k=>
 rw[ed]at h1;have h1:PV K F1 H1 ((yI (pE Q2 body) (fr.map λi=>U.getD i S) k 0).uS.bind λkss=>.cA (L2.abb kss)<|.c<|.a L<|(L2.dX kss).map λ(i:Nat)=>D.b (i:J)) Q:=h1;have hv:v=.b (k:J)/\k<64:=by
  cases d<;>first|(cases ed;done)|skip
  rename_i i;have ed:(if 0<=i/\i<64 then M i.toNat else S)=M k:=ed;split at ed
  .rename_i hi;cases ed;refine#[?_,by omega];rw[show((i.toNat:Nat):J)=i by omega];exact r1
  .cases ed
 refine#[k,hv.1,hv.2,λH2 hH=>?_];have g2:cH F1 H1 F1 H2:=cH.code g1.s hH;let#[d',e]:=h1.ac;let#[kss,e3,e4]:=c6 e;rw[e]at h1;replace e3:=DT e3;let#[hs,e5]:=o_ e4;cases e5;refine@ZH K Q2 Y ⟨E0⟩ E0 body _ _ _ (λa s' hv=>@iF hΓ ⟨E0⟩ body _ _ _ _ _ (a.ab s') s' l2 hv) H1 F1 k 0 [] F1 H2 (Km (nl:=[])<|env.r.ac g1) g2 (λ_ z=>aI z aF) (λzs ez F' H' ks' g' e' hp=>?_) #[kss,e3];replace ez:yI (pE Q2 body) (fr.map λi=>U.getD i S) k 0=.c zs:=ez;rw[e3]at ez;cases ez;rw[dZ,lY]at e';refine#[#[hp,by rw[e'];exact hs],λp hn=>?_];rw[e'];refine h1.Xc g' #[.nil,(λ_ z=>nomatch z),(λ_ z=>nomatch z)] (Kn _) ?_ hn;rw[aa];unfold L2.dX;rw[oA,cg];have:=(oB hs).1;omega
|.u a,U,O,F,H,Q,env,s,lt,h=>
 iF hΓ a env s lt (PV.bind (show PV K F H ((pE Q2 a U).bind λx=>M5 x) Q from h) λx F1 H1 v g1 r1 h1=>afT g1.s r1 h1)
|.v a,U,O,F,H,Q,env,s,lt,h=>
 iF hΓ a env s lt (PV.bind (show PV K F H ((pE Q2 a U).bind λx=>M6 x) Q from h) λx F1 H1 v g1 r1 h1=>afU g1.s r1 h1)
|.w as,U,O,F,H,Q,env,s,lt,h=>
 xF hΓ as env s lt (Bp.G2 (show PV K F H ((iE Q2 as U).bind λds=>IT ds) Q from h) λds F1 H1 vs g1 r1 h1=>afS g1.s r1 h1)
|.t,U,O,F,H,Q,env,s,lt,h=>by
 intro p hp;have h:PV K F H (.c<|.f L [] []) Q:=h;let#[g,hf]:=newList (vs:=[]) (o:=.c []) s hp;refine h F _ (.a p) [p] g #[by simp,?_,?_] ?_
 .intro a ha;rw[aK.mp ha];exact hp
 .intro a ha;rw[aK.mp ha];exact hf
 .unfold bT;rw[aH rfl];exact#[p,[],[],rfl,bZ,cN _,#[rfl,rfl],#[rfl,rfl],rfl]
|.z,U,O,F,H,Q,env,s,lt,h=>by
 intro p hp;have h:PV K F H (.c<|.g L [] []) Q:=h;let#[g,hf]:=newList (vs:=[]) (o:=.e []) s hp;refine h F _ (.a p) [p] g #[by simp,?_,?_] ?_
 .intro a ha;rw[aK.mp ha];exact hp
 .intro a ha;rw[aK.mp ha];exact hf
 .unfold bT;rw[aH rfl];exact#[p,[],[],rfl,bZ,cN _,#[rfl,rfl],#[rfl,rfl],rfl]
|.j nl fr elt tg src cond,U,O,F,H,Q,env,s,lt,h=>by
 let#[l1,l2]:=QK lt;let#[l2,l3]:=QK l2;have h:PV K F H ((pI Q2 src U).bind λitems=>(dK (pG tg) (pC Q2 cond) (pE Q2 elt) items.2<|nl.map (λ_=>S)++fr.map λi=>U.getD i S).uS.bind λds=>.c<|.a L ds) Q:=h;refine oi hΓ src [] env.l s (λ_ h=>aI h aF) l2 ?_;cases e1:pI Q2 src U with
 |d=>rw[e1]at h;exact h.elim
 |c items=>
 rw[e1]at h;have h:PV K F H ((dK (pG tg) (pC Q2 cond) (pE Q2 elt) items.2<|nl.map (λ_=>S)++fr.map λi=>U.getD i S).uS.bind λds=>.c<|.a L ds) Q:=h;let#[d,e]:=h.ac;let#[ys,e3,e4]:=c6 e;rw[e]at h;cases e4;replace e3:=DT e3;intro F1 H1 ok its g1 hok hi hl;rw[adq]at hok hi;refine@M9 K Q2 Y ⟨E0⟩ E0 tg cond elt _ (λa s' hb=>@hvis hΓ ⟨E0⟩ cond _ _ _ _ _ (a.ab s') s' l3 hb) (λa s' hv=>@iF hΓ ⟨E0⟩ elt _ _ _ _ _ (a.ab s') s' l1 hv) ok H1 F1 items.2 its [] [] [] _ _ F1 H1 (Km<|env.r.ac g1) chd (cH.refl g1.s) hi hok (by simpa using hl) #[rfl,rfl] .nil (λzs ez F' H' vs fp' g' r' UP p hp=>?_) #[ys,e3];rw[e3]at ez;cases ez;have hz:zl vs<=aj:=by
  rw[r'.len,lY];have:∀(ds:B D) (U:bw) (ys:B D),dK (pG tg) (pC Q2 cond) (pE Q2 elt) ds U=.c ys->zl ys<=zl ds:=by
   intro ds;induction ds with
   |nil=>intro U ys h;cases h;exact aM _
   |cons d ds ih=>
    intro U ys h;let#[σ2,i1,i2]:=c6 h;let#[b,i3,i4]:=c6 i2;cases b with
    |false=>have:=ih σ2 ys i4;simp;omega
    |true=>
     let#[y,i5,st5]:=c6 (show((pE Q2 elt σ2).bind λy=>(dK (pG tg) (pC Q2 cond) (pE Q2 elt) ds σ2).bind λys=>.c (y::ys))=.c ys from i4);let#[zs,sz2,szd]:=c6 st5;cases szd;have:=ih σ2 zs sz2;simp;omega
  have:=this items.2 _ ys e3;omega
 refine h.Xc (g1.trans g') #[UP.nd,λa ha=>bx.none g1.h<|UP.nh a ha,UP.nf] r' hz hp
|.o g a f,U,O,F,H,Q,env,s,lt,h=>by
 exact iF hΓ a env s lt (PV.bind (show PV K F H ((pE Q2 a U).bind λx=>rW Q2 g f x) Q from h) λx F1 H1 v g1 r1 h1=>afP hΓ g1.s r1 h1)
theorem Cp(hΓ:gC K Q2 Y)[Ex]:∀(e:CE) {U:bw}{O:L2.St}{F H:Hp}{Q:Bool->Hp->Prop},lB K F H (cO e) U O->bx F H->fc e=L->PB K F H (pT Q2 e U) Q->wT K Y Ex.E e O H Q
|.q a,U,O,F,H,Q,env,s,lt,h=>by
 exact Cp hΓ a env s lt (PB.ad (show PB K F H ((pT Q2 a U).bind λb=>.c<|!b) Q from h) λb F1 H1 g1 h1=>h1 F1 H1<|cH.refl g1.s)
|.k a b,U,O,F,H,Q,env,s,lt,h=>by
 let#[l1,l2]:=QK lt;refine Cp hΓ a env.l s l1 (PB.ad (show PB K F H ((pT Q2 a U).bind λc=>if c=L then pT Q2 b U else .c W) Q from h) λc F1 H1 g1 h1=>?_);cases c with
 |true=>exact Cp hΓ b (env.r.ac g1) g1.s l2 h1
 |false=>exact h1 F1 H1<|cH.refl g1.s
|.n a b,U,O,F,H,Q,env,s,lt,h=>by
 let#[l1,l2]:=QK lt;refine Cp hΓ a env.l s l1 (PB.ad (show PB K F H ((pT Q2 a U).bind λc=>if c=L then .c L else pT Q2 b U) Q from h) λc F1 H1 g1 h1=>?_);cases c with
 |false=>exact Cp hΓ b (env.r.ac g1) g1.s l2 h1
 |true=>exact h1 F1 H1<|cH.refl g1.s
|.r c a b,U,O,F,H,Q,env,s,lt,h=>by
 let#[l1,l2]:=QK lt;let#[l2,l3]:=QK l2;refine Cp hΓ c env.l s l1 (PB.ad (show PB K F H ((pT Q2 c U).bind λk=>if k=L then pT Q2 a U else pT Q2 b U) Q from h) λk F1 H1 g1 h1=>?_);cases k with
 |true=>exact Cp hΓ a (env.r.l.ac g1) g1.s l2 h1
 |false=>exact Cp hΓ b (env.r.r.ac g1) g1.s l3 h1
|.d op a b,U,O,F,H,Q,env,s,lt,h=>by
 let#[l1,l2]:=QK lt;refine iF hΓ a env.l s l1 (PB.tU (show PB K F H ((pE Q2 a U).bind λx=>(pE Q2 b U).bind λy=>(dO op x y).bind λz=>match z with|.e k=>.c k|_=>.d) Q from h) λx F1 H1 v g1 r1 h1=>?_);refine iF hΓ b (env.r.ac g1) g1.s l2<|h1.tU λy F2 H2 u g2 r2 h2=>?_;refine DS g2.s (bA.ac g2.f x v r1) r2<|h2.tU λz F3 H3 w g3 r3 h3=>?_;cases z with
 |e k=>cases r3;exact h3 F3 H3<|cH.refl g3.s
 |_=>cases h3
|.s o1 o2 a b c,U,O,F,H,Q,env,s,lt,h=>by
 let#[l1,l2]:=QK lt;let#[l2,l3]:=QK l2;refine iF hΓ a env.l s l1 (PB.tU (show PB K F H ((pE Q2 a U).bind λx=>(pE Q2 b U).bind λy=>(dO o1 x y).bind λz=>match z with|.e k=>if k=L then(pE Q2 c U).bind λu=>(dO o2 y u).bind λz=>match z with|.e k=>.c k|_=>.d else .c W|_=>.d) Q from h) λx F1 H1 v g1 r1 h1=>?_);refine iF hΓ b (env.r.l.ac g1) g1.s l2<|h1.tU λy F2 H2 u g2 r2 h2=>?_;refine DS g2.s (bA.ac g2.f x v r1) r2<|h2.tU λz F3 H3 w g3 r3 h3=>?_;cases z with
 |e k=>
  cases r3;cases k with
  |true=>
   refine iF hΓ c (env.r.r.ac<|g1.trans<|g2.trans g3) g3.s l3 (PB.tU (show PB K F3 H3 ((pE Q2 c U).bind λu=>(dO o2 y u).bind λz=>match z with|.e k=>.c k|_=>.d) Q from h3) λz F4 H4 w g4 r4 h4=>?_);refine DS g4.s (bA.ac (g3.f.trans g4.f) y u r2) r4<|h4.tU λz F5 H5 w g5 r5 h5=>?_;cases z with
   |e k=>cases r5;exact h5 F5 H5<|cH.refl g5.s
   |_=>cases h5
  |false=>exact h3 F3 H3<|cH.refl g3.s
 |_=>cases h3
|.a i,U,O,F,H,Q,env,s,lt,h=>by
 have h:PB K F H (match U[i]? with
  |some (M d)=>lu d
  |_=>.d) Q:=h
 show ir O i λv=>tD K v H λb=>Q b H;unfold ir;cases q:U[i]? with
 |none=>rw[q]at h;exact h.elim
 |some o=>
  cases o with
  |none=>rw[q]at h;exact h.elim
  |some d=>
   rw[q]at h;let#[v,h1,h2]:=env.e i (aK.mpr rfl) d q;rw[h1];let#[b,e]:=h.ac;rw[e]at h;exact Rx s h2 e<|h F H<|cH.refl s
|.e g as,U,O,F,H,Q,env,s,lt,h=>by
 rw[PM];have h':PB K F H ((pE Q2 (.e g as) U).bind lu) Q:=by
  revert h;show PB K F H (match Q2[g]? with
   |some (.a m RW)=>((iE Q2 as U).bind λds=>m<|aD ds++RW).bind lu
   |_=>.d) Q->PB K F H ((match Q2[g]? with
   |some (.a m RW)=>(iE Q2 as U).bind λds=>m<|aD ds++RW
   |_=>.d).bind lu) Q
  cases Q2[g]? with
  |none=>exact λh=>h
  |some p=>cases p<;>exact λh=>h
 have hv:=PB.ZI (K:=K) h';exact Ui hΓ (λ_ h=>xF hΓ as env s lt h) hv
|.h f as,U,O,F,H,Q,env,s,lt,h=>by
 have hv:=PB.ZI (K:=K) (show PB K F H (((iE Q2 as U).bind λds=>h_ f ds).bind lu) Q from h);by_cases hl:zm f as=L
 .exact ZJ (Q:=λx H2=>tD K x H2 λb=>Q b H2) env.n s hl hv
 have env:lB K F H (ly as) U O:=by
  have e:lB K F H (if zm f as=L then[]else ly as) U O:=env;rw[aG hl]at e;exact e
 exact xF hΓ as env s lt<|Bp.G2 hv λds F1 H1 vs g1 r1 h1=>Rz g1.s r1 h1
|.l m o as,U,O,F,H,Q,env,s,lt,h=>by
 let#[l1,l2]:=QK lt;refine iF hΓ o env.l s l1 (PB.tU (show PB K F H ((pE Q2 o U).bind λx=>(iE Q2 as U).uS.bind λds=>(uU m x ds).bind lu) Q from h) λx F1 H1 v g1 r1 h1=>?_);let#[d,e]:=h1.ac;let#[ds,e1,e2]:=c6 e;have W1:=DT e1;rw[e1,<-W1]at h1;let#[d',e3,e4]:=c6 e2;refine#[Ub g1.s r1 e3,xF hΓ as (env.r.ac g1) g1.s l2<|PB.ab h1 λds F2 H2 vs g2 r2 h2=>?_];exact ZG g2.s (bA.ac g2.f x v r1) r2<|PB.ZI h2
|.c v,U,O,F,H,Q,env,s,lt,h=>h.elim
|.g op a b,U,O,F,H,Q,env,s,lt,h=>h.elim
|.y a,U,O,F,H,Q,env,s,lt,h=>h.elim
|.p a,U,O,F,H,Q,env,s,lt,h=>h.elim
|.b a b,U,O,F,H,Q,env,s,lt,h=>by
 let#[l1,l2]:=QK lt;have hv:=PB.ZI (K:=K) (show PB K F H (((pE Q2 a U).bind λx=>(pE Q2 b U).bind λy=>g_ x y).bind lu) Q from h);refine iF hΓ a env.l s l1<|PV.bind hv λx F1 H1 v g1 r1 h1=>?_;refine iF hΓ b (env.r.ac g1) g1.s l2<|h1.bind λy F2 H2 u g2 r2 h2=>?_;exact Y6 g2.s (bA.ac g2.f x v r1) r2 h2
|.m a lo hi,U,O,F,H,Q,env,s,lt,h=>h.elim
|.i as,U,O,F,H,Q,env,s,lt,h=>h.elim
|.f as,U,O,F,H,Q,env,s,lt,h=>h.elim
|.t,U,O,F,H,Q,env,s,lt,h=>h.elim
|.w _,U,O,F,H,Q,env,s,lt,h=>h.elim
|.u _,U,O,F,H,Q,env,s,lt,h=>h.elim
|.v _,U,O,F,H,Q,env,s,lt,h=>h.elim
|.x _ _ _ _,U,O,F,H,Q,env,s,lt,h=>h.elim
|.z,U,O,F,H,Q,env,s,lt,h=>h.elim
|.j nl fr elt tg src cond,U,O,F,H,Q,env,s,lt,h=>h.elim
|.o g a f,U,O,F,H,Q,env,s,lt,h=>h.elim
theorem xF(hΓ:gC K Q2 Y)[Ex]:∀(as:mV) {U:bw}{O:L2.St}{F H:Hp}{Q:B V->Hp->Prop},lB K F H (ly as) U O->bx F H->rX as=L->Bp K F H (iE Q2 as U) Q->wEs K Y Ex.E as O H Q
|.nil,U,O,F,H,Q,env,s,lt,h=>(show Bp K F H (.c []) Q from h) F H [] [] (cH.refl s) .nil #[rfl,rfl]
|.cons a r,U,O,F,H,Q,env,s,lt,h=>by
 let#[l1,l2]:=QK lt;have h:Bp K F H ((pE Q2 a U).bind λx=>(iE Q2 r U).bind λxs=>.c (x::xs)) Q:=h;refine iF hΓ a env.l s l1 ?_;cases e1:pE Q2 a U with
 |d=>rw[e1]at h;exact h.elim
 |c x=>
  cases e2:iE Q2 r U with
  |d=>rw[e1]at h;simp only[R.bind,e2]at h;exact h.elim
  |c xs=>
   rw[e1]at h;simp only[R.bind,e2]at h;intro F1 H1 v f1 g1 S5 r1;refine xF hΓ r (env.r.ac g1) g1.s l2 ?_;rw[e2];intro F2 H2 vs f2 g2 UQ r2;let#[c1,c2]:=agv g2 S5 r1;refine h F2 H2 (v::vs) (f1++f2) (g1.trans g2) (ju.ad g1.h S5 (λa ha=>?_) c2 UQ) #[v,vs,f1,f2,rfl,rfl,c1,r2];let#[o,e,_]:=bT.ex x v f1 r1 a ha;exact#[o,e]
theorem oz(hΓ:gC K Q2 Y)[Ex]:∀(c:CO) {U:bw}{O:L2.St}{F H:Hp}{Q:LD J->Hp->Prop},lB K F H (J8 c) U O->bx F H->T5 c=L->PB K F H (pO Q2 c U) Q->wO K Y Ex.E c O H Q
|.none,U,O,F,H,Q,env,s,lt,h=>(show PB K F H (.c S) Q from h) F H<|cH.refl s
|.some a,U,O,F,H,Q,env,s,lt,h=>by
 refine iF hΓ a env s lt (PB.tU (show PB K F H ((pE Q2 a U).bind λx=>match x with|.b i=>.c (M i)|_=>.d) Q from h) λx F1 H1 v g1 r1 h1=>?_);cases x with
 |b i=>cases r1;exact h1 F1 H1<|cH.refl g1.s
 |_=>cases h1
theorem hvis(hΓ:gC K Q2 Y)[Ex]:∀(c:CO) {U:bw}{O:L2.St}{F H:Hp}{Q:Bool->Hp->Prop},lB K F H (J8 c) U O->bx F H->T5 c=L->PB K F H (pC Q2 c U) Q->wC K Y Ex.E c O H Q
|.none,U,O,F,H,Q,env,s,lt,h=>(show PB K F H (.c L) Q from h) F H<|cH.refl s
|.some a,U,O,F,H,Q,env,s,lt,h=>Cp hΓ a env s lt h
theorem oi(hΓ:gC K Q2 Y)[Ex]:∀(c:CI) (A:B Addr) {U:bw}{O:L2.St}{F H:Hp}{k:(Hp->Prop)->B R6->Hp->Prop},lB K F H (yJ c) U O->bx F H->sG H A->ltI c=L->S_ K A F H (pI Q2 c U) k->wI K Y Ex.E c O H k
|.a a,A,U,O,F,H,k,env,s,hA,lt,h=>by
 have h:S_ K A F H ((pE Q2 a U).bind λx=>(vY x).bind λds=>.c (aX x,ds)) k:=h;refine iF hΓ a env s lt ?_;cases e1:pE Q2 a U with
 |d=>rw[e1]at h;exact h.elim
 |c x=>
 rw[e1]at h;have h:S_ K A F H ((vY x).bind λds=>.c (aX x,ds)) k:=h;let#[o,e]:=h.ac;let#[ds,e3,e4]:=c6 (show((vY x).bind λds=>R.c (aX x,ds))=.c o from e);rw[e]at h;cases e4;intro F1 H1 v fp g fr r;let#[F2,g2,r2]:=Xa hA g fr r;exact afQ ((Ci _ _ _).trans g2.s) r2 e3 λok its h1 h2 h3=>h F2 H1 ok its g2 h1 h2 h3
|.b as,A,U,O,F,H,k,env,s,hA,lt,h=>by
 have h:S_ K A F H ((iE Q2 as U).bind λxs=>(FE xs).bind λds=>.c (L,ds)) k:=h;refine xF hΓ as env s lt ?_;cases e1:iE Q2 as U with
 |d=>rw[e1]at h;exact h.elim
 |c xs=>
 rw[e1]at h;have h:S_ K A F H ((FE xs).bind λds=>.c (L,ds)) k:=h;let#[o,e]:=h.ac;let#[ds,e3,e4]:=c6 (show((FE xs).bind λds=>R.c (L,ds))=.c o from e);rw[e]at h;cases e4;intro F1 H1 vs fp g fr r;let#[F2,g2,_,r2]:=Rt g fr r;exact afR r2 e3 λits h1 h2=>h F2 H1 _ its g2 (λ_ _=>trivial) (h1 _) h2
|.c a,A,U,O,F,H,k,env,s,hA,lt,h=>by
 have h:S_ K A F H ((pE Q2 a U).bind λx=>match x with|.a _ xs=>.c (aX x,iW 0<|aD xs)|_=>.d) k:=h;refine iF hΓ a env s lt ?_;cases e1:pE Q2 a U with
 |d=>rw[e1]at h;exact h.elim
 |c x=>
 rw[e1]at h;intro F1 H1 v fp g fr r;let#[F2,g2,r2]:=Xa hA g fr r;cases x with
 |a o xs=>
  have s2:=(Ci (aX<|.a o xs) F2 A).trans g2.s;let#[b,vs,rfl,h2,h3,h4]:=r2;exact#[vs,Rd.same s2 h2,h F2 H1 _ _ g2 (λ_ s'=>Rd.same s' h2) (M8 0 h4) (by rw[Kh,uV,<-h4.len];exact h3)]
 |_=>cases h
|.d a,A,U,O,F,H,k,env,s,hA,lt,h=>by
 have h:S_ K A F H ((pE Q2 a U).bind λx=>match x with|.a _ xs=>.c (aX x,(aD xs).reverse)|_=>.d) k:=h;refine iF hΓ a env s lt ?_;cases e1:pE Q2 a U with
 |d=>rw[e1]at h;exact h.elim
 |c x=>
 rw[e1]at h;intro F1 H1 v fp g fr r;let#[F2,g2,r2]:=Xa hA g fr r;cases x with
 |a o xs=>
  have s2:=(Ci (aX<|.a o xs) F2 A).trans g2.s;let#[b,vs,rfl,h2,h3,h4]:=r2;exact#[vs,Rd.same s2 h2,h F2 H1 _ _ g2 (λ_ s'=>Rd.same s' h2) (PX h4) (by rw[oN,uV,<-h4.len];exact h3)]
 |_=>cases h
|.e _,A,U,O,F,H,k,env,s,hA,lt,h=>h.elim
end
end
def r6:Nat->bw->bw
|_,[]=>[]
|0,o::r=>o.map br::r
|n+1,o::r=>o::r6 n r
def rJ:B Nat->bw->bw
|[],O=>O
|i::is,O=>rJ is<|r6 i O
def jZ(is:B Nat)(o:Bool)(O:bw):bw:=match o with
|true=>O
|false=>rJ is O
noncomputable def RB:CE->LD Nat
|.a i=>M i
|_=>S
def lP(Y:B PG):mV->bw->R (B D)
|.nil=>λ_=>.c []
|.cons a r=>λO=>match RB a with
 |some i=>match O[i]? with
  |some (M d)=>(lP Y r<|O.set i S).bind λds=>.c (d::ds)
  |_=>.d
 |none=>(pE Y a O).bind λd=>.cA (aX d)<|(lP Y r O).bind λds=>.c (d::ds)
noncomputable def R.ac{α β:Type}(x:R α)(f:α->R β)(y:R β):R β:=match x with
|.c a=>f a
|_=>y
def pM(Y:B PG)(e:CE)(O:bw):R D:=match e with
|.a i=>match O[i]? with
 |some (M d)=>.c d
 |_=>.d
|.f as=>(lP Y as O).ac (λds=>.cA (decide<|zl ds<=aj)<|.c<|.d ds)<|pE Y (.f as) O
|e=>pE Y e O
noncomputable def xG:LD (LD D)->Bool
|some (M<|.a L _)=>L
|_=>W
def IZ(k:Nat)(is:B Nat)(d:D)(O:bw):Fl:=match d with
|.a L ys=>match O[k]? with
 |some (M<|.a L xs)=>if(decide (zl xs+zl ys<=aj)&&(aX d||!is.contains k))=L then .a ((jZ is (aX d) O).set k<|M<|.a L<|xs++ys)else .b
 |_=>.b
|_=>.b
def pX(Y:B PG)(e:CE)(O:bw):Fl:=match e with
|.l m (.a k) as=>match m with
 |.a=>match as with
  |#v[a]=>(pE Y a O).tQ (xG O[k]?) λd=>match O[k]? with
   |some (M<|.a L xs)=>if(decide (zl xs<aj)&&(aX d||!(cO a).contains k))=L then .a ((jZ (cO a) (aX d) O).set k<|M<|.a L<|xs++[d])else .b
   |_=>.b
  |_=>.b
 |.e=>match as with
  |#v[a]=>(pE Y a O).tQ (xG O[k]?) λd=>IZ k (cO a) d O
  |_=>.b
 |.d=>match as with
  |#v[i,a]=>(pE Y i O).tQ W λj=>(pE Y a O).tQ W λd=>match j with
   |.b j=>match O[k]? with
    |some (M<|.a L xs)=>if(decide (0<=j/\j<2 ^ 40/\zl xs<aj)&&aX d)=L then .a (O.set k<|M<|.a L (xs.take j.toNat++d::xs.drop j.toNat))else .b
    |_=>.b
   |_=>.b
  |_=>.b
 |_=>(pE Y e O).bH λ_=>.a O
|e=>(pE Y e O).bH λ_=>.a O
mutual
noncomputable def rK:D->Bool
|.a _ _=>W
|.g _ _ _=>W
|.f _ _ _=>W
|.i _ _ _ _=>W
|.d xs=>G4 xs
|_=>L
noncomputable def G4:B D->Bool
|[]=>L
|d::r=>rK d&&G4 r
end
def putL(xs:B D)(d j:D):LD D:=match j with
|.b j=>(kq (zl xs) j).map λn=>.a L<|xs.set n d
|_=>S
def Xe(ks:B Key)(xs:B D)(d j:D):LD D:=match k_ j with
|some q=>if zl ks<aj then(if gw ks q=L then(if rK d=L then M (.g L ks<|jA ks xs q d)else S)else M (.g L (ks++[q])<|xs++[d]))else S
|none=>S
def Nb(ks:B<|B Key)(xs:B D)(d j:D):LD D:=match iD j with
|some q=>if zl ks<aj then(if gw ks q=L then(if rK d=L then M (.f L ks<|jA ks xs q d)else S)else M (.f L (ks++[q])<|xs++[d]))else S
|none=>S
def S6(x d j:D):LD D:=match x with
|.a L xs=>putL xs d j
|.g L ks xs=>Xe ks xs d j
|.f L ks xs=>Nb ks xs d j
|_=>S
def pA(Y:B PG)(g:CG)(e:CE)(O:bw):Fl:=match g with
|.a i=>(pE Y e O).bH λd=>.a<|(jZ (cO e) (aX d) O).set i<|M d
|.b gs=>(pE Y e O).bH λd=>(pG (.b gs) d<|jZ (cO e) (aX d) O).bH .a
|.c o i=>match o with
 |.a k=>(pE Y e O).bH λd=>(pE Y i<|jZ (cO e) (aX d) O).tQ W λj=>match O[k]? with
  |some (M x)=>if(aX d||!(cO e).contains k)=L then(R.ab<|S6 x d j).bH λx'=>.a ((jZ (cO e) (aX d) O).set k<|M x')else .b
  |_=>.b
 |_=>.b
open Classical in
noncomputable def Mj(i:Nat)(a:J)(O:bw):D->Fl
|.b b=>.a<|O.set i<|M<|.b<|a+b
|_=>.b
def I_(k:Nat)(n:J)(O:bw)(x y:LD<|LD D):Fl:=match x,y with
|some (M<|.a L xs),M (M<|.b i)=>match kq (zl xs) i with
 |some p=>match xs[p]? with
  |some (.b m)=>.a<|O.set k<|M<|.a L<|xs.set p<|.b<|m+n
  |_=>.b
 |none=>.b
|_,_=>.b
noncomputable def DU(o:LD PG)(k:Nat)(f:Str)(O:bw)(d:D):Fl:=match o,O[k]? with
|some (.b C as),M (M<|.i L C' ks xs)=>if f∈as/\C'=C/\f∉ks/\zl ks<1000 then .a (O.set k<|M<|.i L C (ks++[f])<|xs++[d])else .b
|_,_=>.b
def Ja(i:Nat)(nl:B Str)(O:bw):LD (LD D)->LD (LD D)->Fl
|some (M<|.b n),M (M<|.f _ ks _)=>if(decide (zl nl=3)&&ks.all λk=>decide<|zl k=3)=L then .a (O.set i<|M<|.a L<|IU n ks)else .b
|_,_=>.b
mutual
noncomputable def pS(Y:B PG)(n:Nat):CS->bw->Fl
|.e e=>λO=>pX Y e O
|.d g e=>λO=>pA Y g e O
|.g i e=>λO=>match O[i]? with
 |some (M<|.b a)=>(pE Y e O).bH λd=>Mj i a O d
 |_=>.b
|.h i e=>λO=>(pE Y e O).bH λd=>.a<|(jZ (cO e) (aX d) O).set i<|M d
|.i k j n=>λO=>I_ k n O O[k]? O[j]?
|.l i nl j k=>λO=>Ja i nl O O[j]? O[k]?
|.f g k f e=>λO=>(pE Y e O).bH λd=>DU Y[g]? k f (jZ (cO e) (aX d) O) d
|.k g e=>λO=>pA Y g e O
|.a e=>λO=>(pM Y e O).bH .c
|.b c a b=>λO=>(pT Y c O).bH λk=>if k=L then bK Y n a O else bK Y n b O
|.j c b=>λO=>tR (pT Y c) (bK Y n b) n O
|.c g src b=>λO=>(pI Y src O).bH λitems=>QS (pG g) (bK Y n b) items.2<|jZ (yJ src) items.1 O
|.n=>λO=>.e O
|.m=>λO=>.d O
|.o=>λ_=>.b
noncomputable def bK(Y:B PG)(n:Nat):cC->bw->Fl
|.nil=>λO=>.a O
|.cons s r=>λO=>match pS Y n s O with
 |.a σ'=>bK Y n r σ'
 |x=>x
end
noncomputable def nX(N:B Str)(ds:B D):bw:=ds.map M++aL (zl N-zl ds) S
noncomputable def Jb:Fl->R D
|.a _=>.c .h
|.c d=>.c d
|_=>.d
def Nc(Y:B PG)(n:Nat)(N:B Str)(c:cC)(ds:B D):R D:=Jb<|bK Y n c<|nX N ds
mutual
noncomputable def Ws:CS->Bool
|.e e=>fc e
|.d g e=>Wr g&&fc e
|.g _ e=>fc e
|.h _ e=>fc e
|.f _ _ _ e=>fc e
|.k g e=>Wr g&&fc e
|.a e=>fc e
|.b c a b=>fc c&&(qJ a&&qJ b)
|.j c b=>fc c&&qJ b
|.c _ src b=>ltI src&&qJ b
|_=>L
noncomputable def qJ:cC->Bool
|.nil=>L
|.cons s r=>Ws s&&qJ r
noncomputable def Wr:CG->Bool
|.c o i=>fc o&&fc i
|_=>L
end
structure bR (K:ao) (F0 H0:Hp) (U:bw) (O:L2.St) (F H:Hp) (fp:Nat->B Addr):Prop where
 g:cH F0 H0 F H
 len:zl U=zl O
 rep:∀(i:Nat) d,U[i]?=M (M d)->∃v,O[i]?=M (M v)/\bT K H F d v (fp i)
 ex:∀i,sG H (fp i)
 nd:∀i,(fp i).Nodup
 nf:∀i a,a∈fp i->F a=S
 nh:∀i a,a∈fp i->H0 a=S
 dis:∀i j a,a∈fp i->a∈fp j->i=j
structure kJ (K:ao) (H0 F H:Hp) (fp:Nat->B Addr) (d:D) (v:V) (f:B Addr):Prop where
 r:bT K H F d v f
 nd:f.Nodup
 nf:∀a∈f,F a=S
 nh:∀a∈f,H0 a=S
 dis:∀i a,a∈f->a∉fp i
section
variable{K:ao}{F0 H0 F H:Hp}{U:bw}{O:L2.St}{fp:Nat->B Addr}
theorem FH:∀(n:Nat) (O:bw) (i:Nat),(r6 n O)[i]?=if i=n then(O[i]?).map (SD br)else O[i]?
|n,[],i=>by cases n<;>simp[r6]
|0,o::r,0=>by simp[r6]
|0,o::r,i+1=>by simp[r6]
|n+1,o::r,0=>by simp[r6]
|n+1,o::r,i+1=>by
 simp only[r6,yw,FH n r i];by_cases h:i=n
 .simp[h]
 .simp[h]
theorem Nd:∀(n:Nat) (O:bw),zl (r6 n O)=zl O
|n,[]=>by cases n<;>rfl
|0,o::r=>rfl
|n+1,o::r=>by simp[r6,Nd n r]
theorem Ks:∀(is:B Nat) (O:bw),zl (rJ is O)=zl O
|[],O=>rfl
|i::is,O=>by rw[rJ,Ks is,Nd]
noncomputable def RH(fp:Nat->B Addr)(is:B Nat):B Addr:=is.flatMap fp
def jJ:a∈RH fp is↔∃i∈is,a∈fp i:=by simp[RH,yl]
def bR.lists(I:bR K F0 H0 U O F H fp)(is:B Nat):sG H (RH fp is):=λa ha=>by
 let#[i,_,h]:=jJ.mp ha;exact I.ex i a h
def bR.ab(I:bR K F0 H0 U O F H fp)(is:B Nat):lB K (RQ F H<|RH fp is) H is U O:=#[λi hi d e=>by
 let#[v,h1,h2]:=I.rep i d e;exact#[v,h1,bT.ae (gk I.g.s) d v _ (λa ha=>nH<|jJ.mpr #[i,hi,ha]) h2],λk d e=>by
 let#[v,h1,h2]:=I.rep k d e;exact#[v,RQ F H<|RH fp [k],h1,ku I.g.s,bT.ae (gk I.g.s) d v _ (λa ha=>nH<|jJ.mpr #[k,aK.mpr rfl,ha]) h2]]
def bR.ZK(I:bR K F0 H0 U O F H fp)(g:cH (RQ F H<|RH fp is) H F' H')(ha:a∈fp i)(hn:a∉RH fp is):F' a=S:=by
 let#[o,e,k]:=I.ex i a ha;cases q:F' a with
 |none=>rfl
 |some u=>exact((g.n a u q (by rw[lO hn];exact I.nf i a ha)).own e k).elim
def bR.ZL(I:bR K F0 H0 U O F H fp)(g:cH (RQ F H<|RH fp is) H F' H'):cH F0 H0 F' H':=by
 refine#[I.g.h.trans g.h,(I.g.f.trans<|gk I.g.s).trans g.f,g.s,λb o h h'=>?_];cases q:RQ F H (RH fp is) b with
 |none=>exact NT.ac I.g.h<|g.n b o h q
 |some u=>
  by_cases z:b∈RH fp is
  .let#[i,_,hb]:=jJ.mp z;exact .of<|I.nh i b hb
  .rw[lO z]at q;exact I.g.n b u q h'
def bR.ac(I:bR K F0 H0 U O F H fp)(g:cH (RQ F H<|RH fp is) H F' H'):bR K F0 H0 U O (Sf F'<|RH fp is) H' fp where
 g:=by
  have g0:=I.ZL g;refine#[g0.h,λb o h=>?_,(o9 _ _).trans g0.s,λb o h h'=>g0.n b o (o9 _ _ b o h) h'];have hn:b∉RH fp is:=λz=>by
   let#[i,_,hb]:=jJ.mp z;have:=I.nf i b hb;rw[I.g.f b o h]at this;cases this
  rw[jH hn];exact g0.f b o h
 len:=I.len
 rep:=λi d e=>by
  let#[v,h1,h2]:=I.rep i d e;refine#[v,h1,bT.ac ?_ d v _ (λa ha=>?_) h2]
  .intro b o h;have hn:b∉RH fp is:=λz=>by
    let#[i,_,hb]:=jJ.mp z;have:=I.nf i b hb;rw[h]at this;cases this
   rw[jH hn];exact g.f b o<|gk I.g.s b o h
  .let#[o,e,_]:=I.ex i a ha;rw[e,g.h a o e]
 ex:=λi=>(I.ex i).ac g.h
 nd:=I.nd
 nf:=λi a ha=>by
  by_cases hn:a∈RH fp is
  .exact FF hn
  .rw[jH hn];exact I.ZK g ha hn
 nh:=I.nh
 dis:=I.dis
def csd:∀(is:B Nat) (O:bw) (i:Nat),(rJ is O)[i]?=M (M d)->∃d',O[i]?=M (M d')/\((i∈is/\d=br d')\/(i∉is/\d=d')):=by
 have ff:=PY;intro is;induction is with
 |nil=>intro O i h;exact#[d,h,.inr #[aF,rfl]]
 |cons j is ih=>
  intro O i h;let#[d1,e1,e2]:=ih (r6 j O) i h;rw[FH]at e1;by_cases hj:i=j
  .rw[aH hj]at e1;cases q:O[i]? with
   |none=>rw[q]at e1;cases e1
   |some o=>
    cases o with
    |none=>rw[q]at e1;cases e1
    |some d'=>
     rw[q]at e1;cases e1;refine#[d',rfl,.inl #[by rw[hj];exact aB,?_]];rcases e2 with⟨_,rfl⟩|⟨_,rfl⟩
     .exact ff d'
     .rfl
  .rw[aG hj]at e1;refine#[d1,e1,?_];rcases e2 with⟨h1,h2⟩|⟨h1,h2⟩
   .exact .inl #[aq _ h1,h2]
   .exact .inr #[λz=>by rcases aO.mp z with z|z;exact hj z;exact h1 z,h2]
def bR.iG(I:bR K F0 H0 U O F H fp)(g:cH (RQ F H<|RH fp is) H F' H'):bR K F0 H0 (rJ is U) O F' H' (λi=>if i∈is then[]else fp i) where
 g:=I.ZL g
 len:=by rw[Ks];exact I.len
 rep:=λi d e=>by
  let#[d',e1,e2]:=csd is U i e;rcases e2 with⟨h1,rfl⟩|⟨h1,rfl⟩
  .let#[v,q1,q2]:=(I.ab is).e i h1 d' e1;exact#[v,q1,by rw[aH h1];exact bA.yH d' v<|bA.ac g.f d' v q2]
  .let#[v,q1,q2]:=I.rep i d e1;refine#[v,q1,?_];rw[aG h1];refine bT.ac ((gk I.g.s).trans g.f) d v _ (λa ha=>?_) q2;let#[o,e,_]:=I.ex i a ha;rw[e,g.h a o e]
 ex:=λi=>by
  by_cases h:i∈is
  .rw[aH h];exact λa ha=>aI ha aF
  .rw[aG h];exact(I.ex i).ac g.h
 nd:=λi=>by
  by_cases h:i∈is
  .simp_all
  .rw[aG h];exact I.nd i
 nf:=λi a ha=>by
  by_cases h:i∈is
  .simp_all
  .rw[aG h]at ha;refine I.ZK g ha λz=>?_;let#[j,hj,hb]:=jJ.mp z;have:=I.dis i j a ha hb;subst this;exact h hj
 nh:=λi a ha=>by
  by_cases h:i∈is
  .simp_all
  .rw[aG h]at ha;exact I.nh i a ha
 dis:=λi j a ha hb=>by
  by_cases h:i∈is
  .simp_all
  .by_cases h':j∈is
   .simp_all
   .rw[aG h]at ha;rw[aG h']at hb;exact I.dis i j a ha hb
def bR.told(I:bR K F0 H0 U O F H fp)(g:cH (RQ F H<|RH fp is) H F' H')(fr:ju f H F')(r:bT K H' F' d v f):∃F1 RP,bR K F0 H0 (jZ is (aX d) U) O F1 H' RP/\kJ K H0 F1 H' RP d v f/\(aX d=L->RP=fp)/\∀i,i∉is->RP i=fp i:=by
 have nn:∀i a,a∈f->a∉fp i:=λi a ha hb=>by
  let#[o,e,_]:=I.ex i a hb;rw[fr.nh a ha]at e;cases e
 cases ho:aX d with
 |true=>
  refine#[_,fp,I.ac g,#[bT.am (tT g.s<|(I.lists is).ac g.h) d v f ho r,fr.nd,λa ha=>?_,λa ha=>bx.none I.g.h<|fr.nh a ha,nn],λ_=>rfl,λ_ _=>rfl];exact bx.none (o9 _ _)<|fr.nf a ha
 |false=>
  refine#[_,_,I.iG g,#[r,fr.nd,fr.nf,λa ha=>bx.none I.g.h<|fr.nh a ha,λi a ha hb=>?_],(λz=>nomatch z),λi hi=>aG hi];by_cases h:i∈is
  .simp_all
  .simp_all
def bR.set{v:V}(I:bR K F0 H0 U O F H fp)(V:kJ K H0 F H fp d v f)(k:Nat):bR K F0 H0 (U.set k<|M d) (O.set k<|M v) F H (λi=>if i=k then f else fp i) where
 g:=I.g
 len:=by simp[I.len]
 rep:=λi d' e=>by
  by_cases h:i=k
  .subst h;rw[aH rfl];rw[j_]at e;by_cases hi:i<zl U
   .simp[hi]at e;subst e;exact#[v,by rw[j_];simp[<-I.len,hi],V.r]
   .simp_all
  .rw[aG h];rw[dw<|gi h]at e;let#[w,h1,h2]:=I.rep i d' e;exact#[w,by rw[dw<|gi h];exact h1,h2]
 ex:=λi=>by
  by_cases h:i=k
  .rw[aH h];exact bT.ex d v f V.r
  .rw[aG h];exact I.ex i
 nd:=λi=>by
  by_cases h:i=k
  .rw[aH h];exact V.nd
  .rw[aG h];exact I.nd i
 nf:=λi a ha=>by
  by_cases h:i=k
  .rw[aH h]at ha;exact V.nf a ha
  .rw[aG h]at ha;exact I.nf i a ha
 nh:=λi a ha=>by
  by_cases h:i=k
  .rw[aH h]at ha;exact V.nh a ha
  .rw[aG h]at ha;exact I.nh i a ha
 dis:=λi j a ha hb=>by
  by_cases h:i=k
  .rw[aH h]at ha;by_cases h':j=k
   .rw[h,h']
   .rw[aG h']at hb;exact aI hb<|V.dis j a ha
  .rw[aG h]at ha;by_cases h':j=k
   .rw[aH h']at hb;exact aI ha<|V.dis i a hb
   .rw[aG h']at hb;exact I.dis i j a ha hb
def bR.put(I:bR K F0 H0 U O F H fp)(ha:a∈fp k)(hv:O[k]?=M (M v))(hr:bT K (upd H a o) F d v f)(nd:f.Nodup)(nf:∀b∈f,F b=S)(nh:∀b∈f,H0 b=S)(dis:∀i,i≠k->∀b∈f,b∉fp i):bR K F0 H0 (U.set k<|M d) O F (upd H a o) (λi=>if i=k then f else fp i):=by
 have hF:=I.nf k a ha;have hH0:=I.nh k a ha;have hne:∀i,i≠k->∀b∈fp i,b≠a:=λi hi b hb z=>by
  subst z;exact hi<|I.dis i k b hb ha
 refine#[#[λb u q=>by rw[bg<|cj q hH0];exact I.g.h b u q,I.g.f,λb u q=>by rw[bg<|cj q hF];exact I.g.s b u q,I.g.n],by simp[I.len],λi d' e=>?_,λi=>?_,λi=>?_,λi b hb=>?_,λi b hb=>?_,λi j b hb hc=>?_]
 .by_cases h:i=k
  .subst h;rw[aH rfl];rw[j_]at e;by_cases hi:i<zl U
   .simp_all
   .simp_all
  .rw[aG h];rw[dw<|gi h]at e;let#[w,h1,h2]:=I.rep i d' e;exact#[w,h1,bT.ac (bx.refl _) d' w _ (λb hb=>bg<|hne i h b hb) h2]
 .by_cases h:i=k
  .rw[aH h];exact bT.ex d v f hr
  .rw[aG h];intro b hb;let#[u,e,q]:=I.ex i b hb;exact#[u,by rw[bg<|hne i h b hb];exact e,q]
 .by_cases h:i=k
  .simp_all
  .rw[aG h];exact I.nd i
 .by_cases h:i=k
  .simp_all
  .rw[aG h]at hb;exact I.nf i b hb
 .by_cases h:i=k
  .simp_all
  .rw[aG h]at hb;exact I.nh i b hb
 .by_cases h:i=k
  .rw[aH h]at hb;by_cases h':j=k
   .rw[h,h']
   .simp_all
  .rw[aG h]at hb;by_cases h':j=k
   .simp_all
   .rw[aG h']at hc;exact I.dis i j b hb hc
def bR.ad(I:bR K F0 H0 U O F H fp):bR K F H0 U O F H fp:=#[#[I.g.h,bx.refl _,I.g.s,λb o h h'=>by rw[h]at h';cases h'],I.len,I.rep,I.ex,I.nd,I.nf,I.nh,I.dis]
def bR.Nf(g0:cH F0 H0 F1 H1)(I:bR K F1 H0 U O F H fp):bR K F0 H0 U O F H fp:=#[#[I.g.h,g0.f.trans I.g.f,I.g.s,λb o h h'=>by
 cases q:F1 b with
 |none=>exact I.g.n b o h q
 |some u=>exact g0.n b u q h'],I.len,I.rep,I.ex,I.nd,I.nf,I.nh,I.dis]
end
def eY[Ex](K:ao)(F0 H0:Hp)(fl:Fl)(X:S3):Prop:=match fl with
|.a U=>∀O F H fp,bR K F0 H0 U O F H fp->X.nx O H
|.e U=>∀O F H fp,bR K F0 H0 U O F H fp->X.bk O H
|.d U=>∀O F H fp,bR K F0 H0 U O F H fp->X.a O H
|.c d=>∀v F H f,cH F0 H0 F H->ju f H0 F->bT K H F d v f->X.rt v H
|.b=>bu
section
variable{K:ao}{Q2:B PG}{Y:B G}{F0 H0 F H:Hp}{U:bw}{O:L2.St}{fp:Nat->B Addr}{X:S3}
def abc(g0:cH F0 H0 F1 H1)(g:cH F1 H0 F H):cH F0 H0 F H:=#[g.h,g0.f.trans g.f,g.s,λb o h h'=>by
 cases q:F1 b with
 |none=>exact g.n b o h q
 |some u=>exact g0.n b u q h']
def eY.ad[Ex](g0:cH F0 H0 F1 H1)(h:eY K F0 H0 fl X):eY K F1 H0 fl X:=by
 cases fl with
 |a U=>exact λO F H fp I=>h O F H fp<|I.Nf g0
 |e U=>exact λO F H fp I=>h O F H fp<|I.Nf g0
 |d U=>exact λO F H fp I=>h O F H fp<|I.Nf g0
 |c d=>exact λv F H f g fr r=>h v F H f (abc g0 g) fr r
 |b=>exact h
def Ng[Ex]{α:Type}{r:R α}{f:α->Fl}(h:eY K F0 H0 (r.bH f) X):∃a,r=.c a/\eY K F0 H0 (f a) X:=by
 cases r with
 |c a=>exact#[a,rfl,h]
 |d=>cases h
def pe[Ex]{α:Type}{r:R α}{f:α->Fl}(h:eY K F0 H0 (r.bH f) X):∃a,r=.c a/\eY K F0 H0 (f a) X:=by
 cases r with
 |c a=>exact#[a,rfl,h]
 |d=>cases h
def zV[Ex]{α:Type}{b:Bool}{r:R α}{f:α->Fl}(h:eY K F0 H0 (r.tQ b f) X):∃a,r=.c a/\eY K F0 H0 (f a) X:=by
 cases r with
 |c a=>exact#[a,rfl,h]
 |d=>cases h
theorem dd'(F H:Hp):RQ F H []=F:=by rfl
def bR.grow(I:bR K F0 H0 U O F H fp)(g:cH F H F1 H1):bR K F0 H0 U O F1 H1 fp:=by
 have e:RH fp []=[]:=rfl;have q:=I.ac (by rw[e,dd'];exact g);rw[e,J9]at q;exact q
def kJ.Xf(r:bA K F d v):kJ K H0 F H fp (br d) v []:=#[bA.yH d v r,gZ,λ_ h=>aI h aF,λ_ h=>aI h aF,λ_ _ h=>aI h aF]
mutual
theorem o4:∀(g:CG) {d:D}{v:V}{U QZ:bw}{O:L2.St}{fp:Nat->B Addr}{Q:L2.St->Hp->Prop},bR K F0 H0 U O F H fp->bA K F d v->pG g (br d) U=.c QZ->(∀σ' fp',bR K F0 H0 QZ σ' F H fp'->Q σ' H)->wG K Y E g v O H Q
|.a i,d,v,U,QZ,O,fp,Q,I,r,e,h=>by
 cases e;exact h _ _<|I.set (kJ.Xf r) i
|.b gs,d,v,U,QZ,O,fp,Q,I,r,e,h=>by
 cases d with
 |d ds=>
  let#[b,vs,rfl,h2,h3,h4]:=r;let#[c,e]:=o_ (show R.cA (decide<|zl (aD ds)=gs.len) (Cg gs (aD ds) U)=.c QZ from e);have c:=aC c;rw[uV]at c;exact#[L,vs,(RS h2).same' I.g.s,rfl,by rw[h4.len];exact c,oZ gs I h4 e h]
 |_=>cases e
|.c _ _,d,v,U,QZ,O,fp,Q,I,r,e,h=>by cases e
theorem oZ:∀(g:yE) {ds:B D}{vs:B V}{U QZ:bw}{O:L2.St}{fp:Nat->B Addr}{Q:L2.St->Hp->Prop},bR K F0 H0 U O F H fp->aT K F ds vs->Cg g (aD ds) U=.c QZ->(∀σ' fp',bR K F0 H0 QZ σ' F H fp'->Q σ' H)->Py K Y E g vs O H Q
|.nil,ds,vs,U,QZ,O,fp,Q,I,r,e,h=>by
 cases ds with
 |nil=>cases r;cases e;exact h O fp I
 |cons d dr=>cases e
|.cons g gr,ds,vs,U,QZ,O,fp,Q,I,r,e,h=>by
 cases ds with
 |nil=>cases e
 |cons d dr=>
  let#[v,vr,rfl,r1,r2]:=r;let#[σ2,e1,e2]:=c6 (show((pG g (br d) U).bind fun σ'=>Cg gr (aD dr) σ')=.c QZ from e);exact o4 g I r1 e1 fun σ' fp' I'=>oZ gr I' r2 e2 h
end
mutual
theorem Xs:∀(g:CG) {d:D}{v:V}{U QZ:bw}{O:L2.St}{fp:Nat->B Addr}{f:B Addr}{Q:L2.St->Hp->Prop},bR K F0 H0 U O F H fp->kJ K H0 F H fp d v f->pG g d U=.c QZ->
 (∀σ' fp',bR K F0 H0 QZ σ' F H fp'->(∀i a,a∈fp' i->a∈f\/a∈fp i)->Q σ' H)->wG K Y E g v O H Q
|.a i,d,v,U,QZ,O,fp,f,Q,I,V,e,h=>by
 cases e;refine h _ _ (I.set V i) λj a ha=>?_;by_cases c:j=i
 .rw[aH c]at ha;exact .inl ha
 .rw[aG c]at ha;exact .inr ha
|.b gs,d,v,U,QZ,O,fp,f,Q,I,V,e,h=>by
 cases d with
 |d ds=>
  let#[b,vs,rfl,h2,h3,h4]:=V.r;let#[c,e]:=o_ e;exact#[L,vs,(RS h2).same' I.g.s,rfl,by rw[h4.len];exact aC c,ZM gs I h4 V.nd V.nf V.nh V.dis e h]
 |_=>cases e
|.c _ _,d,v,U,QZ,O,fp,f,Q,I,V,e,h=>by cases e
theorem ZM:∀(g:yE) {ds:B D}{vs:B V}{U QZ:bw}{O:L2.St}{fp:Nat->B Addr}{f:B Addr}{Q:L2.St->Hp->Prop},bR K F0 H0 U O F H fp->aY K H F ds vs f->f.Nodup->(∀a∈f,F a=S)->(∀a∈f,H0 a=S)->
 (∀i a,a∈f->a∉fp i)->Cg g ds U=.c QZ->(∀σ' fp',bR K F0 H0 QZ σ' F H fp'->(∀i a,a∈fp' i->a∈f\/a∈fp i)->Q σ' H)->Py K Y E g vs O H Q
|.nil,ds,vs,U,QZ,O,fp,f,Q,I,r,nd,nf,nh,dis,e,h=>by
 cases ds with
 |nil=>
  let#[rfl,_]:=r;cases e;exact h O fp I λ_ _ z=>.inr z
 |cons d dr=>cases e
|.cons g gr,ds,vs,U,QZ,O,fp,f,Q,I,r,nd,nf,nh,dis,e,h=>by
 cases ds with
 |nil=>cases e
 |cons d dr=>
  let#[v,vr,f1,f2,rfl,rfl,r1,r2]:=r;let#[σ2,e1,e2]:=c6 e;let#[n1,n2,n3]:=cL.mp nd;refine Xs g I #[r1,n1,λa ha=>nf a<|cz _ ha,λa ha=>nh a<|cz _ ha,λi a ha=>dis i a<|cz _ ha] e1 fun σ' fp' I' sub=>?_;refine ZM gr I' r2 n2 (λa ha=>nf a<|aR _ ha) (λa ha=>nh a<|aR _ ha) (λi a ha z=>?_) e2 fun σ3 fp3 I3 sub3=>h σ3 fp3 I3 λi a ha=>?_
  .rcases sub i a z with q|q
   .exact n3 a q a ha rfl
   .exact dis i a (aR _ ha) q
  .rcases sub3 i a ha with q|q
   .exact .inl (aR _ q)
   .rcases sub i a q with q|q
    .exact .inl (cz _ q)
    .exact .inr q
end
def Cq[Ex](hΓ:gC K Q2 Y)(I:bR K F0 H0 U O F H fp)(lt:fc e=L)(he:pE Q2 e U=.c d)(h:∀v F1 H1 RP f,bR K F0 H0 (jZ (cO e) (aX d) U) O F1 H1 RP->kJ K H0 F1 H1 RP d v f->Q v H1):wE K Y Ex.E e O H Q:=by
 refine iF hΓ e (I.ab<|cO e) (ku I.g.s) lt ?_;rw[he];intro F' H' v f g fr r;let#[F1,RP,I1,V1,_,_]:=I.told g fr r;exact h v F1 H' RP f I1 V1
def VL[Ex](hΓ:gC K Q2 Y)(I:bR K F0 H0 U O F H fp)(lt:fc e=L)(he:pE Q2 e U=.c d)(h:∀v F1 H1,bR K F0 H0 U O F1 H1 fp->bx H H1->(aX d=L->∃f,kJ K H0 F1 H1 fp d v f)->Q v H1):wE K Y Ex.E e O H Q:=by
 refine iF hΓ e (I.ab<|cO e) (ku I.g.s) lt ?_;rw[he];intro F' H' v f g fr r;refine h v _ H' (I.ac g) g.h λho=>?_;refine#[f,bT.am (tT g.s<|(I.lists _).ac g.h) d v f ho r,fr.nd,λa ha=>bx.none (o9 _ _)<|fr.nf a ha,λa ha=>bx.none I.g.h<|fr.nh a ha,λi a ha hb=>?_];let#[o,e,_]:=I.ex i a hb;rw[fr.nh a ha]at e;cases e
def kJ.ac(I:bR K F0 H0 U O F H fp){v:V}(V:kJ K H0 F H fp d v f)(g:cH (RQ F H<|RH fp is) H F' H'):kJ K H0 (Sf F'<|RH fp is) H' fp d v f:=by
 have hn:∀a∈f,a∉RH fp is:=λa ha z=>by
  let#[i,_,hb]:=jJ.mp z;exact V.dis i a ha hb
 have hx:=bT.ex d v f V.r;refine#[bT.ac ?_ d v f (λa ha=>?_) V.r,V.nd,λa ha=>?_,V.nh,V.dis]
 .intro b o h;have hb:b∉RH fp is:=λz=>by
   let#[i,_,hb]:=jJ.mp z;have:=I.nf i b hb;rw[h]at this;cases this
  rw[jH hb];exact g.f b o<|gk I.g.s b o h
 .let#[o,e,_]:=hx a ha;rw[e,g.h a o e]
 .rw[jH<|hn a ha];let#[o,e,k]:=hx a ha;cases q:F' a with
  |none=>rfl
  |some u=>exact((g.n a u q (by rw[lO<|hn a ha];exact V.nf a ha)).own e k).elim
structure rL (K:ao) (H0 F H:Hp) (fp:Nat->B Addr) (ds:B D) (vs:B V) (f:B Addr):Prop where
 r:aY K H F ds vs f
 nd:f.Nodup
 nf:∀a∈f,F a=S
 nh:∀a∈f,H0 a=S
 dis:∀i a,a∈f->a∉fp i
def rL.ac(I:bR K F0 H0 U O F H fp){v:B V}(V:rL K H0 F H fp d v f)(g:cH (RQ F H<|RH fp is) H F' H'):rL K H0 (Sf F'<|RH fp is) H' fp d v f:=by
 have hn:∀a∈f,a∉RH fp is:=λa ha z=>by
  let#[i,_,hb]:=jJ.mp z;exact V.dis i a ha hb
 have hx:=aY.ex d v f V.r;refine#[aY.ac ?_ d v f (λa ha=>?_) V.r,V.nd,λa ha=>?_,V.nh,V.dis]
 .intro b o h;have hb:b∉RH fp is:=λz=>by
   let#[i,_,hb]:=jJ.mp z;have:=I.nf i b hb;rw[h]at this;cases this
  rw[jH hb];exact g.f b o<|gk I.g.s b o h
 .let#[o,e,_]:=hx a ha;rw[e,g.h a o e]
 .rw[jH<|hn a ha];let#[o,e,k]:=hx a ha;cases q:F' a with
  |none=>rfl
  |some u=>exact((g.n a u q (by rw[lO<|hn a ha];exact V.nf a ha)).own e k).elim
def rL.snoc{vs:B V}{v:V}(V:rL K H0 F H fp ds vs f)(QI:kJ K H0 F H fp d v f')(hd:∀a∈f,a∉f'):rL K H0 F H fp (ds++[d]) (vs++[v]) (f++f'):=by
 refine#[V.r.ad #[v,[],f',[],rfl,by simp,QI.r,rfl,rfl],cL.mpr #[V.nd,QI.nd,λa ha b hb z=>hd a ha (by rw[z];exact hb)],λa ha=>?_,λa ha=>?_,λi a ha=>?_]
 .rcases bh.mp ha with q|q
  .exact V.nf a q
  .exact QI.nf a q
 .rcases bh.mp ha with q|q
  .exact V.nh a q
  .exact QI.nh a q
 .rcases bh.mp ha with q|q
  .exact V.dis i a q
  .exact QI.dis i a q
def runN[Ex](hΓ:gC K Q2 Y)(I:bR K F0 H0 U O F H fp)(V0:rL K H0 F H fp ds vs f0)(lt:fc e=L)(he:pE Q2 e U=.c d)(ho:aX d=L)(h:∀v F1 H1 f,bR K F0 H0 U O F1 H1 fp->rL K H0 F1 H1 fp (ds++[d]) (vs++[v]) f->Q v H1):wE K Y Ex.E e O H Q:=by
 refine iF hΓ e (I.ab<|cO e) (ku I.g.s) lt ?_;rw[he];intro F' H' v f g fr r;refine h v _ H' _ (I.ac g)<|(V0.ac I g).snoc #[bT.am (tT g.s<|(I.lists _).ac g.h) d v f ho r,fr.nd,λa ha=>bx.none (o9 _ _)<|fr.nf a ha,λa ha=>bx.none I.g.h<|fr.nh a ha,λi a ha hb=>?_] λa ha hb=>?_
 .let#[o,e,_]:=I.ex i a hb;rw[fr.nh a ha]at e;cases e
 .let#[o,e,_]:=aY.ex ds vs f0 V0.r a ha;rw[fr.nh a hb]at e;cases e
def bR.ar(I:bR K F0 H0 U O F H fp)(k:Nat):bR K F0 H0 (U.set k S) O F H (λi=>if i=k then[]else fp i):=by
 have sub:∀i a,a∈(if i=k then[]else fp i)->a∈fp i:=λi a ha=>by grind
 refine#[I.g,by simp[I.len],λi d e=>?_,λi a ha=>I.ex i a<|sub i a ha,λi=>?_,λi a ha=>I.nf i a<|sub i a ha,λi a ha=>I.nh i a<|sub i a ha,λi j a ha hb=>I.dis i j a (sub i a ha)<|sub j a hb]
 .by_cases c:i=k
  .subst c;rw[j_]at e;by_cases hi:i<zl U
   .simp[hi]at e
   .simp[hi]at e
  .rw[dw<|gi c]at e;rw[aG c];exact I.rep i d e
 .by_cases c:i=k
  .rw[aH c];exact gZ
  .rw[aG c];exact I.nd i
def Xg[Ex](hΓ:gC K Q2 Y)(I:bR K F0 H0 U O F H fp)(V0:kJ K H0 F H fp d0 v0 f0)(lt:fc e=L)(he:pE Q2 e U=.c d)(h:∀v F1 H1,bR K F0 H0 U O F1 H1 fp->kJ K H0 F1 H1 fp d0 v0 f0->(∀{x:D},d=x->aX x=L->bA K H1 x v)->Q v H1):wE K Y Ex.E e O H Q:=by
 refine iF hΓ e (I.ab<|cO e) (ku I.g.s) lt ?_;rw[he];intro F' H' v f g fr r;refine h v _ H' (I.ac g) (V0.ac I g) λz ho=>?_;subst z;let#[F2,g2,s2,rf]:=W8 g fr r;exact bA.ac g2.s d v rf
def Xu[Ex](hΓ:gC K Q2 Y){Q:Bool->Hp->Prop}(I:bR K F0 H0 U O F H fp)(lt:fc e=L)(he:pT Q2 e U=.c b)(h:∀F1 H1,bR K F0 H0 U O F1 H1 fp->Q b H1):wT K Y Ex.E e O H Q:=by
 refine Cp hΓ e (I.ab<|cO e) (ku I.g.s) lt ?_;rw[he];exact λF' H' g=>h _ H'<|I.ac g
def Jc{o:Bool}{O:bw}{k:Nat}(h:(o||!is.contains k)=L):(jZ is o O)[k]?=O[k]?:=by
 cases o with
 |true=>rfl
 |false=>
  have hk:k∉is:=by simpa using h
  show(rJ is O)[k]?=_;clear h;induction is generalizing O with
  |nil=>rfl
  |cons i is ih=>
   rw[rJ,ih λz=>hk<|aq _ z,FH,aG λz=>hk (by rw[z];exact aB)]
def bR.ae{k:Nat}{xs:B D}(I:bR K F0 H0 U O F H fp)(e:U[k]?=M (M<|.a L xs)):∃a vs fs,O[k]?=M (M<|.a a)/\H a=M (.a vs)/\zl vs<=aj/\aY K H F xs vs fs/\fp k=a::fs:=by
 let#[v,h1,h2]:=I.rep k _ e;unfold bT at h2;rw[aH rfl]at h2;let#[a,vs,fs,rfl,q]:=h2;exact#[a,vs,fs,h1,q]
def bR.ZE(I:bR K F0 H0 U O F H fp)(e:U[k]?=M (M<|.g L ks xs)):∃a kvs fs,O[k]?=M (M<|.a a)/\H a=M (.e kvs)/\zl kvs<=aj/\(kvs.map (·.1)=ks/\keysOk ks=L)/\aY K H F xs (kvs.map (·.2)) fs/\fp k=a::fs:=by
 let#[v,h1,h2]:=I.rep k _ e;unfold bT at h2;rw[aH rfl]at h2;let#[a,vs,fs,rfl,q]:=h2;exact#[a,vs,fs,h1,q]
def bR.ZF(I:bR K F0 H0 U O F H fp)(e:U[k]?=M (M<|.f L ks xs)):∃a kvs fs,O[k]?=M (M<|.a a)/\H a=M (.c kvs)/\zl kvs<=aj/\(kvs.map (·.1)=ks/\fV ks=L)/\aY K H F xs (kvs.map (·.2)) fs/\fp k=a::fs:=by
 let#[v,h1,h2]:=I.rep k _ e;unfold bT at h2;rw[aH rfl]at h2;let#[a,vs,fs,rfl,q]:=h2;exact#[a,vs,fs,h1,q]
def bR.obj(I:bR K F0 H0 U O F H fp)(e:U[k]?=M (M<|.i L C ks xs)):∃a dx vs fs,O[k]?=M (M<|.a a)/\(H a=M (.g C dx vs)/\H dx=M (.d a))/\zl vs<=1000/\(vs.map (·.1)=ks/\ks.Nodup)/\aY K H F xs (vs.map (·.2)) fs/\fp k=a::dx::fs:=by
 let#[v,h1,h2]:=I.rep k _ e;unfold bT at h2;rw[aH rfl]at h2;let#[a,dx,vs,fs,rfl,q]:=h2;exact#[a,dx,vs,fs,h1,q]
theorem Nh:∀{vs:B<|Str×V},f∉vs.map (·.1)->kH f v vs=vs++[(f,v)]
|[],_=>rfl
|(g,x)::r,h=>by
 have h1:¬g=f:=λz=>h (by rw[z];exact aB);show(if g=f then(g,v)::r else(g,x)::kH f v r)=_;rw[aG h1,Nh λz=>h<|aq _ z];rfl
def bR.am{vs:B<|Str×V}{v:V}(I:bR K F0 H0 U O F H fp)(V:kJ K H0 F H fp d v f)(hσ:O[k]?=M (M<|.a a))(ho:H a=M (.g C dx vs)/\H dx=M (.d a))(hl:zl vs<1000)(hks:vs.map (·.1)=ks/\ks.Nodup)(hr:aY K H F xs (vs.map (·.2)) fs)(hk:fp k=a::dx::fs)(hn:nm∉ks):∃fp',bR K F0 H0 (U.set k<|M<|.i L C (ks++[nm])<|xs++[d]) O F (upd H a<|.g C dx<|kH nm v vs) fp':=by
 have TM:a∈fp k:=by rw[hk];exact aB
 have hn0:=I.nd k;rw[hk]at hn0;let#[na,hn1]:=b9.mp hn0;let#[nx,nfs]:=b9.mp hn1;have hin:∀b∈dx::fs,b∈fp k:=λb hb=>by rw[hk];exact aq _ hb
 have hda:dx≠a:=λz=>na (by rw[<-z];exact aB);have UU:∀b∈fs,b≠a:=λb hb z=>na (by rw[<-z];exact aq _ hb);have haf:∀b∈f,b≠a:=λb hb z=>V.dis k b hb (by rw[z];exact TM);have hs:∀b∈a::dx::(fs++f),b∈fp k\/b∈f:=λb hb=>by grind
 rw[Nh (by rw[hks.1];exact hn)];refine#[_,I.put TM hσ (f:=a::dx::(fs++f)) ?_ ?_ ?_ ?_ ?_]
 .unfold bT;rw[aH rfl];refine#[a,dx,vs++[(nm,v)],fs++f,rfl,#[bZ,by rw[bg hda];exact ho.2],by rw[aZ];exact hl,#[by rw[bl,hks.1];rfl,?_],?_,rfl]
  .exact cL.mpr #[hks.2,b9.mpr #[aF,gZ],λx hx y hy z=>hn (by rw[aK.mp hy]at z;rw[<-z];exact hx)]
  .rw[bl];exact aY.ad (aY.ac (bx.refl _) _ _ _ (λb hb=>bg<|UU b hb) hr)<|aY.one<|bT.ac (bx.refl _) _ _ _ (λb hb=>bg<|haf b hb) V.r
 .refine b9.mpr #[λz=>?_,b9.mpr #[λz=>?_,cL.mpr #[nfs,V.nd,λx hx y hy z=>V.dis k y hy (by rw[<-z];exact hin x<|aq _ hx)]]]
  .rcases aO.mp z with z|z
   .exact hda z.symm
   .rcases bh.mp z with z|z
    .exact UU a z rfl
    .exact haf a z rfl
  .rcases bh.mp z with z|z
   .exact nx z
   .exact V.dis k dx z (hin dx aB)
 .intro b hb;rcases hs b hb with z|z
  .exact I.nf k b z
  .exact V.nf b z
 .intro b hb;rcases hs b hb with z|z
  .exact I.nh k b z
  .exact V.nh b z
 .intro i hi b hb z;rcases hs b hb with y|y
  .exact hi (I.dis i k b z y)
  .exact V.dis i b y z
def S2{k:V->Prop}(h:O[i]?=M (M v))(q:k v):ir O i k:=by
 unfold ir;rw[h];exact q
theorem aY.set:∀{ds:B D}{vs:B V}{fs f:B Addr} (n:Nat) {d:D}{v:V},aY K H F ds vs fs->bT K H F d v f->(fs++f).Nodup->∃fs',aY K H F (ds.set n d) (vs.set n v) fs'/\fs'.Nodup/\∀b∈fs',b∈fs\/b∈f
|[],_,_,_,n,_,_,h,_,nd=>by
 let#[rfl,rfl]:=h;exact#[[],#[rfl,rfl],gZ,λb hb=>aI hb aF]
|e::ds,_,_,f,0,d,v,h,hd,nd=>by
 let#[w,r,f1,f2,rfl,rfl,h3,h4]:=h;refine#[f++f2,#[v,r,f,f2,rfl,rfl,hd,h4],?_,?_]
 .grind
 .grind
|e::ds,_,_,f,n+1,d,v,h,hd,nd=>by
 let#[w,r,f1,f2,rfl,rfl,h3,h4]:=h;have Wx:(f2++f).Nodup/\f1.Nodup/\∀a∈f1,∀b,(b∈f2\/b∈f)->a≠b:=by
  rw[bE]at nd;let#[n1,n2,n3]:=cL.mp nd;exact#[n2,n1,λa ha b hb=>n3 a ha b<|bh.mpr hb]
 let#[fs',q1,q2,q3]:=aY.set n h4 hd Wx.1;refine#[f1++fs',#[w,_,f1,fs',rfl,rfl,h3,q1],cL.mpr #[Wx.2.1,q2,λa ha b hb=>Wx.2.2 a ha b<|q3 b hb],?_];intro b hb;rcases bh.mp hb with hb|hb
 .exact .inl (cz _ hb)
 .grind
theorem aY.split:∀{ds:B D}{vs:B V}{fs:B Addr} (n:Nat),aY K H F ds vs fs->∃f1 f2,fs=f1++f2/\aY K H F (ds.take n) (vs.take n) f1/\aY K H F (ds.drop n) (vs.drop n) f2
|_,_,_,0,h=>#[[],_,rfl,#[rfl,rfl],h]
|[],_,_,n+1,h=>by
 let#[rfl,rfl]:=h;exact#[[],[],rfl,#[rfl,rfl],#[rfl,rfl]]
|d::ds,_,_,n+1,h=>by
 let#[w,r,f1,f2,rfl,rfl,h3,h4]:=h;let#[g1,g2,rfl,q1,q2]:=aY.split n h4;exact#[f1++g1,g2,by simp,#[w,_,f1,g1,rfl,rfl,h3,q1],q2]
def bR.RC{k:Nat}{o:HO}{d':D}{a:Addr}{fs fs' f:B Addr}{d:D}{v:V}(I:bR K F0 H0 U O F H fp)(V:kJ K H0 F H fp d v f)(hσ:O[k]?=M (M<|.a a))(hk:fp k=a::fs)(nd:fs'.Nodup)(sub:∀b∈fs',b∈fs\/b∈f)(hr:(∀b∈fs,upd H a o b=H b)->(∀b∈f,upd H a o b=H b)->bT K (upd H a o) F d' (.a a) (a::fs')):∃fp',bR K F0 H0 (U.set k<|M d') O F (upd H a o) fp':=by
 have TM:a∈fp k:=by rw[hk];exact aB
 have g8:a∉fs/\fs.Nodup:=by have:=I.nd k;rw[hk]at this;exact b9.mp this
 have haf:a∉f:=λz=>V.dis k a z TM;have hs:∀b∈fs',b∈fp k\/b∈f:=λb hb=>by
  rcases sub b hb with z|z
  .exact .inl (by rw[hk];exact aq _ z)
  .exact .inr z
 refine#[_,I.put TM hσ (d:=d') (f:=a::fs') (hr (λb hb=>bg λz=>g8.1 (by rw[<-z];exact hb)) λb hb=>bg λz=>haf (by rw[<-z];exact hb)) ?_ ?_ ?_ ?_]
 .refine b9.mpr #[λz=>?_,nd];rcases sub a z with z|z
  .exact g8.1 z
  .exact haf z
 .intro b hb;rcases aO.mp hb with rfl|hb
  .exact I.nf k b TM
  .rcases hs b hb with z|z
   .exact I.nf k b z
   .exact V.nf b z
 .intro b hb;rcases aO.mp hb with rfl|hb
  .exact I.nh k b TM
  .rcases hs b hb with z|z
   .exact I.nh k b z
   .exact V.nh b z
 .intro i hi b hb hc;rcases aO.mp hb with rfl|hb
  .exact hi (I.dis i k b hc TM)
  .rcases hs b hb with z|z
   .exact hi (I.dis i k b hc z)
   .exact V.dis i b z hc
def bR.ZN{kvs':B<|Key×V}{v:V}(I:bR K F0 H0 U O F H fp)(V:kJ K H0 F H fp d v f)(hσ:O[k]?=M (M<|.a a))(hk:fp k=a::fs)(hl:zl kvs'<=aj)(hks:kvs'.map (·.1)=ks/\keysOk ks=L)(hr:∀{H':Hp},(∀b∈fs,H' b=H b)->(∀b∈f,H' b=H b)->aY K H' F xs' (kvs'.map (·.2)) fs')(nd:fs'.Nodup)(sub:∀b∈fs',b∈fs\/b∈f):∃fp',bR K F0 H0 (U.set k<|M<|.g L ks xs') O F (upd H a<|.e kvs') fp':=I.RC V hσ hk nd sub λh1 h2=>by unfold bT;rw[aH rfl];exact#[a,kvs',fs',rfl,bZ,hl,hks,hr h1 h2,rfl]
def bR.ZO{kvs':B<|B Key×V}{v:V}(I:bR K F0 H0 U O F H fp)(V:kJ K H0 F H fp d v f)(hσ:O[k]?=M (M<|.a a))(hk:fp k=a::fs)(hl:zl kvs'<=aj)(hks:kvs'.map (·.1)=ks/\fV ks=L)(hr:∀{H':Hp},(∀b∈fs,H' b=H b)->(∀b∈f,H' b=H b)->aY K H' F xs' (kvs'.map (·.2)) fs')(nd:fs'.Nodup)(sub:∀b∈fs',b∈fs\/b∈f):∃fp',bR K F0 H0 (U.set k<|M<|.f L ks xs') O F (upd H a<|.c kvs') fp':=I.RC V hσ hk nd sub λh1 h2=>by unfold bT;rw[aH rfl];exact#[a,kvs',fs',rfl,bZ,hl,hks,hr h1 h2,rfl]
def bR.Cr{xs xs':B D}{vs vs':B V}{v:V}(I:bR K F0 H0 U O F H fp)(V:kJ K H0 F H fp d v f)(hσ:O[k]?=M (M<|.a a))(hk:fp k=a::fs)(hl:zl vs'<=aj)(hr:∀{H':Hp},(∀b∈fs,H' b=H b)->(∀b∈f,H' b=H b)->aY K H' F xs' vs' fs')(nd:fs'.Nodup)(sub:∀b∈fs',b∈fs\/b∈f):∃fp',bR K F0 H0 (U.set k<|M<|.a L xs') O F (upd H a<|.a vs') fp':=I.RC V hσ hk nd sub λh1 h2=>by unfold bT;rw[aH rfl];exact#[a,vs',fs',rfl,bZ,hl,hr h1 h2,rfl]
end
section
variable{K:ao}{Q2:B PG}{Y:B G}{F0 H0 F H:Hp}{U:bw}{O:L2.St}{fp:Nat->B Addr}{X:S3}
theorem Xh[Ex](hΓ:gC K Q2 Y):∀(as:mV) {ds acc:B D}{av:B V}{af:B Addr}{U:bw}{F H:Hp}{fp:Nat->B Addr}{Q:B V->Hp->Prop},bR K F0 H0 U O F H fp->rL K H0 F H fp acc av af->rX as=L->lP Q2 as U=.c ds->
 (∀vs F1 H1 σ1 RP f,bR K F0 H0 σ1 O F1 H1 RP->rL K H0 F1 H1 RP (acc++ds) (av++vs) f->Q vs H1)->wEs K Y Ex.E as O H Q
|.nil,ds,acc,av,af,U,F,H,fp,Q,I,V,lt,e,h=>by
 cases e;exact h [] F H U fp af I (by rw[ee,ee];exact V)
|.cons a r,ds,acc,av,af,U,F,H,fp,Q,I,V,lt,e,h=>by
 let#[l1,l2]:=QK lt;have e:(match RB a with
  |some i=>match U[i]? with
   |some (M d)=>(lP Q2 r<|U.set i S).bind λds=>.c (d::ds)
   |_=>.d
  |none=>(pE Q2 a U).bind λd=>.cA (aX d)<|(lP Q2 r U).bind λds=>.c (d::ds))=R.c ds:=e
 cases va:RB a with
 |some i=>
  have ea:a=.a i:=by cases a<;>first|(cases va;rfl)|(cases va)
  subst ea;rw[va]at e;simp only at e;cases q:U[i]? with
  |none=>simp_all
  |some o=>
   cases o with
   |none=>simp_all
   |some d=>
    rw[q]at e;let#[ds',e1,e2]:=c6 e;cases e2;let#[v,h1,h2]:=I.rep i d q;have V1:rL K H0 F H (λj=>if j=i then[]else fp j) (acc++[d]) (av++[v]) (af++fp i):=by
     refine rL.snoc #[V.r,V.nd,V.nf,V.nh,λj a ha=>?_] #[h2,I.nd i,I.nf i,I.nh i,λj a ha=>?_] λa ha hb=>V.dis i a ha hb
     .by_cases c:j=i
      .rw[aH c];exact aF
      .rw[aG c];exact V.dis j a ha
     .by_cases c:j=i
      .rw[aH c];exact aF
      .rw[aG c];exact λz=>c<|I.dis j i a z ha
    refine S2 h1<|Xh hΓ r (I.ar i) V1 l2 e1 λvs F1 H1 σ1 RP f I1 QI=>h (v::vs) F1 H1 σ1 RP f I1 ?_;rw[bE,bE]at QI;exact QI
 |none=>
  rw[va]at e;simp only at e;let#[d,e1,e2]:=c6 e;let#[ho,e2]:=o_ e2;let#[ds',e3,e4]:=c6 e2;cases e4;refine runN hΓ I V l1 e1 ho λv F1 H1 f I1 V1=>?_;refine Xh hΓ r I1 V1 l2 e3 λvs F2 H2 σ2 fp2 f2 I2 QI=>h (v::vs) F2 H2 σ2 fp2 f2 I2 ?_;rw[bE,bE]at QI;exact QI
def afY[Ex](hΓ:gC K Q2 Y)(I:bR K F0 H0 U O F H fp)(lt:fc e=L)(h:eY K F0 H0 ((pM Q2 e U).bH .c) X):wE K Y Ex.E e O H X.rt:=by
 let#[d,e1,h']:=pe h;clear h;have gen:=λhe=>Cq hΓ I lt he λv F1 H1 RP f I1 V1=>h' v F1 H1 f I1.g #[V1.nd,V1.nh,V1.nf] V1.r;cases e with
 |a i=>
  have e1:(match U[i]? with|some (M d)=>R.c d|_=>.d)=.c d:=e1;cases q:U[i]? with
  |none=>simp_all
  |some o=>
   cases o with
   |none=>simp_all
   |some d'=>
    rw[q]at e1;cases e1;let#[v,h1,h2]:=I.rep i d q;exact S2 h1<|h' v F H (fp i) I.g #[I.nd i,I.nh i,I.nf i] h2
 |f as=>
  have e1:(lP Q2 as U).ac (λds=>.cA (decide<|zl ds<=aj)<|.c<|.d ds) (pE Q2 (.f as) U)=.c d:=e1;cases e2:lP Q2 as U with
  |c ds=>
   rw[e2]at e1;let#[c3,e4]:=o_ e1;cases e4;refine Xh hΓ as I (acc:=[]) #[#[rfl,rfl],gZ,λ_ z=>aI z aF,λ_ z=>aI z aF,λ_ _ z=>aI z aF] lt e2 λvs F1 H1 σ1 RP f I1 V=>?_;have hr:aY K H1 F1 ds vs f:=V.r;have hl:zl vs<=aj:=by rw[hr.len];exact aC c3
   refine#[hl,λp hp=>?_];have g2:=GY (o:=.b vs) I1.g.s hp;have I2:=I1.grow g2;have np:∀a∈f,a≠p:=λa ha z=>by
    let#[o,e,_]:=aY.ex ds vs f hr a ha;rw[z,hp]at e;cases e
   exact h' (.a p) _ _ f I2.g #[V.nd,V.nh,λa ha=>by rw[bg<|np a ha];exact V.nf a ha] #[p,vs,rfl,bZ,hl,aY.ac g2.f ds vs f (λa ha=>bg<|np a ha) hr]
  |_=>
   rw[e2]at e1;exact gen e1
 |_=>exact gen e1
theorem aY.at:∀{ds:B D}{vs:B V}{fs:B Addr} (n:Nat) {y:D},aY K H F ds vs fs->ds[n]?=M y->
 ∃w f1 f2 f3,vs[n]?=M w/\fs=f1++(f2++f3)/\bT K H F y w f2/\∀{F1 H':Hp}{y':D}{g:B Addr},bx F F1->(∀b∈f1,H' b=H b)->(∀b∈f3,H' b=H b)->bT K H' F1 y' w g->aY K H' F1 (ds.set n y') vs (f1++(g++f3))
|[],_,_,n,y,h,e=>by simp at e
|d::ds,_,_,0,y,h,e=>by
 let#[v,r,g1,g2,rfl,rfl,h1,h2]:=h;simp at e;subst e;exact#[v,[],g1,g2,rfl,rfl,h1,λs1 _ h3 hr=>#[v,r,_,g2,rfl,rfl,hr,aY.ac s1 _ _ _ h3 h2]]
|d::ds,_,_,n+1,y,h,e=>by
 let#[v,r,g1,g2,rfl,rfl,h1,h2]:=h;let#[w,f1,f2,f3,e1,rfl,q1,q2]:=aY.at n h2 (by simpa using e);refine#[w,g1++f1,f2,f3,by simpa using e1,by simp,q1,λs1 h3 h4 hr=>#[v,r,g1,_,rfl,by simp,bT.ac s1 _ _ _ (λb hb=>h3 b<|cz _ hb) h1,q2 s1 (λb hb=>h3 b<|aR _ hb) h4 hr]]
set_option tactic.hygienic true in
def DPut[Ex](hΓ:gC K Q2 Y)(I:bR K F0 H0 U O F H fp)(lt:fc e=L)(h:eY K F0 H0 (pX Q2 e U) X):wE K Y Ex.E e O H λ_ H1=>X.nx O H1:=by
 have gen:eY K F0 H0 ((pE Q2 e U).bH λ_=>.a U) X->wE K Y Ex.E e O H λ_ H1=>X.nx O H1:=λh=>by
  let#[d,e1,h]:=pe h;exact VL hΓ I lt e1 λv F1 H1 I1 _ _=>h O F1 H1 fp I1
 cases e with
 |l m o as=>
  cases o with
  |a k=>
   let#[_,Rm]:=QK (show(fc (.a k)&&rX as)=L from lt);cases m with
   |a=>
    cases as with
    |nil=>cases h
    |cons a r=>
     cases r with
     |cons _ _=>cases h
     |nil=>
      let#[la,_]:=QK (show(fc a&&rX .nil)=L from Rm);let#[d,e1,h]:=zV (show eY K F0 H0 ((pE Q2 a U).tQ (xG U[k]?) λd=>match U[k]? with|some (M<|.a L xs)=>if(decide (zl xs<aj)&&(aX d||!(cO a).contains k))=L then .a ((jZ (cO a) (aX d) U).set k<|M<|.a L<|xs++[d])else .b|_=>.b) X from h);split at h
      .rename_i xs q;split at h
       .rename_i c;let#[c1,c2]:=QK c;have c1:=aC c1;let#[a0,us,fs,s1,s2,s3,s4,s5]:=I.ae q;refine S2 s1 #[?_,?_]
        .show tF H a0;unfold tF;rw[s2];trivial
        .simp only[wEs];refine Cq hΓ I la e1 λv F1 H1 RP f I1 V1=>?_;let#[a1,R3,RY,t1,t2,t3,t4,t5]:=I1.ae (k:=k) (xs:=xs) (by rw[Jc c2];exact q);rw[s1]at t1;cases t1;show(match H1 a0 with|some (.a xs)=>zl xs<aj/\X.nx O (upd H1 a0<|.a<|xs++[v])|_=>bu);rw[t2];refine#[by rw[t4.len];exact c1,?_];have SH:(RY++f).Nodup:=by
          have n:=I1.nd k;rw[t5]at n;refine cL.mpr #[(b9.mp n).2,V1.nd,λa ha b hb z=>?_];subst z;exact V1.dis k a hb (by rw[t5];exact aq _ ha)
         let#[fp',I']:=I1.Cr (xs:=xs) (xs':=xs++[d]) (vs:=R3) (vs':=R3++[v]) (fs:=RY) (fs':=RY++f) V1 s1 t5 (by rw[aZ,t4.len];simp;omega)
          (λh1 h2=>aY.ad (aY.ac (bx.refl _) _ _ _ h1 t4)<|aY.one<|bT.ac (bx.refl _) _ _ _ h2 V1.r) SH λb hb=>bh.mp hb
         exact h O F1 _ fp' I'
       .exact h.elim
      .exact h.elim
   |e=>
    cases as with
    |nil=>cases h
    |cons a r=>
     cases r with
     |cons _ _=>cases h
     |nil=>
      let#[la,_]:=QK (show(fc a&&rX .nil)=L from Rm);let#[d,e1,h]:=zV (show eY K F0 H0 ((pE Q2 a U).tQ (xG U[k]?) λd=>IZ k (cO a) d U) X from h);unfold IZ at h;split at h
      .rename_i ys;split at h
       .rename_i xs q;split at h
        .rename_i c;let#[c1,c2]:=QK c;have c1:=aC c1;let#[a0,us,fs,s1,s2,s3,s4,s5]:=I.ae q;refine S2 s1 #[?_,?_]
         .show tF H a0;unfold tF;rw[s2];trivial
         .simp only[wEs];refine Cq hΓ I la e1 λv F1 H1 RP f I1 V1=>?_;let#[a1,R3,RY,t1,t2,t3,t4,t5]:=I1.ae (k:=k) (xs:=xs) (by rw[Jc c2];exact q);rw[s1]at t1;cases t1;have rv:=V1.r;unfold bT at rv;rw[aH rfl]at rv;let#[b,ws,f2,rfl,k2,k3,k4,rfl]:=rv;show(match H1 a0 with|some (.a xs)=>∃zs,H1 b=M (.a zs)/\zl xs+zl zs<=aj/\X.nx O (upd H1 a0<|.a<|xs++zs)|_=>bu);rw[t2];refine#[ws,k2,by rw[t4.len,k4.len];exact c1,?_];have Tw:=b9.mp V1.nd;have SH:(RY++f2).Nodup:=by
           have n:=I1.nd k;rw[t5]at n;refine cL.mpr #[(b9.mp n).2,Tw.2,λa ha b hb z=>?_];subst z;exact V1.dis k a (aq _ hb) (by rw[t5];exact aq _ ha)
          let#[fp',I']:=I1.Cr (xs:=xs) (xs':=xs++ys) (vs:=R3) (vs':=R3++ws) (fs:=RY) (fs':=RY++f2) V1 s1 t5 (by rw[aZ,t4.len,k4.len];exact c1)
           (λh1 h2=>aY.ad (aY.ac (bx.refl _) _ _ _ h1 t4)<|aY.ac (bx.refl _) _ _ _ (λb hb=>h2 b<|aq _ hb) k4) SH (λb hb=>by
            rcases bh.mp hb with z|z
            .exact .inl z
            .exact .inr (aq _ z))
          exact h O F1 _ fp' I'
        .exact h.elim
       .exact h.elim
      .exact h.elim
   |d=>
    match as,h,Rm with
    |.nil,h,_=>cases h
    |#v[_],h,_=>cases h
    |.cons _ (.cons _<|.cons _ _),h,_=>cases h
    |#v[i,a],h,Rm=>
     let#[li,l2]:=QK (show(fc i&&rX #v[a])=L from Rm);let#[la,_]:=QK (show(fc a&&rX .nil)=L from l2);let#[j,e1,h]:=zV (b:=W) h;let#[d,e2,h]:=zV (b:=W) h;cases j with
     |b j=>
      have h:eY K F0 H0 (match U[k]? with|some (M<|.a L xs)=>if(decide (0<=j/\j<2 ^ 40/\zl xs<aj)&&aX d)=L then .a (U.set k<|M<|.a L (xs.take j.toNat++d::xs.drop j.toNat))else .b|_=>.b) X:=h;split at h
      .rename_i xs q;split at h
       .rename_i c;let#[c1,c2]:=QK c;have c1:=aC c1;let#[a0,us,fs,s1,s2,s3,s4,s5]:=I.ae q;refine S2 s1 #[?_,?_]
        .show tF H a0;unfold tF;rw[s2];trivial
        .simp only[wEs];refine VL hΓ I li e1 λv F1 H1 I1 _ V1=>?_;let#[f0,V1]:=V1 rfl;let#[rfl,_]:=V1.r;refine VL hΓ I1 la e2 λv F2 H2 I2 _ V2=>?_;let#[f,V2]:=V2 c2;let#[a1,R3,RY,t1,t2,t3,t4,t5]:=I2.ae q;rw[s1]at t1;cases t1;show(match H2 a0 with|some (.a xs)=>(0<=j/\j<2 ^ 40/\zl xs<aj)/\X.nx O (upd H2 a0<|.a (xs.take j.toNat++v::xs.drop j.toNat))|_=>bu);rw[t2];refine#[by rw[t4.len];exact c1,?_];let#[g1,g2,eg,w1,w2]:=aY.split j.toNat t4;subst eg;have SH:(g1++(f++g2)).Nodup:=by
          have n:=I2.nd k;rw[t5]at n;have n:=(b9.mp n).2;let#[n1,n2,n3]:=cL.mp n;have nf:∀b∈f,b∉g1/\b∉g2:=λb hb=>#[λz=>V2.dis k b hb (by rw[t5];exact aq _<|cz _ z),λz=>V2.dis k b hb (by rw[t5];exact aq _<|aR _ z)];refine cL.mpr #[n1,cL.mpr #[V2.nd,n2,λa ha b hb z=>(nf a ha).2 (by rw[z];exact hb)],λa ha b hb z=>?_];rcases bh.mp hb with hb|hb
          .exact(nf b hb).1 (by rw[<-z];exact ha)
          .exact n3 a ha b hb z
         let#[fp',I']:=I2.Cr (xs:=xs) (xs':=xs.take j.toNat++d::xs.drop j.toNat) (vs:=R3) (vs':=R3.take j.toNat++v::R3.drop j.toNat) (fs:=g1++g2) (fs':=g1++(f++g2)) V2 s1 t5 (by
           rw[aZ,cM,cX,cR,t4.len];omega)
          (λh1 h2=>aY.ad (aY.ac (bx.refl _) _ _ _ (λb hb=>h1 b<|cz _ hb) w1) #[v,_,f,g2,rfl,rfl,bT.ac (bx.refl _) _ _ _ h2 V2.r,aY.ac (bx.refl _) _ _ _ (λb hb=>h1 b<|aR _ hb) w2]) SH (λb hb=>by
           rcases bh.mp hb with hb|hb
           .exact .inl (cz _ hb)
           .rcases bh.mp hb with hb|hb
            .exact .inr hb
            .exact .inl (aR _ hb))
         exact h O F2 _ fp' I'
       .exact h.elim
      .exact h.elim
     |_=>cases h
   |_=>exact gen h
  |_=>exact gen h
 |_=>exact gen h
mutual
theorem bT.ab:∀(d:D) (v:V) (f:B Addr),rK d=L->bT K H F d v f->f=[]/\bT K H' F d v []
|.h,v,f,_,h=>#[h.2,h.1,rfl]
|.e b,v,f,_,h=>#[h.2,h.1,rfl]
|.b i,v,f,_,h=>#[h.2,h.1,rfl]
|.c x,v,f,_,h=>#[h.2,h.1,rfl]
|.a _ _,v,f,e,h=>by cases e
|.g _ _ _,v,f,e,h=>by cases e
|.d ds,v,f,e,h=>by
 let#[a,vs,h1,h2,h3,h4]:=h;let#[e1,e2]:=aY.ab ds vs f e h4;exact#[e1,a,vs,h1,h2,h3,e2]
theorem aY.ab:∀(ds:B D) (vs:B V) (f:B Addr),G4 ds=L->aY K H F ds vs f->f=[]/\aY K H' F ds vs []
|[],vs,f,_,h=>#[h.2,h.1,rfl]
|d::ds,vs,f,e,h=>by
 let#[e1,e2]:=QK (show(rK d&&G4 ds)=L from e);let#[v,r,f1,f2,h1,rfl,h3,h4]:=h;let#[rfl,q1]:=bT.ab d v f1 e1 h3;let#[rfl,q2]:=aY.ab ds r f2 e2 h4;exact#[rfl,v,r,[],[],h1,rfl,q1,q2]
end
theorem aY.jA{κ:Type}[fE κ]{kk:κ}(hd:bT K H F d v []):∀{ds:B D}{kvs:B<|κ×V}{fs:B Addr},aY K H F ds (kvs.map (·.2)) fs->∃fs',aY K H F (L3.jA (kvs.map (·.1)) ds kk d) ((kvs.map λkv=>if kv.1=kk then(kv.1,v)else kv).map (·.2)) fs'/\fs'.Sublist fs
|[],[],_,h=>#[[],#[rfl,rfl],by rw[h.2];exact Eo _]
|[],_::_,_,h=>by cases h.1
|_::_,[],_,h=>by
 let#[_,_,_,_,z,_]:=h;cases z
|e::ds,(k,w)::kvs,_,h=>by
 let#[u,r,f1,f2,z,rfl,h3,h4]:=h;simp only[bB]at z;injection z with z1 z2;subst z1 z2;let#[fs',q1,q2]:=aY.jA hd h4;simp only[bB,L3.jA];by_cases hk:k=kk
 .rw[aH hk,aH hk];exact#[fs',#[v,_,[],fs',rfl,rfl,hd,q1],q2.trans<|List.sublist_append_right f1 f2]
 .rw[aG hk,aG hk];exact#[f1++fs',#[w,_,f1,fs',rfl,rfl,h3,q1],adK (Eo _) q2]
theorem Ku:∀{ds:B D}{k:B Key},rG ds=M k->bq ds=L
|[],_,_=>rfl
|d::ds,k,h=>by
 unfold rG at h;cases hd:k_ d with
 |none=>simp_all
 |some q=>
  rw[hd]at h;cases hr:rG ds with
  |none=>simp_all
  |some r=>
   show(aX d&&bq ds)=L;rw[Ku hr,n_];cases d<;>first|rfl|(cases hd)
def ifF(h:iD j=M k):aX j=L:=by
 cases j<;>first|(cases h)|exact Ku h
def Xv[Ex](hΓ:gC K Q2 Y){g:CG}{e:CE}(I:bR K F0 H0 U O F H fp)(lg:Wr g=L)(lt:fc e=L)(h:eY K F0 H0 (pA Q2 g e U) X):wE K Y Ex.E e O H λx H1=>wG K Y Ex.E g x O H1 X.nx:=by
 cases g with
 |a i=>
  let#[d,e1,h]:=pe h;exact Cq hΓ I lt e1 λv F1 H1 RP f I1 V1=>h _ F1 H1 _<|I1.set V1 i
 |b gs=>
  let#[d,e1,h]:=pe h;let#[σ2,e2,h]:=Ng h;refine Cq hΓ I lt e1 λv F1 H1 RP f I1 V1=>?_;exact Xs (.b gs) I1 V1 e2 fun σ' fp' I' _=>h σ' _ H1 fp' I'
 |c o i=>
  let#[_,li]:=QK lg;cases o with
  |a k=>
   let#[d,e1,h]:=pe h;let#[j,e2,h]:=zV h;cases q:U[k]? with
   |none=>simp only[q]at h;exact h.elim
   |some o=>
    cases o with
    |none=>simp only[q]at h;exact h.elim
    |some x=>
     simp only[q]at h;by_cases c:(aX d||!(cO e).contains k)=L
     .rw[aH c]at h;let#[x',e3,h]:=Ng h;have e3:=xE e3;refine Cq hΓ I lt e1 λv F1 H1 RP f I1 V1=>?_;have SH:∀{F2 H2:Hp}{a0:Addr}{RY:B Addr},bR K F0 H0 (jZ (cO e) (aX d) U) O F2 H2 RP->kJ K H0 F2 H2 RP d v f->RP k=a0::RY->(RY++f).Nodup:=λI2 V2 t5=>by
       have n:=I2.nd k;rw[t5]at n;refine cL.mpr #[(b9.mp n).2,V2.nd,λa ha b hb z=>?_];subst z;exact V2.dis k a hb (by rw[t5];exact aq _ ha)
      have q1:(jZ (cO e) (aX d) U)[k]?=M (M x):=by rw[Jc c];exact q
      cases x with
      |a o xs=>
       cases o with
       |false=>cases e3
       |true=>
        cases j with
        |b j=>
         have e3:(kq (zl xs) j).map (λn=>D.a L<|xs.set n d)=M x':=e3;cases en:kq (zl xs) j with
         |none=>rw[en]at e3;cases e3
         |some n=>
          rw[en]at e3;cases e3;let#[a0,us,fs,s1,s2,s3,s4,s5]:=I1.ae q1;refine S2 s1<|Xg hΓ I1 V1 li e2 λw F2 H2 I2 V2 rj=>?_;have rj:=rj rfl rfl;subst rj;let#[a1,R3,RY,t1,t2,t3,t4,t5]:=I2.ae q1;rw[s1]at t1;cases t1;simp only[t2];refine#[j,n,rfl,by rw[t4.len];exact en,?_];let#[fs',q1,q2,q3]:=aY.set n t4 V2.r<|SH I2 V2 t5;let#[fp',I']:=I2.Cr (xs:=xs) (xs':=xs.set n d) (vs:=R3) (vs':=R3.set n v) (fs:=RY) (fs':=fs') V2 s1 t5 (by rw[jf];exact t3)
           (λh1 h2=>aY.ac (bx.refl _) _ _ _ (λb hb=>by
            rcases q3 b hb with z|z
            .exact h1 b z
            .exact h2 b z) q1) q2 q3
          exact h O F2 _ fp' I'
        |_=>cases e3
      |g o ks xs=>
       cases o with
       |false=>cases e3
       |true=>
        have e3:Xe ks xs d j=M x':=e3;unfold Xe at e3;cases ek:k_ j with
        |none=>simp only[ek]at e3;cases e3
        |some kk=>
         simp only[ek]at e3;by_cases c0:zl ks<aj
         .rw[aH c0]at e3;let#[a0,us,fs,s1,s2,s3,s4,s5,s6]:=I1.ZE q1;refine S2 s1<|Xg hΓ I1 V1 li e2 λw F2 H2 I2 V2 rj=>?_;have hj:aX j=L:=by cases j<;>first|rfl|(cases ek)
          have rj:=rj rfl hj;have rk:=rY rj ek;have rl:Sg kk=L:=by
           cases j<;>first|(cases ek;exact aU rj.2)|(cases ek;rfl)|(cases ek)
          subst rk;let#[a1,R3,RY,t1,t2,t3,t4,t5,t6]:=I2.ZE q1;rw[s1]at t1;cases t1;simp only[t2];have hlen:zl R3<aj:=by
           have z:zl R3=zl ks:=by rw[<-t4.1,aa]
           lia
          refine#[kk,rfl,hlen,?_];have hany:(R3.any λkv=>decide<|kv.1=kk)=gw ks kk:=by
           rw[<-t4.1];unfold gw;rw[pZ];rfl
          by_cases hh:gw ks kk=L
          .rw[aH hh]at e3;by_cases hf:rK d=L
           case neg=>rw[aG hf]at e3;cases e3
           rw[aH hf]at e3;cases e3;have e5:QO R3 kk v=R3.map (λkv=>if kv.1=kk then(kv.1,v)else kv):=by
            unfold QO;rw[hany,aH hh]
           rw[e5];let#[ef,hd]:=bT.ab (H':=H2) d v f hf V2.r;subst ef;let#[fs',w1,w2]:=aY.jA (kk:=kk) hd t5;rw[t4.1]at w1;have hm:(R3.map λkv=>if kv.1=kk then(kv.1,v)else kv).map (·.1)=ks:=by
            rw[bG,<-t4.1];apply fT;intro kv _;show(if kv.1=kk then(kv.1,v)else kv).1=kv.1;split<;>rfl
           have n:=I2.nd k;rw[t6]at n;have n:=(b9.mp n).2;let#[fp',I']:=I2.ZN (ks:=ks) (xs':=jA ks xs kk d) (kvs':=R3.map λkv=>if kv.1=kk then(kv.1,v)else kv) (fs:=RY) (fs':=fs') V2 s1 t6 (by rw[aa];exact t3)
            #[hm,t4.2] (λh1 _=>aY.ac (bx.refl _) _ _ _ (λb hb=>h1 b<|w2.subset hb) w1) (w2.nodup n) λb hb=>.inl<|w2.subset hb
           exact h O F2 _ fp' I'
          .rw[aG hh]at e3;cases e3;have e5:QO R3 kk v=R3++[(kk,v)]:=by
            unfold QO;rw[hany,aG hh]
           rw[e5];let#[fp',I']:=I2.ZN (ks:=ks++[kk]) (xs':=xs++[d]) (kvs':=R3++[(kk,v)]) (fs:=RY) (fs':=RY++f) V2 s1 t6 (by simp;lia)
            #[by rw[bl,t4.1];rfl,by
             have z:=t4.2;unfold keysOk at z ⊢;rw[zg,z];simp[rl]]
            (λh1 h2=>by
             rw[bl];exact aY.ad (aY.ac (bx.refl _) _ _ _ h1 t5)<|aY.one<|bT.ac (bx.refl _) _ _ _ h2 V2.r) (SH I2 V2 t6) λb hb=>bh.mp hb
           exact h O F2 _ fp' I'
         .rw[aG c0]at e3;cases e3
      |f o ks xs=>
       cases o with
       |false=>cases e3
       |true=>
        have e3:Nb ks xs d j=M x':=e3;unfold Nb at e3;cases ek:iD j with
        |none=>simp only[ek]at e3;cases e3
        |some kk=>
         simp only[ek]at e3;by_cases c0:zl ks<aj
         .rw[aH c0]at e3;let#[a0,us,fs,s1,s2,s3,s4,s5,s6]:=I1.ZF q1;refine S2 s1<|Xg hΓ I1 V1 li e2 λw F2 H2 I2 V2 rj=>?_;have hj:aX j=L:=ifF ek;have rj:=rj rfl hj;let#[b0,rfl,hb0,rl]:=AR rj ek;let#[a1,R3,RY,t1,t2,t3,t4,t5,t6]:=I2.ZF q1;rw[s1]at t1;cases t1;simp only[t2];have hlen:zl R3<aj:=by
           have z:zl R3=zl ks:=by rw[<-t4.1,aa]
           lia
          refine#[kk,b0,rfl,hb0,hlen,?_];have hany:(R3.any λkv=>decide<|kv.1=kk)=gw ks kk:=by
           rw[<-t4.1];unfold gw;rw[pZ];rfl
          by_cases hh:gw ks kk=L
          .rw[aH hh]at e3;by_cases hf:rK d=L
           case neg=>rw[aG hf]at e3;cases e3
           rw[aH hf]at e3;cases e3;have e5:QO R3 kk v=R3.map (λ(kv:B Key×V)=>if kv.1=kk then(kv.1,v)else kv):=by
            unfold QO;rw[hany,aH hh]
           rw[e5];let#[ef,hd]:=bT.ab (H':=H2) d v f hf V2.r;subst ef;let#[fs',w1,w2]:=aY.jA (kk:=kk) hd t5;rw[t4.1]at w1;have hm:(R3.map λ(kv:B Key×V)=>if kv.1=kk then(kv.1,v)else kv).map (·.1)=ks:=by
            rw[bG,<-t4.1];apply fT;intro kv _;show(if kv.1=kk then(kv.1,v)else kv).1=kv.1;split<;>rfl
           have n:=I2.nd k;rw[t6]at n;have n:=(b9.mp n).2;let#[fp',I']:=I2.ZO (ks:=ks) (xs':=jA ks xs kk d) (kvs':=R3.map λ(kv:B Key×V)=>if kv.1=kk then(kv.1,v)else kv) (fs:=RY) (fs':=fs') V2 s1 t6 (by rw[aa];exact t3)
            #[hm,t4.2] (λh1 _=>aY.ac (bx.refl _) _ _ _ (λb hb=>h1 b<|w2.subset hb) w1) (w2.nodup n) λb hb=>.inl<|w2.subset hb
           exact h O F2 _ fp' I'
          .rw[aG hh]at e3;cases e3;have e5:QO R3 kk v=R3++[(kk,v)]:=by
            unfold QO;rw[hany,aG hh]
           rw[e5];let#[fp',I']:=I2.ZO (ks:=ks++[kk]) (xs':=xs++[d]) (kvs':=R3++[(kk,v)]) (fs:=RY) (fs':=RY++f) V2 s1 t6 (by simp;lia)
            #[by rw[bl,t4.1];rfl,by
             have z:=t4.2;unfold fV at z ⊢;rw[zg,z];simp[rl]]
            (λh1 h2=>by
             rw[bl];exact aY.ad (aY.ac (bx.refl _) _ _ _ h1 t5)<|aY.one<|bT.ac (bx.refl _) _ _ _ h2 V2.r) (SH I2 V2 t6) λb hb=>bh.mp hb
           exact h O F2 _ fp' I'
         .rw[aG c0]at e3;cases e3
      |_=>cases e3
     .rw[aG c]at h;exact h.elim
  |_=>cases h
theorem Kv:∀(ds:B D) (n:Nat),aD ds=ds->aD (iW n ds)=iW n ds
|[],_,_=>rfl
|d::r,n,h=>by
 have h':=h;injection h' with h1 h2;show D.d [.b (n:J),br d]::aD (iW (n+1) r)=_;rw[h1,Kv r (n+1) h2];rfl
def isI(ds:B D):aD ds.reverse=(aD ds).reverse:=by
 induction ds with
 |nil=>rfl
 |cons d r ih=>rw[ic,rZ,ih];show _=(br d::aD r).reverse;rw[ic];rfl
def ad8(h:pI Q2 src U=.c items):aD items.2=items.2:=by
 cases src with
 |a a=>
  let#[x,e1,e2]:=c6 h;let#[ds,e3,e4]:=c6 e2;cases e4;cases x with
  |c z=>cases e3;exact dj _ (λ_=>rfl) _
  |a o xs=>cases e3;exact jI xs
  |d xs=>cases e3;exact jI xs
  |_=>cases e3
 |b as=>
  let#[x,e1,e2]:=c6 h;let#[ds,e3,e4]:=c6 e2;cases e4;rcases x with _|⟨v,_|⟨v2,r⟩⟩
  .cases e3
  .cases v<;>first|cases e3;done|skip
   let#[_,e5]:=o_ e3;cases e5;exact dj _ (λ_=>rfl) _
  .cases v<;>cases e3
 |c a=>
  let#[x,e1,e2]:=c6 h;cases x with
  |a o xs=>cases e2;exact Kv _ 0<|jI xs
  |_=>cases e2
 |d a=>
  let#[x,e1,e2]:=c6 h;cases x with
  |a o xs=>cases e2;rw[isI,jI]
  |_=>cases e2
 |e a=>cases h
theorem RD[Ex]{ok:Hp->Prop}(hok:∀Rk,bx QJ Rk->ok Rk)(hb:∀{U:bw}{O:L2.St}{F H:Hp}{fp:Nat->B Addr}{X:S3},bR K QJ H0 U O F H fp->eY K QJ H0 (bK Q2 n b U) X->wSs K Y Ex.E b X O H):∀(ds:B D) (its:B R6) {U:bw}{O:L2.St}{F H:Hp}{fp:Nat->B Addr},bR K QJ H0 U O F H fp->lA K QJ ds its->eY K QJ H0 (QS (pG g) (bK Q2 n b) (aD ds) U) X->SM ok (wG K Y Ex.E g) (wSs K Y Ex.E b) X its O H
|[],its,U,O,F,H,fp,I,hi,h=>by
 cases hi;exact#[hok H<|I.g.f.trans I.g.s,h O F H fp I]
|d::ds,its,U,O,F,H,fp,I,hi,h=>by
 let#[it,r,rfl,i1,i2]:=hi;have hit:VU K F d it:=by
  cases it with
  |v x=>exact bA.ac I.g.f d x i1
  |a xs=>let#[es,q1,q2,q3]:=i1;exact#[es,q1,aT.ac I.g.f es xs q2,q3]
 refine#[hok H<|I.g.f.trans I.g.s,Kl I.g.s hit λF1 H1 v g1 r1=>?_];let#[σ2,e1,h]:=Ng h;refine o4 g (I.grow g1) r1 e1 fun σ' fp' I'=>?_;refine hb I' ?_;cases q:bK Q2 n b σ2 with
 |a σ3=>simp only[q]at h;exact λO F H fp I3=>RD hok hb ds r I3 i2 h
 |d σ3=>simp only[q]at h;exact λO F H fp I3=>RD hok hb ds r I3 i2 h
 |e σ3=>simp only[q]at h;exact h
 |c d=>simp only[q]at h;exact h
 |b=>simp only[q]at h;exact h.elim
end
set_option tactic.hygienic true
def afZ[Ex](hΓ:gC K Q2 Y){fp:Nat->B Addr}(I:bR K F0 H0 U O F H fp)(lt:fc e=L)(h:eY K F0 H0 (pS Q2 n (.g i e) U) X):wS K Y Ex.E (.g i e) X O H:=by
 have h:eY K F0 H0 (match U[i]? with
  |some (M<|.b a)=>(pE Q2 e U).bH λd=>Mj i a U d
  |_=>.b) X:=h
 split at h
 .rename_i a q;let#[v,h1,h2]:=(I.ab [i]).e i (aK.mpr rfl) (.b a) q;obtain rfl:v=.b a:=h2;refine#[.b a,h1,?_];let#[d,e1,h]:=pe h;unfold Mj at h;split at h
  .rename_i b;refine VL hΓ I lt e1 λw F1 H1 I1 _ V1=>?_;let#[f0,V1]:=V1 rfl;let#[rfl,_]:=V1.r;exact#[a,b,rfl,rfl,h _ F1 H1 _ (I1.set (kJ.Xf (show bA K F1 (.b<|a+b) (.b<|a+b)from rfl)) i)]
  .exact h.elim
 .exact h.elim
def af0[Ex]{fp:Nat->B Addr}(I:bR K F0 H0 U O F H fp)(h:eY K F0 H0 (pS Q2 n' (.i k j n) U) X):wS K Y Ex.E (.i k j n) X O H:=by
 have h:eY K F0 H0 (I_ k n U U[k]? U[j]?) X:=h;generalize e1:U[k]?=x,e2:U[j]?=y at h;rcases x with _|_|x<;>first|exact aE h|skip
 cases x<;>first|exact aE h|skip
 rename_i o xs;cases o<;>first|exact aE h|skip
 rcases y with _|_|y<;>first|exact aE h|skip
 cases y<;>first|exact aE h|skip
 rename_i i;unfold I_ at h;dsimp only at h;cases e3:kq (zl xs) i with
 |none=>rw[e3]at h;exact aE h
 |some p=>
 rw[e3]at h;dsimp only at h;cases e4:xs[p]? with
 |none=>rw[e4]at h;exact aE h
 |some z=>
 rw[e4]at h;cases z<;>first|exact aE h|skip
 rename_i m;let#[a,vs,fs,s1,s2,s3,s4,s5]:=I.ae e1;let#[v,h1,h2]:=(I.ab [j]).e j (aK.mpr rfl) (.b i) e2;obtain rfl:v=.b i:=h2;let#[w,f1,f2,f3,t1,t2,t3,_]:=aY.at p s4 e4;let#[rfl,_]:=t3;have n0:=I.nd k;rw[s5]at n0;have n0:=(b9.mp n0).2;let#[fs',w1,w2,w3]:=aY.set p s4 (show bT K H F (.b<|m+n) (.b<|m+n) []from#[rfl,rfl]) (by rw[ee];exact n0);have w3:∀b∈fs',b∈fs:=λb hb=>(w3 b hb).elim id λz=>aI z aF;let#[fp',I']:=I.Cr (xs:=xs) (xs':=xs.set p<|.b<|m+n) (vs:=vs) (vs':=vs.set p<|.b<|m+n) (fs:=fs) (fs':=fs') (kJ.Xf (d:=.b<|m+n) (show bA K F (.b<|m+n) (.b<|m+n)from rfl)) s1 s5 (by rw[jf];exact s3)
  (λh1 _=>aY.ac (bx.refl _) _ _ _ (λb hb=>h1 b<|w3 b hb) w1) w2 λb hb=>.inl<|w3 b hb
 exact S2 s1 (S2 h1 #[a,vs,i,p,m,rfl,s2,rfl,by rw[s4.len];exact e3,t1,h O F _ fp' I'])
def af1[Ex]{fp:Nat->B Addr}(I:bR K F0 H0 U O F H fp)(h:eY K F0 H0 (pS Q2 n' (.l i nl j k) U) X):wS K Y Ex.E (.l i nl j k) X O H:=by
 have h:eY K F0 H0 (Ja i nl U U[j]? U[k]?) X:=h;generalize e1:U[j]?=x,e2:U[k]?=y at h;rcases x with _|_|x<;>first|exact aE h|skip
 cases x<;>first|exact aE h|skip
 rename_i n;rcases y with _|_|y<;>first|exact aE h|skip
 cases y<;>first|exact aE h|skip
 rename_i o ks xs;unfold Ja at h;dsimp only at h;split at h
 .rename_i hc;let#[c1,c2]:=QK hc;let#[v,h1,h2]:=(I.ab [j]).e j (aK.mpr rfl) (.b n) e1;obtain rfl:v=.b n:=h2;let#[w,h3,h4]:=(I.ab [k]).e k (aK.mpr rfl) _ e2;refine#[aC c1,S2 h1<|S2 h3 #[n,rfl,afV (ku I.g.s) h4 c2 ?_]];intro F' H' v f g fr r;have ho:aX (.a L<|IU n ks)=L:=UnR;refine h _ _ _ _<|(I.ac g).set (kJ.mk (bT.am (tT g.s<|(I.lists _).ac g.h) _ v f ho r) fr.nd (λa ha=>bx.none (o9 _ _)<|fr.nf a ha) (λa ha=>bx.none I.g.h<|fr.nh a ha) λi a ha hb=>?_) i;let#[o,e,_]:=I.ex i a hb;rw[fr.nh a ha]at e;cases e
 .exact h.elim
def Ul[Ex](hΓ:gC K Q2 Y){fp:Nat->B Addr}(hX:∀H',X.nx O H'->S7.nx O H')(I:bR K F0 H0 U O F H fp)(lt:fc e=L)(h:eY K F0 H0 (pS Q2 n (.f g k f e) U) X):wS K Y Ex.E (.f g k f e) S7 O H:=by
 let#[d,e1,h]:=pe (show eY K F0 H0 ((pE Q2 e U).bH λd=>DU Q2[g]? k f (jZ (cO e) (aX d) U) d) X from h);refine Cq hΓ I lt e1 λv F1 H1 RP fv I1 V1=>?_;unfold DU at h;generalize eg:Q2[g]?=x,ek:(jZ (cO e) (aX d) U)[k]?=y at h;rcases x with _|x<;>first|exact aE h|skip
 cases x<;>first|exact aE h|skip
 rename_i C as;rcases y with _|_|y<;>first|exact aE h|skip
 cases y<;>first|exact aE h|skip
 rename_i o C' ks xs;cases o<;>first|exact aE h|skip
 dsimp only at h;split at h
 .rename_i hc;let#[c1,c2,c3,c4]:=hc;subst c2;let#[g',e2,e3]:=hΓ.get g eg;cases g'<;>first|exact e3.elim|skip
  let#[rfl,rfl]:=e3;rw[e2];let#[a,dx,vs,fs,s1,s2,s3,s4,s5,s6]:=I1.obj ek;have hl:zl vs<1000:=by rw[<-s4.1,aa]at c4;exact c4
  let#[fp',I']:=I1.am V1 s1 s2 hl s4 s5 s6 c3;exact#[c1,S2 s1 #[a,dx,vs,rfl,s2.1,hl,hX _<|h O F1 _ fp' I']]
 .exact h.elim
set_option tactic.hygienic false
mutual
theorem hxyz(hΓ:gC K Q2 Y)[Ex]:∀(c:CS) {F0 H0 F H:Hp}{U:bw}{O:L2.St}{fp:Nat->B Addr}{X:S3},Ru K Q2 Y H0->bR K F0 H0 U O F H fp->Ws c=L->eY K F0 H0 (pS Q2 n c U) X->wS K Y Ex.E c X O H
|.e e,F0,H0,F,H,U,O,fp,X,RU,I,lt,h=>DPut hΓ I lt h
|.d g e,F0,H0,F,H,U,O,fp,X,RU,I,lt,h=>Xv hΓ I (QK lt).1 (QK lt).2 h
|.g i e,F0,H0,F,H,U,O,fp,X,RU,I,lt,h=>afZ hΓ I lt h
|.i k j n,F0,H0,F,H,U,O,fp,X,RU,I,lt,h=>af0 I h
|.l i nl j k,F0,H0,F,H,U,O,fp,X,RU,I,lt,h=>af1 I h
|.f g k f e,F0,H0,F,H,U,O,fp,X,RU,I,lt,h=>Ul (X:=X) hΓ (λ_ q=>q) I lt h
|.h i e,F0,H0,F,H,U,O,fp,X,RU,I,lt,h=>by
 let#[d,e1,h]:=pe (show eY K F0 H0 ((pE Q2 e U).bH λd=>.a<|(jZ (cO e) (aX d) U).set i<|M d) X from h);exact Cq hΓ I lt e1 λv F1 H1 RP f I1 V1=>h _ F1 H1 _<|I1.set V1 i
|.k g e,F0,H0,F,H,U,O,fp,X,RU,I,lt,h=>Xv hΓ I (QK lt).1 (QK lt).2 h
|.a e,F0,H0,F,H,U,O,fp,X,RU,I,lt,h=>afY hΓ I lt h
|.b c a b,F0,H0,F,H,U,O,fp,X,RU,I,lt,h=>by
 let#[l1,l2]:=QK (show(fc c&&(qJ a&&qJ b))=L from lt);let#[l2,l3]:=QK l2;let#[k,e1,h]:=pe (show eY K F0 H0 ((pT Q2 c U).bH λk=>if k=L then bK Q2 n a U else bK Q2 n b U) X from h);refine Xu hΓ I l1 e1 λF1 H1 I1=>?_;cases k with
 |true=>exact Jd hΓ a RU I1 l2 h
 |false=>exact Jd hΓ b RU I1 l3 h
|.j c b,F0,H0,F,H,U,O,fp,X,RU,I,lt,h=>by
 let#[l1,l2]:=QK (show(fc c&&qJ b)=L from lt);refine#[λm O H=>∃U F fp,bR K F0 H0 U O F H fp/\eY K F0 H0 (tR (pT Q2 c) (bK Q2 n b) m U) X,#[n,U,F,fp,I,h],?_];intro m O H z0;let#[U,F,fp,I,h]:=z0;cases m with
 |zero=>cases h
 |succ m=>
  let#[k,e1,h]:=pe (show eY K F0 H0 ((pT Q2 c U).bH λk=>if k=L then match bK Q2 n b U with
   |.a σ3=>tR (pT Q2 c) (bK Q2 n b) m σ3
   |.d σ3=>tR (pT Q2 c) (bK Q2 n b) m σ3
   |.e σ3=>.a σ3
   |.c d=>.c d
   |.b=>.b
   else .a U) X from h)
  refine Xu hΓ I l1 e1 λF1 H1 I1=>?_;cases k with
  |false=>
   rw[aG bY]at h;rw[aG bY];exact h O F1 H1 fp I1
  |true=>
   rw[aH rfl]at h;rw[aH rfl];refine#[λO H=>∃U F fp,bR K F0 H0 U O F H fp/\eY K F0 H0 (tR (pT Q2 c) (bK Q2 n b) m U) X,fun σ' H' z=>#[m,iM m,z],?_];refine Jd (n:=n) hΓ b RU I1 l2 ?_;cases q:bK Q2 n b U with
   |a σ3=>simp only[q]at h;exact λO F H fp I3=>#[σ3,F,fp,I3,h]
   |d σ3=>simp only[q]at h;exact λO F H fp I3=>#[σ3,F,fp,I3,h]
   |e σ3=>simp only[q]at h;exact h
   |c d=>simp only[q]at h;exact h
   |b=>simp only[q]at h;exact h.elim
|.c g src b,F0,H0,F,H,U,O,fp,X,RU,I,lt,h=>by
 let#[l1,l2]:=QK (show(ltI src&&qJ b)=L from lt);let#[items,e1,h]:=pe (show eY K F0 H0 ((pI Q2 src U).bH λitems=>QS (pG g) (bK Q2 n b) items.2<|jZ (yJ src) items.1 U) X from h);refine oi hΓ src (RH fp<|yJ src) (I.ab<|yJ src) (ku I.g.s) (I.lists _) l1 ?_;rw[e1];intro F' H' ok its g1 hok hi hl;obtain⟨fp',I'⟩:∃fp',bR K F0 H0 (jZ (yJ src) items.1 U) O (wV items.1 F'<|RH fp<|yJ src) H' fp':=by
  cases items.1 with
  |true=>exact#[fp,I.ac g1]
  |false=>exact#[_,I.iG g1]
 have hf:aD items.2=items.2:=ad8 e1;have h:=eY.ad I'.g h;rw[<-hf]at h;exact RD hok (λI3 h3=>Jd hΓ b RU I3 l2 h3) items.2 its I'.ad hi h
|.n,F0,H0,F,H,U,O,fp,X,RU,I,lt,h=>h O F H fp I
|.m,F0,H0,F,H,U,O,fp,X,RU,I,lt,h=>h O F H fp I
|.o,F0,H0,F,H,U,O,fp,X,RU,I,lt,h=>h.elim
theorem Jd(hΓ:gC K Q2 Y)[Ex]:∀(c:cC) {F0 H0 F H:Hp}{U:bw}{O:L2.St}{fp:Nat->B Addr}{X:S3},Ru K Q2 Y H0->bR K F0 H0 U O F H fp->qJ c=L->eY K F0 H0 (bK Q2 n c U) X->wSs K Y Ex.E c X O H
|.nil,F0,H0,F,H,U,O,fp,X,RU,I,lt,h=>h O F H fp I
|.cons s r,F0,H0,F,H,U,O,fp,X,RU,I,lt,h=>by
 let#[l1,l2]:=QK (show(Ws s&&qJ r)=L from lt);have h:eY K F0 H0 (match pS Q2 n s U with|.a σ'=>bK Q2 n r σ'|x=>x) X:=h;refine hxyz (n:=n) hΓ s RU I l1 ?_;cases q:pS Q2 n s U with
 |a σ'=>simp only[q]at h;exact λO F H fp I'=>Jd hΓ r RU I' l2 h
 |e σ'=>simp only[q]at h;exact h
 |d σ'=>simp only[q]at h;exact h
 |c d=>simp only[q]at h;exact h
 |b=>simp only[q]at h;exact h.elim
end
def abd[Ex]{K:ao}{Q2:B PG}{Y:B G}(hΓ:gC K Q2 Y)(RU:∀H0,Ru K Q2 Y H0){n:Nat}{N:B Str}{c:cC}(lt:qJ c=L){m:B D->R D}{vs:B V}{H:Hp}{Q:VK}(hm:∀ds,m ds≠.d->zl ds<=zl N/\Nc Q2 n N c ds=m ds)(h:∃F ds,bx F H/\aD ds=ds/\aT K F ds vs/\PV K F H (m ds) Q):wSs K Y Ex.E c { nx:=λ_ H'=>Q .d H',rt:=Q } (vs.map M++aL (zl N-zl vs) S) H:=by
 let#[F,ds,s,hz,r,h]:=h;have hb:m ds≠.d:=λz=>by rw[z]at h;exact h
 let#[hl,hr]:=hm ds hb;rw[<-hr]at h;have I:bR K F H (nX N ds) (vs.map M++aL (zl N-zl vs) S) F H (λ_=>[]):=by
  refine#[cH.refl s,?_,λi d' q=>?_,λ_ _ ha=>aI ha aF,λ_=>gZ,λ_ _ ha=>aI ha aF,λ_ _ ha=>aI ha aF,λ_ _ _ ha=>aI ha aF]
  .unfold nX;simp[r.len]
  .unfold nX at q;by_cases hi:i<zl ds
   .rw[bJ (by simpa using hi),aJ]at q;cases z:ds[i]? with
    |none=>rw[z]at q;cases q
    |some d2=>
     rw[z]at q;cases q;let#[v,e1,e2]:=r.get i z;have hf:br d'=d':=by
      have:∀(l:B D) (i:Nat) (x:D),aD l=l->l[i]?=M x->br x=x:=by
       intro l;induction l with
       |nil=>intro i x _ h;simp at h
       |cons y l ih=>
        intro i x h1 h2;injection h1 with h3 h4;cases i with
        |zero=>simp at h2;subst h2;exact h3
        |succ i=>exact ih i x h4<|by simpa using h2
      exact this ds i d' hz z
     refine#[v,?_,?_]
     .rw[bJ (by simp[r.len,hi]),aJ,e1];rfl
     .have:=bA.yH (H:=H) d' v e2;rw[hf]at this;exact this
   .rw[eG<|by simpa using hi]at q;rw[gj]at q;split at q<;>cases q
 refine Jd (n:=n) hΓ c (RU _) I lt ?_;unfold Nc at h;cases q:bK Q2 n c (nX N ds)with
 |a O=>rw[q]at h;exact λO F' H' fp I'=>h F' H' .d [] I'.g .nil #[rfl,rfl]
 |c d'=>rw[q]at h;exact λv F' H' f g fr rx=>h F' H' v f g fr rx
 |e O=>rw[q]at h;exact h.elim
 |d O=>rw[q]at h;exact h.elim
 |b=>rw[q]at h;exact h.elim
def G5(K:ao)(mg:Str->LD B5)(x:Str)(st:Stmt)(ps:B Str):Prop:=
 ∃(f:Addr) (fd:fi),xx K x x st f fd/\mg x=M (.ref f)/\RZ K fd ps []
def G5.has{mg:Str->LD B5}(D:G5 K mg x st ps)(hok:∀f fd,xx K x x st f fd->iB P w K mg base (mU P w) k f fd ps sp):IS P w K mg base k x (.a sp []):=by
 let#[f,fd,F,hm,hb]:=D;exact .inl #[f,fd,ps,[],hok f fd F,hm,F.kp,hb,.nil]
def eX(Q2:B PG)(n:Nat)(N:B Str)(k:Nat)(c:cC)(ds:B D):R D:=if zl ds=k then Nc Q2 n N c ds else .d
def RE(Q2:B PG):Prop:=∀m,PG.d m∉Q2
def RE.hd(h:RE Q2)(H0:Hp):Ru K Q2 Y H0:=λ_ m z=>aI (dz z)<|h m
def Xk(Y:B G):Prop:=∀Pa,G.b Pa∉Y
def Xk.hl{mg:Str->LD B5}(h:Xk Y)(i:Nat)(Pa:Addr)(e:Y[i]?=M (.b Pa)):M2 K mg fd Pa:=aI (dz e)<|h Pa
section
variable{P:bS}{w:bO}{K:ao}{mg:Str->LD B5}{base:Heap}
def ZP(c:cC)(F:xx K x qual st f fd)(Q7:uG N ps<|dH st)(hc:ve #[N,dH st,gl,bn,(λ_=>L),L,W] c (jg st)=L)(hg:Ce P w K mg base k gl Y)(hΓ:gC K Q2 Y)(nf:RE Q2)(hl:∀(i:Nat) Pa,Y[i]?=M (.b Pa)->M2 K mg fd Pa)(lt:qJ c=L)(hb:∀x∈bn,mg x=S)(hN:zl ps<=zl N):iB P w K mg base (mU P w) (k+1) f fd ps (zU K<|eX Q2 n N (zl ps) c):=by
 have hm:∀ds,eX Q2 n N (zl ps) c ds≠.d->zl ds=zl ps/\Nc Q2 n N c ds=eX Q2 n N (zl ps) c ds:=by
  intro ds h;unfold eX at h ⊢;by_cases e:zl ds=zl ps
  .rw[aH e];exact#[e,rfl]
  .rw[aG e]at h;exact aI rfl h
 refine T3 c F Q7 hc hg hl hb ?_ ?_
 .intro vs H Q E z0;let#[Fh,ds,s,hz,r,h]:=z0;rw[r.len];exact(hm ds λz=>by rw[z]at h;exact h).1
 .intro vs H Q E h;exact@abd ⟨E⟩ K Q2 Y hΓ nf.hd n N c lt _ vs H Q (λds e=>#[by rw[(hm ds e).1];exact hN,(hm ds e).2]) h
end
noncomputable def LN:cC->Bool
|.nil=>L
|.cons (.f _ _ _ _) r=>LN r
|_=>W
noncomputable def Xw(o:LD<|LD D):R D:=match o with
|some (M<|.i L C ks xs)=>.c<|.i L C ks xs
|_=>.d
def RG(fl:Fl):R D:=match fl with
|.a O=>Xw O[0]?
|_=>.d
def FI(Q2:B PG)(n:Nat)(N:B Str)(k:Nat)(C:Addr)(c:cC)(ds:B D):R D:=if zl ds+1=k then RG (bK Q2 n c<|nX N (.i L C [] []::ds))else .d
def XE(K:ao)(C:Addr)(m:B D->R D):Sp:=λvs H Q E=>∃x dx vr H0 Q0,vs=.a x::vr/\H=upd (upd H0 dx<|.d x) x (.g C dx [])/\H0 x=S/\H0 dx=S/\dx≠x/\zU K m vr H0 Q0 E/\∀H2,Q0 (.a x) H2->Q .d H2
def aea{m:B D->R D}:WW C (XE K C m) (zU K m):=λvs H Q _ h x dx h1 h2 h3=>#[x,dx,vs,H,Q,rfl,rfl,h1,h2,h3,h,λ_ q=>#[rfl,q]]
set_option tactic.hygienic true in
theorem ZQ[Ex](hΓ:gC K Q2 Y):∀(c:cC) {F H:Hp}{U:bw}{fp:Nat->B Addr},LN c=L->bR K F0 H0 U O F H fp->qJ c=L->eY K F0 H0 (bK Q2 n c U) { X with nx:=fun σ' H'=>σ'=O->X.nx σ' H' }->wSs K Y Ex.E c X O H
|.nil,F,H,U,fp,_,I,_,h=>h O F H fp I rfl
|.cons s r,F,H,U,fp,o,I,lt,h=>by
 cases s<;>first|cases o|skip
 rename_i g k f e;let#[l1,l2]:=nT.mp lt;have h:eY K F0 H0 (match pS Q2 n (.f g k f e) U with|.a σ'=>bK Q2 n r σ'|x=>x) { X with nx:=fun σ' H'=>σ'=O->X.nx σ' H' }:=h;refine Ul (n:=n) (X:={ X with nx:=fun σ' H'=>σ'=O->wSs K Y Ex.E r X σ' H' }) hΓ (λ_ q=>q rfl) I l1 ?_;cases q:pS Q2 n (.f g k f e) U with
 |a σ'=>rw[q]at h;exact fun σ1 F1 H1 RP I1 e1=>by subst e1;exact ZQ hΓ r o I1 l2 h
 |d σ'=>rw[q]at h;exact h
 |e σ'=>rw[q]at h;exact h
 |c d=>rw[q]at h;exact h
 |b=>rw[q]at h;exact h.elim
theorem Ni:∀(l:B D) (i:Nat) (x:D),aD l=l->l[i]?=M x->br x=x
|[],i,x,_,h=>by simp at h
|y::l,i,x,h1,h2=>by
 injection h1 with h3 h4;cases i with
 |zero=>simp at h2;subst h2;exact h3
 |succ i=>exact Ni l i x h4<|by simpa using h2
section
variable{P:bS}{w:bO}{K:ao}{mg:Str->LD B5}{base:Heap}
set_option tactic.hygienic true in
def isL(c:cC)(F:xx K x qual st f fd)(Q7:uG N ps<|dH st)(hc:ve #[N,dH st,gl,bn,(λ_=>L),L,W] c (jg st)=L)(hg:Ce P w K mg base k gl Y)(hΓ:gC K Q2 Y)(hl:∀(i:Nat) Pa,Y[i]?=M (.b Pa)->M2 K mg fd Pa)(lt:qJ c=L)(ho:LN c=L)(hb:∀x∈bn,mg x=S)(hN:zl ps<=zl N):iB P w K mg base (mU P w) (k+1) f fd ps (XE K C<|FI Q2 n N (zl ps) C c):=by
 have hm:∀ds,FI Q2 n N (zl ps) C c ds≠.d->zl ds+1=zl ps/\RG (bK Q2 n c<|nX N (.i L C [] []::ds))=FI Q2 n N (zl ps) C c ds:=by
  intro ds h;unfold FI at h ⊢;by_cases e:zl ds+1=zl ps
  .rw[aH e];exact#[e,rfl]
  .rw[aG e]at h;exact aI rfl h
 refine T3 c F Q7 hc hg hl hb ?_ ?_
 .rintro vs H Q E ⟨y,dy,vr,H0,Q0,rfl,-,-,-,-,⟨Fh,ds,s,hz,r,h⟩,-⟩;rw[cX,r.len];exact(hm ds λz=>by rw[z]at h;exact h).1
 .intro vs H Q E z0;let#[y,dy,vr,H0,Q0,rfl,rfl,n1,n2,n3,#[Fh,ds,s,hz,r,h],hq]:=z0;have hbd:FI Q2 n N (zl ps) C c ds≠.d:=λz=>by rw[z]at h;exact h
  let#[hl,hr]:=hm ds hbd;rw[<-hr]at h;have f1:=bx.none s n1;have f2:=bx.none s n2;have sH:bx H0 (upd (upd H0 dy<|.d y) y<|.g C dy []):=λb u q=>by rw[bg<|cj q n1,bg<|cj q n2];exact q
  have hy:upd (upd H0 dy<|.d y) y (.g C dy []) y=M (.g C dy []):=bZ;have Yw:upd (upd H0 dy<|.d y) y (.g C dy []) dy=M (.d y):=by rw[bg n3];exact bZ
  have hfp:∀i a,a∈(if i=0 then[y,dy]else[])->i=0/\(a=y\/a=dy):=λi a ha=>by grind
  have I:bR K Fh H0 (nX N (.i L C [] []::ds)) (adt N (.a y::vr)) Fh (upd (upd H0 dy<|.d y) y<|.g C dy []) (λi=>if i=0 then[y,dy]else[]):=by
   refine#[#[sH,bx.refl _,λb u q=>sH b u<|s b u q,λb o h h'=>by rw[h]at h';cases h'],?_,λi d' q=>?_,λi a ha=>?_,λi=>?_,λi a ha=>?_,λi a ha=>?_,λi j a ha hb=>?_]
   .unfold nX L2.adt;simp[r.len]
   .cases i with
    |zero=>
     obtain rfl:D.i L C [] []=d':=by
      have q:M (M<|D.i L C [] [])=M (M d'):=q;injection q with q;injection q
     refine#[.a y,rfl,?_];unfold bT;rw[aH rfl];exact#[y,dy,[],[],rfl,#[hy,Yw],by simp,#[rfl,gZ],#[rfl,rfl],rfl]
    |succ i=>
     unfold nX at q;by_cases hi:i<zl ds
     .have q:(ds.map M++aL (zl N-(zl ds+1)) S)[i]?=M (M d'):=q;rw[bJ (by simpa using hi),aJ]at q;cases z:ds[i]? with
      |none=>rw[z]at q;cases q
      |some d2=>
       rw[z]at q;cases q;let#[v,e1,e2]:=r.get i z;refine#[v,?_,?_]
       .show(vr.map M++aL (zl N-(zl vr+1)) S)[i]?=M (M v);rw[bJ (by simp[r.len,hi]),aJ,e1];rfl
       .have:=bA.yH (H:=upd (upd H0 dy<|.d y) y<|.g C dy []) d' v e2;rw[Ni ds i d' hz z]at this;exact this
     .have q:(ds.map M++aL (zl N-(zl ds+1)) S)[i]?=M (M d'):=q;rw[eG (by simpa using hi),gj]at q;split at q<;>cases q
   .obtain⟨-,rfl|rfl⟩:=hfp i a ha
    .exact#[_,hy,trivial]
    .exact#[_,Yw,trivial]
   .grind
   .obtain⟨-,rfl|rfl⟩:=hfp i a ha
    .exact f1
    .exact f2
   .obtain⟨-,rfl|rfl⟩:=hfp i a ha
    .exact n1
    .exact n2
   .rw[(hfp i a ha).1,(hfp j a hb).1]
  letI:Ex:=⟨E⟩
  refine ZQ (n:=n) hΓ c ho I lt ?_;unfold RG at h;cases q:bK Q2 n c (nX N (.i L C [] []::ds))with
  |a σ'=>
   rw[q]at h;intro O F' H' fp I' e;subst e;have h:PV K Fh H0 (Xw σ'[0]?) Q0:=h;cases e2:σ'[0]? with
   |none=>rw[e2]at h;exact h.elim
   |some o=>
    cases o with
    |none=>rw[e2]at h;exact h.elim
    |some d'=>
     rw[e2]at h;cases d'<;>first|exact h.elim|skip
     rename_i o C' ks xs;cases o with
     |false=>cases h
     |true=>
      let#[v,e3,e4]:=I'.rep 0 _ e2;obtain rfl:V.a y=v:=by
       have e3:M (M<|V.a y)=M (M v):=e3;injection e3 with e3;injection e3
      exact hq H'<|h F' H' (.a y) (fp 0) I'.g #[I'.nd 0,I'.nh 0,I'.nf 0] e4
  |c d'=>rw[q]at h;exact h.elim
  |e O=>rw[q]at h;exact h.elim
  |d O=>rw[q]at h;exact h.elim
  |b=>rw[q]at h;exact h.elim
def abe{m:B D->R D}(hm:mg x=M (.ref C))(R4:Mk K C f)(hb:RZ K fd ps [])(h:iB P w K mg base (mU P w) k f fd ps<|XE K C m):IS P w K mg base (k+1) x (.a (zU K m) []):=
 .inr #[rfl,C,k,f,fd,ps,_,aM _,h,hm,R4,hb,aea]
end
noncomputable def Xm:B5->Bool
|.type n=>n=="list"
|_=>W
def af2(nk:(K.all λp=>!Xm p.2.cls)=L)(h:jo K H a xs):Rd H a (.a xs):=by
 rcases h with h|⟨o,its,n,hk,hc,_⟩
 .exact h
 .exfalso;have hm:∀(K:ao),K.lookup a=M o->(a,o)∈K:=by
   intro K;induction K with
   |nil=>intro z;cases z
   |cons p r ih=>
    intro z;let#[b,u]:=p;rw[dB]at z;split at z
    .rename_i e;have e:=eq_of_beq e;cases z;subst e;exact aB
    .exact aq _ (ih z)
  have q:=bC.mp nk _<|hm K hk;rw[hc]at q;exact aI q<|by decide
noncomputable def bz(ns:B J):D:=.a W<|ns.map D.b
theorem Kw:∀ns:B J,aT K H (ns.map D.b)<|ns.map V.b
|[]=>rfl
|n::r=>#[_,_,rfl,rfl,Kw r]
theorem Ky:∀ns:B J,aD (ns.map D.b)=ns.map D.b
|[]=>rfl
|n::r=>by show D.b n::aD (r.map D.b)=_;rw[Ky r];rfl
def aeb{mg:Str->LD B5}{m:B D->R D}(F:iB P w K mg base (mU P w) k f fd ps<|zU K m)(h:∀ns:B J,zl ns<=63->m [bz ns]=.c (.e L)):iB P w K mg base Tn k f fd ps (λvs H Q E=>∃(a:Addr) (ns:B J),vs=[.a a]/\Rd H a (.a<|ns.map V.b)/\zl ns<=63/\∀H',Q (.c L) H'):=by
 refine(L3.iB.ac F).imp ?_;intro vs H Q E z0;let#[a,ns,rfl,hS,hl,q]:=z0;have hs:=szl;refine#[H,[bz ns],bx.refl H,?_,#[_,_,rfl,#[a,ns.map V.b,rfl,hS,by rw[aa];lia,Kw ns],rfl],?_]
 .show[D.a W<|aD<|ns.map D.b]=_;rw[Ky];rfl
 .rw[h ns hl];intro F' H' v fp g fr r;let#[rfl,_]:=r;exact q H'
theorem ph{α β:Type}{a:α}{f:α->R β}:(R.c a).bind f=f a:=rfl
theorem ZOk{α β:Type}{f:α->R β}:(R.d:R α).bind f=R.d:=rfl
theorem gSub{α:Type}{a:α}{f:α->Fl}:(R.c a).bH f=f a:=rfl
theorem gNil{α:Type}{b:Bool}{a:α}{f:α->Fl}:(R.c a).tQ b f=f a:=rfl
theorem Kz{α:Type}{a:α}:(R.c a).uS=R.c a:=rfl
theorem abf:xG (M<|M<|.a L xs)=L:=rfl
theorem zq{α:Type}{a:α}:R.ab (M a)=R.c a:=rfl
theorem jk'{α:Type}{r:R α}:R.cA L r=r:=rfl
def dds{α:Type}{r:R α}(h:n<=aj):R.cA (decide<|n<=aj) r=r:=by
 rw[aU h];rfl
theorem js':lq .Add (.b i) (.b j)=.c (.b<|i+j):=rfl
theorem jv':lq .Sub (.b i) (.b j)=.c (.b<|i-j):=rfl
def kt0(h:nF i j):lq .Mult (.b i) (.b j)=.c (.b<|i*j):=by
 show R.cA (decide<|nF i j) _=_;rw[aU h];rfl
def kt1(h:vU i j):lq .FloorDiv (.b i) (.b j)=.c (.b<|i / j):=by
 show R.cA (decide<|vU i j) _=_;rw[aU h];rfl
def kt2(h:0<j):lq .Mod (.b i) (.b j)=.c (.b<|i%j):=by
 show R.cA (decide<|0<j) _=_;rw[aU h];rfl
def kt3(h:xq i j):lq .Pow (.b i) (.b j)=.c (.b<|i ^ j.toNat):=by
 show R.cA (decide<|xq i j) _=_;rw[aU h];rfl
def kw2(h:x.length+y.length<=aj):lq .Add (.c x) (.c y)=.c (.c<|x++y):=by
 show R.cA (decide<|x.length+y.length<=aj) _=_;rw[aU h];rfl
def l15(h:0<=j/\j<2 ^ 40/\x.length*j.toNat<=aj):lq .Mult (.c x) (.b j)=.c (.c<|zT x j.toNat):=by
 show R.cA (decide<|0<=j/\j<2 ^ 40/\x.length*j.toNat<=aj) _=_;rw[aU h];rfl
def nD(h:zl xs+zl ys<=aj):lq .Add (.a o xs) (.a o' ys)=.c (.a L<|aD xs++aD ys):=by
 show R.cA (decide<|zl xs+zl ys<=aj) _=_;rw[aU h];rfl
theorem abg:dO .Lt (.b i) (.b j)=.c (.e<|decide<|i<j):=rfl
theorem abh:dO .Gt (.b i) (.b j)=.c (.e<|decide<|j<i):=rfl
theorem dt':dO .Eq (.b i) (.b j)=.c (.e<|i==j):=rfl
theorem dt2:dO .Eq (.c x) (.c y)=.c (.e<|x==y):=rfl
theorem dt3:dO .NotEq (.c x) (.c y)=.c (.e<|!(x==y)):=rfl
theorem abi:dO .Is x .h=.c (.e<|d7 x):=rfl
theorem Zq7:dO .IsNot x .h=.c (.e<|!d7 x):=rfl
def Je(h:dS x=L)(h':dS y=L):dO .Eq x y=.c (.e<|gJ x y):=by
 show R.cA (dS x&&dS y) _=_;rw[h,h'];rfl
def P0(h:dS x=L)(h':dS y=L):dO .NotEq x y=.c (.e<|!gJ x y):=by
 show R.cA (dS x&&dS y) _=_;rw[h,h'];rfl
def xH(h:dS x=L)(h':jw ys=L):dO .In x (.a o ys)=.c (.e<|acM x ys):=by
 show R.bind (R.cA (dS x&&jw ys) _) _=_;rw[h,h'];rfl
def mh(h:dS x=L)(h':jw ys=L):dO .NotIn x (.a o ys)=.c (.e<|!acM x ys):=by
 show R.bind (R.cA (dS x&&jw ys) _) _=_;rw[h,h'];rfl
def Nj(h:dS x=L)(h':jw ys=L):dO .In x (.d ys)=.c (.e<|acM x ys):=by
 show R.bind (R.cA (dS x&&jw ys) _) _=_;rw[h,h'];rfl
def EC(h:dS x=L)(h':jw ys=L):dO .NotIn x (.d ys)=.c (.e<|!acM x ys):=by
 show R.bind (R.cA (dS x&&jw ys) _) _=_;rw[h,h'];rfl
theorem abj:lu (.e b)=.c b:=rfl
theorem l_N:g_ (.c z) (.b i)=(R.ab<|bL z.cps.toList i).bind λc=>.c (.c ⟨#[c]⟩):=rfl
theorem lal:g_ (.a o xs) (.b i)=(R.ab<|bL xs i).bind λd=>.c (br d):=rfl
theorem lch:g_ (.d xs) (.b i)=(R.ab<|bL xs i).bind λd=>.c (br d):=rfl
theorem hkl:J7 (.c z) lo hi=.c (.c ⟨(cut z.cps.toList lo hi).toArray⟩):=rfl
theorem hll:J7 (.a o xs) lo hi=.c (.a L<|aD<|cut xs lo hi):=rfl
theorem dvs:h_ .a [.c z]=.c (.b z.length):=rfl
theorem e1':h_ .a [.a o xs]=.c (.b<|zl xs):=rfl
theorem e3':h_ .a [.d xs]=.c (.b<|zl xs):=rfl
theorem hln:h_ .e [.a o xs]=R.cA (xs.all rH) (.c<|.e<|xs.all vf):=rfl
theorem hmh:h_ .c [.a o xs]=R.cA (xs.all rH) (.c<|.e<|xs.any vf):=rfl
theorem eIn:h_ .l [.e b]=.c (.b (if b then 1 else 0)):=rfl
theorem eh2:h_ .g [.a o xs]=.c (.a L<|aD xs):=rfl
theorem a10:h_ .k [.a o xs]=.c (.d<|aD xs):=rfl
theorem ho1:vY (.a o xs)=.c (aD xs):=rfl
theorem ho3:vY (.d xs)=.c (aD xs):=rfl
def aec(h:-(2 ^ 62)<=j/\j.toNat<=aj):FE [.b j]=.c (fX 0 j.toNat):=by
 show R.cA (decide<|-(2 ^ 62)<=j/\j.toNat<=aj) _=_;rw[aU h];rfl
theorem hoL:Cf .d=.c .h:=rfl
theorem abk:Cf (.c b)=.c (.e b):=rfl
theorem hol:Cf (.b i)=.c (.b i):=rfl
theorem hp':Cf (.e x)=.c (.c x):=rfl
theorem hpd:br .h=.h:=rfl
theorem abl:br (.e b)=.e b:=rfl
theorem hqm:br (.b i)=.b i:=rfl
theorem hry:br (.c x)=.c x:=rfl
theorem hsb:br (.a o xs)=.a W (aD xs):=rfl
theorem hsp:br (.d xs)=.d (aD xs):=rfl
theorem ej2:aD []=[]:=rfl
theorem a11:aD (d::r)=br d::aD r:=rfl
theorem htl:aX .h=L:=rfl
theorem abm:aX (.e b)=L:=rfl
theorem hu':aX (.b i)=L:=rfl
theorem hx0:aX (.c x)=L:=rfl
theorem hxl:aX (.a o xs)=(o&&bq xs):=rfl
theorem hz4:aX (.d xs)=bq xs:=rfl
theorem ejs:bq []=L:=rfl
theorem a13:bq (d::r)=(aX d&&bq r):=rfl
theorem aed:jZ is L O=O:=rfl
theorem aee:jZ is W O=rJ is O:=rfl
theorem ek1:rJ [] O=O:=rfl
theorem a14:rJ (i::is) O=rJ is (r6 i O):=rfl
theorem abn:r6 0 (o::r)=o.map br::r:=rfl
theorem abo:r6 (n+1) (o::r)=o::r6 n r:=rfl
theorem abp:Jb (.c d)=.c d:=rfl
def LO(O:bw)(i:Nat):R D:=match O[i]? with
|some (M d)=>.c<|br d
|_=>.d
def LP(O:bw)(i:Nat):R Bool:=match O[i]? with
|some (M d)=>lu d
|_=>.d
noncomputable def DV(O:bw)(i:Nat):R D:=match O[i]? with
|some (M d)=>.c d
|_=>.d
noncomputable def Nk(x:Fl)(f:bw->Fl):Fl:=match x with
|.a O=>f O
|x=>x
def Jf(Y:B PG)(g:Nat)(r:R<|B D):R D:=match Y[g]? with
|some (.a m RW)=>r.bind λds=>m<|aD ds++RW
|_=>.d
noncomputable def RO{α:Type}(c:R Bool)(a b:R α):R α:=c.bind λk=>if k=L then a else b
noncomputable def Ze(c:R Bool)(a b:Fl):Fl:=c.bH λk=>if k=L then a else b
noncomputable def YJ:D->R D
|.b i=>.c<|.b<|-i
|_=>.d
noncomputable def YK:D->R (LD J)
|.b i=>.c<|M i
|_=>.d
noncomputable def b_(z:D)(r:R D):R D:=match z with
|.e k=>if k=L then r else .c (.e W)
|_=>.d
noncomputable def YZ(z:D)(r:R Bool):R Bool:=match z with
|.e k=>if k=L then r else .c W
|_=>.d
noncomputable def Vm:D->R Bool
|.e k=>.c k
|_=>.d
def ZR:D->R (Bool×B D)
|.a o xs=>.c (aX<|.a o xs,iW 0<|aD xs)
|_=>.d
def nI:D->R (Bool×B D)
|.a o xs=>.c (aX<|.a o xs,(aD xs).reverse)
|_=>.d
def XY(k:Nat)(vs:B Nat)(O:bw)(d:D):Fl:=match O[k]? with
|some (M<|.a L xs)=>if(decide (zl xs<aj)&&(aX d||!vs.contains k))=L then .a ((jZ vs (aX d) O).set k<|M<|.a L<|xs++[d])else .b
|_=>.b
def XZ(k:Nat)(O:bw)(j d:D):Fl:=match j with
|.b j=>match O[k]? with
 |some (M<|.a L xs)=>if(decide (0<=j/\j<2 ^ 40/\zl xs<aj)&&aX d)=L then .a (O.set k<|M<|.a L (xs.take j.toNat++d::xs.drop j.toNat))else .b
 |_=>.b
|_=>.b
def kH(k:Nat)(vs:B Nat)(O:bw)(d j:D):Fl:=match O[k]? with
|some (M x)=>if(aX d||!vs.contains k)=L then(R.ab<|S6 x d j).bH λx'=>.a ((jZ vs (aX d) O).set k<|M x')else .b
|_=>.b
theorem hjs:LO (M d::r) 0=.c (br d):=rfl
theorem hjv:LO (o::r) (n+1)=LO r n:=rfl
theorem ep':LP (M d::r) 0=lu d:=rfl
theorem aiE:LP (o::r) (n+1)=LP r n:=rfl
theorem aiF:DV (M d::r) 0=.c d:=rfl
theorem aiG:DV (o::r) (n+1)=DV r n:=rfl
theorem aiH{f:bw->Fl}:Nk (.a O) f=f O:=rfl
theorem aiI{f:bw->Fl}:Nk (.c d) f=.c d:=rfl
theorem aiJ{f:bw->Fl}:Nk (.e O) f=.e O:=rfl
theorem aiK{f:bw->Fl}:Nk (.d O) f=.d O:=rfl
theorem abq{m:B D->R D}:Jf (.a m RW::r) 0 x=x.bind λds=>m (aD ds++RW):=rfl
theorem abr:Jf (o::r) (n+1) x=Jf r n x:=rfl
theorem aiL{α:Type}{a b:R α}:RO (.c k) a b=if k=L then a else b:=rfl
theorem hk3:Ze (.c k) a b=if k=L then a else b:=rfl
theorem hk4:YJ (.b i)=.c (.b<|-i):=rfl
theorem hk5:YK (.b i)=.c (M i):=rfl
theorem aiO:YZ (.e k) r=if k=L then r else .c W:=rfl
theorem hk8:Vm (.e k)=.c k:=rfl
theorem abt:ZR (.a o xs)=.c (aX<|.a o xs,iW 0<|aD xs):=rfl
theorem abu:nI (.a o xs)=.c (aX<|.a o xs,(aD xs).reverse):=rfl
theorem hzl:pE Y (.a i) O=LO O i:=rfl
theorem nit:pE Y (.c v) O=Cf v:=rfl
theorem nm':pE Y (.g op a b) O=(pE Y a O).bind λx=>(pE Y b O).bind λy=>lq op x y:=rfl
def P_{ss:B J}(h:mH ds=M ss)(h2:zl ss<4000):GX (.a o ds)=.c (.b<|zl<|wQ ss):=by
 show(match mH ds with|some ss=>R.cA (decide<|zl ss<4000) (R.c<|D.b<|zl<|wQ ss)|none=>.d)=_;rw[h];show R.cA (decide _) _=_;rw[aU h2];rfl
theorem aiQ{Y:B PG}{O:bw}{a:CE}:pE Y (.y a) O=(pE Y a O).bind GX:=rfl
theorem noA:pE Y (.p a) O=(pE Y a O).bind YJ:=by rfl
theorem noE:pE Y (.r c a b) O=RO (pT Y c O) (pE Y a O) (pE Y b O):=rfl
theorem no_:pE Y (.d op a b) O=(pE Y a O).bind λx=>(pE Y b O).bind λy=>dO op x y:=rfl
theorem aiR:pE Y (.e g as) O=Jf Y g (iE Y as O):=rfl
theorem nsK:pE Y (.h f as) O=(iE Y as O).bind (h_ f):=rfl
theorem oc':pE Y (.l m o as) O=(pE Y o O).bind λx=>(iE Y as O).uS.bind λds=>uU m x ds:=rfl
theorem abv:pE Y (.b a b) O=(pE Y a O).bind λx=>(pE Y b O).bind λy=>g_ x y:=rfl
theorem abw:pE Y (.m a lo hi) O=(pE Y a O).bind λx=>(pO Y lo O).bind λl=>(pO Y hi O).bind λh=>J7 x l h:=rfl
theorem ok1:pE Y (.i as) O=(iE Y as O).bind λds=>R.cA (decide<|zl ds<=aj) (.c<|.a L ds):=by
 rfl
theorem okC:pE Y (.f as) O=(iE Y as O).bind λds=>R.cA (decide<|zl ds<=aj) (.c<|.d ds):=by
 rfl
theorem okI:pE Y .z O=.c (.g L [] []):=rfl
theorem aiS{cond:CO}:pE Y (.j nl fr elt tg src cond) O=(pI Y src O).bind λitems=>(dK (pG tg) (pC Y cond) (pE Y elt) items.2<|nl.map (λ_=>S)++fr.map λi=>O.getD i S).uS.bind λds=>.c (.a L ds):=rfl
theorem okO:pT Y (.q a) O=(pT Y a O).bind λb=>.c (!b):=rfl
theorem okX:pT Y (.k a b) O=RO (pT Y a O) (pT Y b O) (.c W):=rfl
theorem abx:pT Y (.n a b) O=RO (pT Y a O) (.c L) (pT Y b O):=rfl
theorem om':pT Y (.d op a b) O=(pE Y a O).bind λx=>(pE Y b O).bind λy=>(dO op x y).bind Vm:=rfl
theorem a15{Y:B PG}{O:bw}{o1 o2:Ea}{a b c:CE}:pT Y (.s o1 o2 a b c) O=(pE Y a O).bind λx=>(pE Y b O).bind λy=>(dO o1 x y).bind λz=>YZ z ((pE Y c O).bind λu=>(dO o2 y u).bind Vm):=rfl
theorem om1:pT Y (.a i) O=LP O i:=rfl
def aiT:pT Y (.e g as) O=(Jf Y g<|iE Y as O).bind lu:=by
 show(match Y[g]? with|some (.a m RW)=>((iE Y as O).bind λds=>m<|aD ds++RW).bind lu|_=>.d)=_;unfold Jf;cases Y[g]? with
 |none=>rfl
 |some p=>cases p<;>rfl
theorem omv:pT Y (.h f as) O=((iE Y as O).bind<|h_ f).bind lu:=rfl
theorem aim:iE Y .nil O=.c []:=rfl
theorem a16:iE Y (.cons a r) O=(pE Y a O).bind λx=>(iE Y r O).bind λxs=>.c (x::xs):=rfl
theorem ain:pO Y .none O=.c S:=rfl
theorem aio:pO Y (.some a) O=(pE Y a O).bind YK:=rfl
theorem aiv:pC Y .none=λ_=>.c L:=rfl
theorem aiw:pC Y (.some a)=pT Y a:=rfl
theorem aix:pG (.a i) d O=.c (O.set i<|M d):=rfl
theorem ond:pG (.b gs) (.d ds) O=R.cA (decide<|zl ds=gs.len) (Cg gs ds O):=rfl
theorem ajo:Cg .nil [] O=.c O:=rfl
theorem a17:Cg (.cons g r) (d::dr) O=(pG g d O).bind fun σ'=>Cg r dr σ':=rfl
theorem ost:pI Y (.a a) O=(pE Y a O).bind λx=>(vY x).bind λds=>.c (aX x,ds):=rfl
theorem a18:pI Y (.b as) O=(iE Y as O).bind λxs=>(FE xs).bind λds=>.c (L,ds):=rfl
def amk:pI Y (.c a) O=(pE Y a O).bind ZR:=by
 show(pE Y a O).bind _=_;congr 1;funext x;cases x<;>rfl
def oth:pI Y (.d a) O=(pE Y a O).bind nI:=by
 show(pE Y a O).bind _=_;congr 1;funext x;cases x<;>rfl
theorem asz:bK Y n .nil O=.a O:=rfl
theorem cJ:bK Y n (.cons s r) O=Nk (pS Y n s O) (bK Y n r):=by rfl
theorem ow0:pS Y n (.e<|.l .a (.a k) #v[a]) O=(pE Y a O).tQ (xG O[k]?) (XY k (cO a) O):=rfl
theorem owl:pS Y n (.e<|.l .d (.a k) #v[i,a]) O=(pE Y i O).tQ W λj=>(pE Y a O).tQ W λd=>XZ k O j d:=rfl
theorem Nl:pS Y n (.d (.a i) e) O=(pE Y e O).bH λd=>.a ((jZ (cO e) (aX d) O).set i<|M d):=rfl
theorem p15:pS Y n (.d (.c (.a k) i) e) O=(pE Y e O).bH λd=>(pE Y i<|jZ (cO e) (aX d) O).tQ W λj=>kH k (cO e) O d j:=rfl
theorem pl':pS Y n (.g i e) O=(match O[i]? with|some (M<|.b a)=>(pE Y e O).bH λd=>Mj i a O d|_=>.b):=rfl
theorem AU:pS Y n (.i k j i) O=I_ k i O O[k]? O[j]?:=rfl
theorem at0:pS Y n (.f g k f e) O=(pE Y e O).bH λd=>DU Y[g]? k f (jZ (cO e) (aX d) O) d:=rfl
theorem aup:pS Y n (.h i e) O=(pE Y e O).bH λd=>.a ((jZ (cO e) (aX d) O).set i<|M d):=rfl
theorem aep:pS Y n (.k (.b gs) e) O=(pE Y e O).bH λd=>(pG (.b gs) d<|jZ (cO e) (aX d) O).bH .a:=rfl
theorem pl4:pS Y n (.a e) O=(pM Y e O).bH .c:=rfl
theorem xJ:pS Y n (.b c a b) O=Ze (pT Y c O) (bK Y n a O) (bK Y n b O):=rfl
theorem aeq:pS Y n (.j c b) O=tR (pT Y c) (bK Y n b) n O:=rfl
theorem aer:pS Y n (.c g src b) O=(pI Y src O).bH λitems=>QS (pG g) (bK Y n b) items.2 (jZ (yJ src) items.1 O):=rfl
theorem q19:aX (.g o ks xs)=(o&&bq xs):=rfl
theorem ltG:br (.g o ks xs)=.g W ks (aD xs):=rfl
def FJ:g_ (.g o ks xs) (iR k)=(R.ab<|gq ks xs k).bind λd=>.c (br d):=by cases k<;>rfl
theorem ltS:pE Y (.o g a f) O=(pE Y a O).bind λx=>rW Y g f x:=rfl
theorem m1':pS Y n .n O=.e O:=rfl
theorem aes:pS Y n .m O=.d O:=rfl
theorem m10:pM Y (.a i) O=DV O i:=rfl
theorem m11:pM Y (.c v) O=pE Y (.c v) O:=rfl
theorem m50:pM Y (.g op a b) O=pE Y (.g op a b) O:=rfl
theorem m51:pM Y (.r c a b) O=pE Y (.r c a b) O:=rfl
theorem aet:pM Y (.e g as) O=pE Y (.e g as) O:=rfl
theorem mv':pM Y (.h f as) O=pE Y (.h f as) O:=rfl
theorem aby:pM Y (.b a b) O=pE Y (.b a b) O:=rfl
theorem afA{cond:CO}:pM Y (.j nl fr elt tg src cond) O=pE Y (.j nl fr elt tg src cond) O:=rfl
theorem mv1:pM Y (.f as) O=(lP Y as O).ac (λds=>R.cA (decide<|zl ds<=aj)<|.c<|.d ds) (pE Y (.f as) O):=by
 rfl
theorem afB:lP Y .nil O=.c []:=rfl
def afC:lP Y (.cons (.a i) r) O=(DV O i).bind λd=>(lP Y r<|O.set i S).bind λds=>.c (d::ds):=by
 show(match O[i]? with|some (M d)=>(lP Y r<|O.set i S).bind λds=>.c (d::ds)|_=>.d)=_;unfold DV;cases O[i]? with
 |none=>rfl
 |some o=>cases o<;>rfl
theorem aft{α β:Type}{a:α}{f:α->R β}{y:R β}:(R.c a:R α).ac f y=f a:=rfl
theorem a6'{α β:Type}{f:α->R β}{y:R β}:(R.d:R α).ac f y=y:=rfl
theorem mv2:pE Y .t O=.c (.f L [] []):=rfl
theorem n0P:pE Y (.x g fr n body) O=IV Y g (pE Y n O) (pE Y body) (fr.map λi=>O.getD i S):=rfl
theorem na1:pE Y (.u a) O=(pE Y a O).bind λx=>M5 x:=rfl
theorem nch:pE Y (.v a) O=(pE Y a O).bind λx=>M6 x:=rfl
def Nm(h:mH xs=M ns)(h2:k∈ns):uU .c (.a o xs) [.b k]=.c (.b<|ns.idxOf k):=by
 show(R.ab<|mH xs).bind _=_;rw[h];show R.cA (decide<|k∈ns) _=_;rw[aU h2];rfl
theorem aei:M6 (.a o xs)=.c (.a L<|aD xs.reverse):=rfl
def aej(h:AO ks xs=M ps)(h2:zl ps<64):M5 (.g o ks xs)=.c (.a L<|p8<|mW ps):=by
 show(R.ab<|AO ks xs).bind _=_;rw[h];show R.cA (decide<|zl ps<64) _=_;rw[aU h2];rfl
theorem Nn:pS Y n (.l i nl j k) O=Ja i nl O O[j]? O[k]?:=rfl
theorem nd':pE Y (.w as) O=(iE Y as O).bind λds=>IT ds:=rfl
def aek(h:-(2 ^ 62)<=i/\i<2 ^ 62/\-(2 ^ 62)<=j/\j<2 ^ 62/\(j-i).toNat<=2 ^ 24):IT [.b i,.b j]=.c (.d<|fX i (j-i).toNat):=by
 show R.cA (decide<|-(2 ^ 62)<=i/\i<2 ^ 62/\-(2 ^ 62)<=j/\j<2 ^ 62/\(j-i).toNat<=2 ^ 24) _=_;rw[aU h];rfl
def ED(h:qR xs=M ps):h_ .j [.a o xs]=.c (.f L (fW [] [] ps).1<|aD (fW [] [] ps).2):=by
 show(R.ab<|qR xs).bind _=_;rw[h];rfl
def Np(h:abb ks=L):h_ .d [.f o ks xs]=.c (.a L<|p8 ks):=by
 show R.cA (abb ks) _=_;rw[h];rfl
def Nq(h:iD y=M k)(h2:gq ks xs k=M d):g_ (.f o ks xs) y=.c (br d):=by
 show(match iD y with|some k=>(R.ab<|gq ks xs k).bind λd=>.c (br d)|none=>R.d)=_;rw[h];show(R.ab<|gq ks xs k).bind _=_;rw[h2];rfl
theorem nd1:br (.f o ks xs)=.f W ks (aD xs):=rfl
theorem nd2:aX (.f o ks xs)=(o&&bq xs):=rfl
def b16(h:1<=n/\n<=xs.length):J7 (.d xs) (M n) S=.c (.d<|aD<|xs.drop n.toNat):=by
 show R.cA (decide<|1<=n/\n<=xs.length) _=_;rw[aU h];rfl
theorem ndP:pS Y n (.e<|.l .e (.a k) #v[a]) O=(pE Y a O).tQ (xG O[k]?) λd=>IZ k (cO a) d O:=rfl
def yL(h:O[k]?=M (M<|.a L xs))(h1:zl xs+zl ys<=aj)(h2:(aX (.a L ys)||!vs.contains k)=L):IZ k vs (.a L ys) O=.a ((jZ vs (aX<|.a L ys) O).set k<|M<|.a L<|xs++ys):=by
 unfold IZ;simp only[h];rw[aU h1,h2];rfl
theorem aaa:lP Y (.cons (.e g as) r) O=(pE Y (.e g as) O).bind λd=>R.cA (aX d) ((lP Y r O).bind λds=>.c (d::ds)):=rfl
theorem ndS:lP Y (.cons (.b a b) r) O=(pE Y (.b a b) O).bind λd=>R.cA (aX d) ((lP Y r O).bind λds=>.c (d::ds)):=rfl
theorem fpD:lP Y (.cons (.h f as) r) O=(pE Y (.h f as) O).bind λd=>R.cA (aX d) ((lP Y r O).bind λds=>.c (d::ds)):=rfl
theorem fr':lP Y (.cons (.i as) r) O=(pE Y (.i as) O).bind λd=>R.cA (aX d) ((lP Y r O).bind λds=>.c (d::ds)):=rfl
theorem aab{O:bw}{nl:B Str}{fr:B Nat}{elt:CE}{tg:CG}{src:CI}{cond:CO}{r:mV}:lP Y (.cons (.j nl fr elt tg src cond) r) O=(pE Y (.j nl fr elt tg src cond) O).bind λd=>R.cA (aX d) ((lP Y r O).bind λds=>.c (d::ds)):=rfl
theorem fr1:lP Y (.cons (.g op a b) r) O=(pE Y (.g op a b) O).bind λd=>R.cA (aX d) ((lP Y r O).bind λds=>.c (d::ds)):=rfl
theorem nda:h_ .i [.b i,.b j]=.c (.b (if j>i then j else i)):=rfl
theorem neC:h_ .h [.b i,.b j]=.c (.b (if j<i then j else i)):=rfl
def neD(h:(-(2 ^ 63)<=k/\k<2 ^ 63)/\zl xs*k.toNat<=aj):lq .Mult (.a o xs) (.b k)=.c (.a L (aL k.toNat<|aD xs).flatten):=by
 show R.cA (decide<|(-(2 ^ 63)<=k/\k<2 ^ 63)/\zl xs*k.toNat<=aj) _=_;rw[aU h];rfl
def KA(h:(!xs.isEmpty&&!ys.isEmpty&&decide (zl xs+zl ys<=aj))=L):lq .Add (.d xs) (.d ys)=.c (.d<|aD xs++aD ys):=by
 show R.cA (!xs.isEmpty&&!ys.isEmpty&&decide (zl xs+zl ys<=aj)) _=_;rw[h];rfl
def iu(h:O[k]?=M (M<|.a L xs))(h1:zl xs<aj)(h2:(aX d||!vs.contains k)=L):XY k vs O d=.a ((jZ vs (aX d) O).set k<|M<|.a L<|xs++[d]):=by
 unfold XY;simp only[h];rw[aU h1,h2];rfl
def Cs(h:O[k]?=M (M<|.a L xs))(h1:0<=j/\j<2 ^ 40/\zl xs<aj)(h2:aX d=L):XZ k O (.b j) d=.a (O.set k<|M<|.a L (xs.take j.toNat++d::xs.drop j.toNat)):=by
 unfold XZ;simp only[h];rw[aU h1,h2];rfl
def iw(h:O[k]?=M (M x))(h1:(aX d||!vs.contains k)=L)(h2:S6 x d j=M x'):kH k vs O d j=.a ((jZ vs (aX d) O).set k<|M x'):=by
 unfold kH;simp only[h];rw[h1,h2];rfl
theorem eK{β:Type}{g:D->bw->R bw}{e:bw->R D}(enc:β->D)(I:bw->Prop)(f:β->D):∀(xs:B β) (O:bw),I O->(∀x∈xs,∀O,I O->∃σ2,g (enc x) O=.c σ2/\I σ2/\e σ2=.c (f x))->dK g (λ_=>.c L) e (xs.map enc) O=.c (xs.map f)
|[],O,_,_=>rfl
|x::r,O,hi,h=>by
 let#[σ2,h1,h2,h3]:=h x aB O hi;have ih:=eK enc I f r σ2 h2 λy hy=>h y<|aq _ hy;show(g (enc x) O).bind _=_;rw[h1];simp only[R.bind,kF,h3,ih];rfl
theorem pq{β:Type}{g:D->bw->R bw}{c:bw->R Bool}{e:bw->R D}(enc:β->D)(I:bw->Prop)(p:β->Bool)(f:β->D):∀(xs:B β) (O:bw),I O->(∀x∈xs,∀O,I O->∃σ2,g (enc x) O=.c σ2/\I σ2/\c σ2=.c (p x)/\e σ2=.c (f x))->dK g c e (xs.map enc) O=.c ((xs.filter p).map f)
|[],O,_,_=>rfl
|x::r,O,hi,h=>by
 let#[σ2,h1,h2,h3,h4]:=h x aB O hi;have ih:=pq enc I p f r σ2 h2 λy hy=>h y<|aq _ hy;show(g (enc x) O).bind _=_;rw[h1];simp only[R.bind,h3];cases q:p x with
 |true=>rw[aH rfl,List.filter_cons_of_pos q,h4];simp only[R.bind,ih];rfl
 |false=>rw[aG<|by decide,List.filter_cons_of_neg<|by simp[q]];exact ih
theorem ael:cO (.a i)=[i]:=rfl
theorem aem:cO (.c x1)=[]:=rfl
theorem aen:cO (.g x1 a b)=cO a++cO b:=rfl
theorem aeo:cO (.p a)=cO a:=rfl
theorem abz:cO (.e x1 as)=ly as:=rfl
theorem abA:cO (.h f as)=if zm f as=L then[]else ly as:=rfl
theorem abB:cO (.b a b)=cO a++cO b:=rfl
theorem abC:cO (.m a lo hi)=cO a++(J8 lo++J8 hi):=rfl
theorem abD:cO (.i as)=ly as:=rfl
theorem abE:cO (.f as)=ly as:=rfl
theorem abF:cO (.z)=[]:=rfl
theorem abG:cO (.j x1 fr x2 x3 src x4)=yJ src++fr:=rfl
theorem abH:cO (.o x1 a x2)=cO a:=rfl
theorem abI:cO (.t)=[]:=rfl
theorem abJ:cO (.w as)=ly as:=rfl
theorem abK:cO (.x x1 fr n x2)=cO n++fr:=rfl
theorem abL:ly (.nil)=[]:=rfl
theorem abM:ly (.cons a r)=cO a++ly r:=rfl
theorem abN:J8 (.none)=[]:=rfl
theorem abO:J8 (.some a)=cO a:=rfl
theorem abP:yJ (.a a)=cO a:=rfl
theorem abQ:yJ (.b as)=ly as:=rfl
theorem abR:yJ (.c a)=cO a:=rfl
theorem abS:yJ (.d a)=cO a:=rfl
end L3
end
local macro_rules | `(tactic| simp_arith $c:optConfig [$ls,*]) => do let q <- ("ph ZOk gSub gNil Kz abf zq jk' dds js' jv' kt0 kt1 kt2 kt3 kw2 l15 nD abg abh dt' dt2 dt3 abi Zq7 Je P0 xH mh Nj EC abj l_N lal lch hkl hll dvs e1' e3' hln hmh eIn eh2 a10 ho1 ho3 aec hoL abk hol hp' hpd abl hqm hry hsb hsp ej2 a11 htl abm hu' hx0 hxl hz4 ejs a13 aed aee ek1 a14 abn abo abp hjs hjv ep' aiE aiF aiG aiH aiI aiJ aiK abq abr aiL hk3 hk4 hk5 aiO hk8 abt abu hzl nit nm' P_ aiQ noA noE no_ aiR nsK oc' abv abw ok1 okC okI aiS okO okX abx om' a15 om1 aiT omv aim a16 ain aio aiv aiw aix ond ajo a17 ost a18 amk oth asz cJ ow0 owl Nl p15 pl' AU at0 aup aep pl4 xJ aeq aer q19 ltG FJ ltS m1' aes m10 m11 m50 m51 aet mv' aby afA mv1 afB afC aft a6' mv2 n0P na1 nch Nm aei aej Nn nd' aek ED Np Nq nd1 nd2 b16 ndP yL aaa ndS fpD fr' aab fr1 nda neC neD KA iu Cs iw ael aem aen aeo abz abA abB abC abD abE abF abG abH abI abJ abK abL abM abN abO abP abQ abR abS eX Nc zm nX yE.len bB dZ cX jT aa List.cons_append lY ee eE List.replicate_zero List.getElem?_cons_zero yw List.set_cons_zero List.set_cons_succ List.getD_cons_zero List.getD_cons_succ Nat.reduceAdd Nat.reduceSub Dp yh or_false or_true and_true true_and and_false false_and Pf uo dR eu Oz wg n_ wu Ao nB kF iN gg Ir beq_self_eq_true ne_eq Int.reduceMod Int.reduceSub Int.reduceAdd".splitOn " ").toArray.mapM λx => `(Lean.Parser.Tactic.simpLemma| $(Lean.mkIdent x.toName):ident); `(tactic| simp $c:optConfig (disch := first | assumption | (with_reducible rfl) | (show L3.dS _ = L; rfl) | omega | (simp only [cX, jT, aa, aZ]; omega)) only [$q,*, $ls,*])
section
namespace L3
open PySem L2
structure FD where
 n:Str
 s:Stmt
 N:B Str
 k:Nat
 gl:B Str
def FD.ps(d:FD):B Str:=d.N.take d.k
noncomputable def XA(N P:B Str)(sc:fG):Bool:=(match sc.kind with|.function=>L|_=>W)&&(!sc.isCoroutine&&(!sc.isGenerator&&(decide N.Nodup&&(decide (N.take (zl P)=P)&&(decide (∀x∈P,sc.names.lookup x=M .local\/sc.names.lookup x=M .cell)&&decide (∀y∈sc.names,y.2≠.free))))))
def DN(h:XA N P sc=L):uG N P sc:=by
 unfold XA at h;simp only[cG,eS,mQ]at h;let#[h1,h2,h3,h4,h5,h6,h7]:=h;refine#[?_,h2,h3,h4,h5,h6,h7];revert h1;cases sc.kind<;>intro h1<;>first|rfl|cases h1
def FD.iy(bn:B Str)(d:FD)(c:cC):Bool:=ve #[d.N,dH d.s,d.gl,bn,(λ_=>L),L,W] c (jg d.s)&&(XA d.N d.ps (dH d.s)&&(qJ c&&(zl d.ps==d.k)))
def DI(K:ao)(mg:Str->LD B5)(d:FD):Prop:=G5 K mg d.n d.s d.ps
section
variable{P:bS}{w:bO}{K:ao}{mg:Str->LD B5}{base:Heap}
abbrev iK(P:bS)(w:bO)(K:ao)(mg:Str->LD B5)(base:Heap)(k:Nat)(x:Str)(m:B D->R D):Prop:=IS P w K mg base k x<|.a (zU K m) []
def GR(P:bS)(w:bO)(K:ao)(mg:Str->LD B5)(base:Heap)(k:Nat)(gl:B Str)(Q2:B PG):Prop:=∃Y,Ce P w K mg base k gl Y/\gC K Q2 Y/\RE Q2/\Xk Y
def gN:GR P w K mg base k [] []:=#[[],trivial,trivial,λ_=>aF,λ_=>aF]
section
variable{k:Nat}{x:Str}{gl:B Str}{Q2:B PG}
def gG(g:G)(h:IS P w K mg base k x g)(e:W_ K p g)(r:GR P w K mg base k gl Q2)(np:∀m,p≠.d m:=by nofun)(wt3:∀Pa,g≠.b Pa:=by nofun):GR P w K mg base k (x::gl) (p::Q2):=by
 let#[Y,a,b,nf,nl]:=r;exact#[g::Y,#[h,a],#[_,_,rfl,e,b],λm z=>by
  rcases aO.mp z with z|z
  .exact np m z.symm
  .exact nf m z,λm z=>by
  rcases aO.mp z with z|z
  .exact wt3 m z.symm
  .exact nl m z]
def gF{m:B D->R D}(h:iK P w K mg base j x m)(r:GR P w K mg base k gl Q2)(l:j<=k:=by decide):GR P w K mg base k (x::gl) (.a m []::Q2):=by
 rcases h with⟨f,fd,ps,ds,F,q⟩|⟨e,C,i,f,fd,ps,if_4,hi,q⟩
 .exact gG (.a (zU K m) []) (.inl #[f,fd,ps,ds,F.ac l,q]) #[λ_ _ _ _ h=>h,rfl,rfl] r
 .exact gG (.a (zU K m) []) (.inr #[e,C,i,f,fd,ps,if_4,cu hi l,q]) #[λ_ _ _ _ h=>h,rfl,rfl] r
def gO(h:Bl K C/\∀f∈as,nV K C f)(r:GR P w K mg base k gl Q2):GR P w K mg base k (x::gl) (.b C as::Q2):=gG (.c C as) h #[rfl,rfl] r
end
def fF{d:FD}{f:Addr}{fd:fi}{k n:Nat}{Q2:B PG}(F:xx K d.n d.n d.s f fd){c:cC}(h:d.iy bn c=L)(hb:∀x∈bn,mg x=S)(r:GR P w K mg base k d.gl Q2):iB P w K mg base (mU P w) (k+1) f fd d.ps (zU K<|eX Q2 n d.N d.k c):=by
 let#[Y,a,b,nf,nl]:=r;unfold FD.iy at h;simp only[cG,gX]at h;let#[h1,h2,h3,h4]:=h;rw[<-h4];refine ZP c F (DN h2) h1 a b nf nl.hl h3 hb ?_;unfold FD.ps;rw[cM]
 lia
def fD(D:DI K mg d){c:cC}(h:d.iy bn c=L)(hb:∀x∈bn,mg x=S)(r:GR P w K mg base k d.gl Q2):iK P w K mg base (k+1) d.n (eX Q2 n d.N d.k c):=
 G5.has D λ_ _ F=>fF F h hb r
def DL(K:ao)(mg:Str->LD B5)(d:FD)(Pa:Addr):Prop:=∃(f:Addr) (fd:fi),xx K d.n d.n d.s f fd/\mg d.n=M (.ref f)/\RZ K fd d.ps []/\M2 K mg fd Pa
def fDL(D:DL K mg d Pa)(h:d.iy bn c=L)(hb:∀x∈bn,mg x=S)(r:GR P w K mg base k gl Q2)(e:d.gl=y::gl:=by rfl):iK P w K mg base (k+1) d.n (eX (.c::Q2) n d.N d.k c):=by
 let#[f,fd,F,hm,hB,Q9]:=D;let#[Y,a,b,nf,nl]:=r;unfold FD.iy at h;simp only[cG,gX]at h;let#[h1,h2,h3,h4]:=h;rw[<-h4];refine .inl #[f,fd,d.ps,[],ZP (Y:=.b Pa::Y) c F (DN h2) h1 (by rw[e];exact#[trivial,a]) #[_,_,rfl,trivial,b] (λm z=>?_) (λi Q z=>?_) h3 hb ?_,hm,F.kp,hB,.nil]
 .rcases aO.mp z with z|z
  .cases z
  .exact nf m z
 .rcases aO.mp (dz z)with z|z
  .cases z;exact Q9
  .exact aI z (nl Q)
 .unfold FD.ps;rw[cM]
  lia
def f0(D:DI K mg d):iK P w K mg base k d.n (λ_=>.d):=
 G5.has D λ_ _ F=>#[λ_ _ _ _ ⟨_,_,_,_,_,h⟩=>h.elim,λ_ _ _ _ _ _ _ _ _ _ _ _ _ ⟨_,_,_,_,_,h⟩=>h.elim]
def OI(K:ao)(mg:Str->LD B5)(d:FD)(C:Addr):Prop:=mg d.n=M (.ref C)/\∃(f:Addr) (fd:fi),Mk K C f/\xx K "__init__" (d.n++".__init__") d.s f fd/\RZ K fd d.ps []
def oD(D:OI K mg d C)(h:d.iy bn c=L)(ho:LN c=L)(hb:∀x∈bn,mg x=S)(r:GR P w K mg base k d.gl Q2):iK P w K mg base (k+2) d.n (FI Q2 n d.N d.k C c):=by
 let#[hm,f,fd,R4,F,QJ]:=D;let#[Y,a,b,_,nl]:=r;unfold FD.iy at h;simp only[cG,gX]at h;let#[h1,h2,h3,h4]:=h;rw[<-h4];refine abe hm R4 QJ<|isL c F (DN h2) h1 a b nl.hl h3 ho hb ?_;unfold FD.ps;rw[cM]
 lia
variable{h:Heap}
def Wq{α:Type}{p:B α->Prop}(k:p []):∀us,zl us=0->p us
|[],_=>k
def Wo{α:Type}{n:Nat}{p:B α->Prop}(k:∀a r,zl r=n->p (a::r)):∀us,zl us=n+1->p us
|a::r,h=>k a r<|Nat.succ.inj h
def oI{kV doc pm cdv ct:B5}(X:K.In h)(G:h.Ns eV mg)(a:uq K eV d.n=M (M<|.ref C):=by k_is)(m1:yY K C=L:=by k_is)(m2:fZ K (.ref C) "__init__"=M (M<|.ref f):=by k_is)(m3:Oe K (.ref f)=L:=by k_is)(m4:fK K (.ref C)=L:=by k_is)(l:K.lookup f=M #[oc,od,.func<|gz "__init__" (d.n++".__init__") (mT d.s) (jg d.s) (dH d.s) .none kV doc pm an cdv ct,osl]:=by k_is)(c:nu K cdv (d.n++".__init__")=L:=by k_is)(k:fK K (.ref f)=L:=by k_is)(b:∀(kV doc pm:B5) (an:LD Addr) (cdv ct:B5) (us:B B5),zl us=zl d.ps->sj (gz "__init__" (d.n++".__init__") (mT d.s) (jg d.s) (dH d.s) .none kV doc pm an cdv ct) #[us,[]]=pure (d.ps.zip us):=by((iterate 6 intro);(repeat refine Wo λ_=>?_);exact Wq rfl)):OI K mg d C:=
 #[BF X G a,_,_,#[m1,m2,m3,m4],U3 l c k,(U3 l c k).binds b]
def tk1{C:Addr}{as:B Str}(p1:se K C Dc=L:=by k_is)(p2:qM K C=L:=by k_is)(p3:wB K C=L:=by k_is)(p4:fZ K (.ref C) "__setattr__"=M (M<|.builtin "object.__setattr__"):=by k_is)(n:(as.all λf=>match fZ K (.ref C) f with|some S=>L|_=>W)=L:=by kernel_rfl):Bl K C/\∀f∈as,nV K C f:=#[#[p1,p2,p3,p4],λf hf=>by
 have q:=bC.mp n f hf;show fZ K (.ref C) f=M S;revert q;rcases fZ K (.ref C) f with _|_|_<;>intro q<;>first|rfl|cases q]
def dI{kV doc pm cdv ct:B5}(X:K.In h)(G:h.Ns eV mg)(a:uq K eV d.n=M (M<|.ref f):=by k_is)(l:K.lookup f=M #[oc,od,.func<|gz d.n d.n (mT d.s) (jg d.s) (dH d.s) .none kV doc pm an cdv ct,osl]:=by k_is)(c:nu K cdv d.n=L:=by k_is)(k:fK K (.ref f)=L:=by k_is)(b:∀(kV doc pm:B5) (an:LD Addr) (cdv ct:B5) (us:B B5),zl us=zl d.ps->sj (gz d.n d.n (mT d.s) (jg d.s) (dH d.s) .none kV doc pm an cdv ct) #[us,[]]=pure (d.ps.zip us):=by((iterate 6 intro);(repeat refine Wo λ_=>?_);exact Wq rfl)):DI K mg d:=
 #[_,_,U3 l c k,BF X G a,(U3 l c k).binds b]
def dL{d:FD}{Pa f c0:Addr}{oc:B5}{od an:LD Addr}{osl:Array<|LD B5}{kV doc pm ct:B5}(X:K.In h)(G:h.Ns eV mg)(a:uq K eV d.n=M (M<|.ref f):=by k_is)(l:K.lookup f=M #[oc,od,.func<|gz d.n d.n (mT d.s) (jg d.s) (dH d.s) .none kV doc pm an (.ref c0) ct,osl]:=by k_is)(c:nu K (.ref c0) d.n=L:=by k_is)(k:fK K (.ref f)=L:=by k_is)(hd:su K c0 Pa=L:=by kernel_rfl)(t:(Pa,d.n++".<locals>."++"<lambda>")∈o6:=by decide +kernel)(b:∀(kV doc pm:B5) (an:LD Addr) (cdv ct:B5) (us:B B5),zl us=zl d.ps->sj (gz d.n d.n (mT d.s) (jg d.s) (dH d.s) .none kV doc pm an cdv ct) #[us,[]]=pure (d.ps.zip us)):DL K mg d Pa:=
 #[_,_,U3 l c k,BF X G a,(U3 l c k).binds b,#[c0,rfl,hd],t]
set_option tactic.hygienic true in
def lpos(X:K.In h)(t:∀P∈[Pa],h.get? P=M (PySem.W.tabObj #[]))(e:o6=[(Pa,q)]:=by rfl)(hk:K.lookup Pa=S:=by kernel_rfl)(hc:(K.any λx=>su K x.1 Pa)=L:=by kernel_rfl):QV K h:=λb y z=>by
 have eb:b=Pa:=by
  rw[e,dB]at z;cases q:b==Pa with
  |true=>exact gX.mp q
  |false=>rw[q]at z;cases z
 subst eb;refine#[hk,t b aB,?_];let#[x,hx,hc]:=fm.mp hc;let#[o,vs,_,_,_,_,_,_,_,e1,e2,e3,e4,_]:=uD X hc;exact#[x.1,o,vs,e1,e2,e3,e4]
noncomputable def tSl:LD (LD B5)->Bool
|some S=>L
|_=>W
def o_tI{bn:B Str}(X:K.In h)(G:h.Ns eV mg)(a:(bn.all λx=>tSl<|uq K eV x)=L:=by kernel_rfl):∀x∈bn,mg x=S:=λx hx=>fk4 X G (by
 have q:=bC.mp a x hx;revert q;rcases uq K eV x with _|_|_<;>intro q<;>first|rfl|cases q)
end
end L3
end
section
namespace Tr
open PySem L2 L3
abbrev ck:CE:=.a 0
abbrev cI:CE:=.a 1
abbrev dc:CE:=.a 2
abbrev dJ:CE:=.a 3
abbrev fQ:CE:=.a 4
abbrev dQ:CE:=.a 5
abbrev iO:CE:=.a 6
abbrev lQ:CE:=.a 7
abbrev nY:CE:=.a 8
abbrev mF:CE:=.a 9
abbrev pB:CE:=.a 10
abbrev uW:CE:=.a 11
abbrev tV:CE:=.a 12
abbrev Ct:CE:=.a 13
abbrev Nr:CE:=.a 14
abbrev xv15:CE:=.a 15
abbrev xv16:CE:=.a 16
abbrev YW:CE:=.a 17
abbrev Cu:CE:=.a 18
noncomputable abbrev e1(a:CE):mV:=#v[a]
abbrev e2(a b:CE):mV:=.cons a<|e1 b
abbrev e3(a b c:CE):mV:=.cons a<|e2 b c
abbrev e4(a b c d:CE):mV:=.cons a<|e3 b c d
abbrev gy(a:CE):CE:=.h .a<|e1 a
abbrev nZ:CE:=.c .d
noncomputable abbrev pD(a b:Nat):CG:=.b #v[.a a,.a b]
noncomputable abbrev Cv(a b c:Nat):CG:=.b #v[.a a,.a b,.a c]
noncomputable abbrev r8(a b c d:Nat):CG:=.b #v[.a a,.a b,.a c,.a d]
abbrev i_(n:J):CE:=.c<|.b n
abbrev dU(a b:CE):CE:=.g .Add a b
abbrev eL(a b:CE):CE:=.g .Mod a b
abbrev iU(a b:CE):CE:=.g .FloorDiv a b
abbrev n5(a b:CE):CE:=.d .Eq a b
abbrev dh(n:Nat)(a:CE):CS:=.d (.a n) a
noncomputable abbrev dW(a:CS):cC:=#v[a]
abbrev oU(a b:CS):cC:=.cons a<|dW b
abbrev yM(a b c:CS):cC:=.cons a<|oU b c
abbrev EE(a b c d:CS):cC:=.cons a<|yM b c d
abbrev Nt(a b c d e:CS):cC:=.cons a<|EE b c d e
abbrev XF(a b c d e f:CS):cC:=.cons a<|Nt b c d e f
abbrev ZS(a b c d e f g:CS):cC:=.cons a<|XF b c d e f g
def top(i:Nat):Stmt:=PySem.Challenge.pw_claimwise_k17_the_first_of_all.main.body.getD i<|.Pass #[0,0,0,0]
abbrev EF:B Str:=["kinds","kind","uppers","above"]
def jB:cC:=
 dW (.e<|.l .a dJ<|e1<|.b dc<|.b dJ<|.p<|i_ 1)
abbrev ZT:CE:=
 .d .NotEq (.l .b dc<|e2 (.b dJ<|.p<|i_ 1)<|.c<|.e "") (.c<|.e "")
def zu:cC:=
 EE (dh 2<|.h .b<|e1 ck) (dh 3<|.i<|e1 cI) (.j ZT jB) (.a dJ)
abbrev Cw:B Str:=["kinds","reading","thing"]
def xK:cC:=
 dW (.a<|.e 0<|e2 cI<|.e 1<|e2 ck dc)
abbrev yN:B Str:=["reading","ready","closed","choices"]
def tW:cC:=
 Nt (.b (.d .Gt (gy<|.b ck<|i_ 0)<|gy<|.o 3 cI "sizes") (dW<|.a nZ) .nil) (.h 2<|.j ["told","numbers"] [1] (.f<|e2 cI<|.e 2<|e2 (.o 3 dc "uppers") ck) (pD 0 1) (.a<|.b ck<|i_ 1) .none) (.b (.h .c<|e1<|.j ["numbers","shut"] [] (.d .Gt (gy cI)<|gy ck) (pD 0 1) (.a dc) .none) (dW<|.a nZ) .nil) (dh 3<|.e 1<|e3 ck cI dc) (.a<|.r (.d .Is dJ nZ) nZ<|.e 0<|e4 ck cI dc dJ)
abbrev Bq:B Str:=["uppers","told"]
def vZ:cC:=
 dW (.a<|.j ["part","above"] [1] ck (pD 0 1) (.c ck)<|.some<|.h .c<|e1<|.j ["kind"] [2] (.d .In ck cI) (.a 0) (.a cI) .none)
abbrev Cy:B Str:=["reading","ready","closed","marks","choices","i","told","fitting","bounds","wanted"]
abbrev ZU:CE:=
 .k (.e 1<|e3 cI ck dc) (.e 0<|e3 cI ck dJ)
def lR:cC:=
 Nt (dh 7<|.e 2<|e3 dc (.e 3<|e2 (.o 4 cI "uppers") iO) dQ) (dh 8<|.j ["number","word","lo","hi"] [5] (.f<|e3 cI dc dJ) (r8 0 1 2 3) (.a<|.b ck<|i_ 3)<|.some<|n5 ck fQ) (.l 9 ["mark","word","number"] 5 3) (.e<|.l .a fQ<|e1<|.j ["part"] [1,8,9] ck (.a 0) (.a lQ)<|.some ZU) (.b (n5 (.b fQ<|.p<|i_ 1)<|.i .nil) (dW<|.a nZ) .nil)
def xM:cC:=
 EE (dh 3<|.e 5<|e2 (.b ck<|i_ 2)<|.b ck<|i_ 4) (dh 4<|.i .nil) (.c (pD 5 6) (.c<|.b ck<|i_ 0) lR) (.a fQ)
abbrev G6:B Str:=["joins","steps","marks","word","i","j"]
def rM:cC:=
 dW (.d (.c dc<|.f<|e3 (.c<|.e "then") dJ fQ)<|.c<|.c L)
def rN:cC:=
 oU (.d (.c dc (.f (e3 (.c (.e "from")) dJ fQ)))<|.c<|.c L) (.d (.c dc<|.f<|e3 (.c<|.e "to") dJ dQ)<|.c<|.c L)
def AV:cC:=
 EE (dh 2 .t) (.c (Cv 3 4 5) (.a ck) rN) (.c (pD 3 4) (.a cI) rM) (.a dc)
abbrev G7:B Str:=["closed","parts","i","numbers","shut"]
def rO:cC:=
 dW (.b (.d .NotIn dc dJ) (dW<|.h 1<|.j ["part"] [4] ck (.a 0) (.a cI)<|.some<|.d .NotIn ck cI) .nil)
def AW:cC:=
 oU (.c (pD 3 4) (.a ck) rO) (.a cI)
abbrev EG:B Str:=["ready","part","bounds","word","lo","hi","number"]
def mX:cC:=
 oU (dh 6<|.l .b (.b (.o 0 ck "sizes") cI)<|e1 dJ) (.b (.n (.d .Is iO nZ)<|.n (.k (.d .IsNot fQ nZ)<|.d .Lt iO fQ)<|.k (.d .IsNot dQ nZ)<|.d .Gt iO dQ) (dW<|.a<|.c<|.c W) .nil)
def zw:cC:=
 oU (.c (Cv 3 4 5) (.a dc) mX) (.a<|.c<|.c L)
abbrev EH:B Str:=["ready","part","wanted"]
def zx:cC:=
 dW (.a<|.h .e<|e1<|.j ["mark","word"] [0,1] (.d .In (.f<|e3 ck cI dJ)<|.o 0 dc "marks") (pD 0 1) (.a dc) .none)
abbrev tX:B Str:=["reading","ready","closed","choices","finding","i","ahead","part","tried","lower"]
def jL:cC:=
 yM (dh 8<|dU (dU (.j ["found"] [] (.i<|e1 ck) (.a 0) (.a iO) .none)<|.i<|e1<|.i<|e1 lQ)<|.m dJ (.some<|dU dQ<|i_ 1) .none) (dh 9<|.e 0<|e4 ck cI dc nY) (.b (.d .IsNot mF nZ) (oU (dh 4 mF) .n) .nil)
def lS:cC:=
 oU (dh 6<|.m fQ .none<|.some dQ) (.c (.a 7) (.a<|.j ["part"] [4,5,6] ck (.a 0) (.a<|.b dJ dQ)<|.some<|.k (.d .Lt ck<|.b cI dc)<|.d .NotIn ck dJ) jL)
def oV:cC:=
 EE (dh 4<|.e 0<|e4 ck cI dc dJ) (.b (.d .Is fQ nZ) (dW<|.a nZ) .nil) (.c (.a 5) (.b<|e1<|gy dJ) lS) (.a fQ)
abbrev zW:B Str:=["reading","ready","closed","choices","weights","word","i","j","order"]
def j0:cC:=
 dW (.i 4 6 1)
def j5:cC:=
 oU (.i 4 6 1) (.i 4 7 1)
def uX:cC:=
 Nt (dh 4<|.j ["choice"] [] (i_ 0) (.a 0) (.a dJ) .none) (.c (Cv 5 6 7) (.a<|.b ck<|i_ 2) j5) (.c (pD 5 6) (.a<|.b ck<|i_ 4) j0) (dh 8<|.x 0 [3,4] (gy dJ)<|.f<|e2 (.h .h<|e2 (gy<|.b cI ck)<|i_ 2)<|.p<|.b dc ck) (.a<|.e 1<|.cons ck<|.cons cI<|e4 dc dJ nY<|.j ["choice"] [] nZ (.a 0) (.a dJ) .none)
abbrev qe:B Str:=["reading","ready","closed","choices","order","found","part","more","finding"]
abbrev ZV:cC:=
 dW (.b (.k (.e 2<|e3 (.b ck<|i_ 2) (.o 1 cI "joins") lQ)<|.e 0<|e3 (.b ck<|i_ 4) (.o 1 cI "steps") lQ) (oU (dh 8<|.e 3<|.cons ck<|.cons cI<|e4 dc dJ (.m fQ (.some<|i_ 1) .none) lQ)<|.b (.d .IsNot nY nZ) (dW<|.a nY) .nil) .nil)
def ia:cC:=
 dW (.b (.d .NotIn iO dQ) (.cons (dh 7<|.h .g<|e1 dQ)<|.cons (.d (.c lQ<|.b fQ<|i_ 0) iO) ZV) .nil)
def kC:cC:=
 yM (.b (n5 fQ<|.i .nil) (dW<|.a<|.r (.e 4<|e2 dc dQ) dQ nZ) .nil) (.c (.a 6) (.a<|.b dJ<|.b fQ<|i_ 0) ia) (.a nZ)
abbrev xN:B Str:=["closed","found","numbers","shut","parts"]
def kW:cC:=
 oU (dh 4<|.j ["number"] [1] (.b cI ck) (.a 0) (.a dc) .none) (.b (.h .c<|e1<|.j ["part"] [4] (.d .NotIn ck cI) (.a 0) (.a dJ) .none) (dW<|.a<|.c<|.c W) .nil)
def r9:cC:=
 oU (.c (pD 2 3) (.a ck) kW) (.a<|.c<|.c L)
abbrev Cz:B Str:=["joins","told","found","word","i","j"]
def oW:cC:=
 dW (.b (.k (.d .IsNot (.b dc fQ) nZ)<|.k (.d .IsNot (.b dc dQ) nZ)<|.d .NotIn (.f<|e3 dJ (.b dc fQ)<|.b dc dQ) cI) (dW<|.a<|.c<|.c W) .nil)
def xO:cC:=
 oU (.c (Cv 3 4 5) (.a ck) oW) (.a<|.c<|.c L)
abbrev CA:B Str:=["steps","told","found","place","word","i"]
def tY:cC:=
 dW (.g 3<|i_ 1)
abbrev ZW:CE:=
 .k (.d .Lt dJ<|gy cI) (.d .NotEq (.b cI dJ)<|.f<|e2 fQ<|.b dc dQ)
def oX:cC:=
 dW (.b (.d .IsNot (.b dc dQ) nZ) (yM (.j ZW tY) (.b (n5 dJ<|gy cI) (dW<|.a<|.c<|.c W) .nil)<|.g 3<|i_ 1) .nil)
def xP:cC:=
 yM (dh 3<|i_ 0) (.c (pD 4 5) (.a ck) oX) (.a<|.c<|.c L)
abbrev Qa:B Str:=["_law_script","_law_k","_law_cell","_law_number"]
def DW:cC:=
 EE (dh 2<|i_ 0) (.b (.d .Gt (gy ck)<|i_ 0) (dW<|dh 2<|.b ck<|eL cI<|gy ck) .nil) (dh 3<|eL (.g .Mult (dU (dU (eL dc<|i_ 1000000007)<|.g .Mult (i_ 7) cI)<|i_ 1)<|dU (i_ 48271)<|.g .Mult (.g .Mult (i_ 97) cI) cI)<|i_ 2147483629) (.a<|eL (.g .Mult dJ dJ)<|i_ 2147483587)
abbrev KC:B Str:=["_law_script","_law_k","_law_many","_law_letters","_law_m","_law_stem","_law_at"]
def CC:cC:=
 Nt (dh 3<|.c<|.e "bdfgjkmpqrvwxyz") (dh 4<|.e 0<|e2 ck cI) (dh 5<|.g .Mult (.b dJ<|eL fQ<|i_ 15)<|eL (iU fQ<|i_ 15)<|i_ 5) (dh 6<|eL (iU fQ<|i_ 75)<|dU (gy dQ)<|i_ 1) (.a<|.j ["_law_j"] [3,4,5,6] (dU (dU (.m dJ .none<|.some fQ)<|.b cI<|eL (dU (iU dc<|i_ 375) ck)<|i_ 15)<|.m dJ (.some fQ) .none) (.a 0) (.b<|e1 dc) .none)
abbrev KD:B Str:=["_law_script","_law_many","_law_names_here","_law_kinds_here","_law_k","_law_m","_law_upper"]
def xQ:cC:=
 EE (dh 5<|.e 0<|e2 ck<|dU (i_ 3) fQ) (dh 6<|.c<|.e "") (.b (.k (.d .Gt fQ<|i_ 0)<|.d .Gt (eL dQ<|i_ 4)<|i_ 0) (dW<|dh 6<|.b dc<|eL (iU dQ<|i_ 4) fQ) .nil) (.e<|.l .a dJ<|e1<|.f<|e2 (.b dc fQ) iO)
def CD:cC:=
 Nt (dh 1<|dU (i_ 3)<|eL (.e 0<|e2 ck<|i_ 1)<|i_ 6) (dh 2<|.e 1<|e3 ck (i_ 2) cI) (dh 3<|.i .nil) (.c (.a 4) (.b<|e1 cI) xQ) (.a dJ)
abbrev KE:B Str:=["_law_script"]
def CF:cC:=
 dW (.a<|.f<|e3 (.e 0<|e3 ck (i_ 12)<|i_ 3) (.e 0<|e3 ck (i_ 13)<|i_ 2)<|.e 0<|e3 ck (i_ 14)<|i_ 2)
abbrev G8:B Str:=["_law_kinds_here","_law_kind","_law_row","_law_name","_law_upper"]
def rP:cC:=
 dW (.b (.k (n5 dJ<|.b dc<|.p<|i_ 1)<|.d .NotEq fQ<|.c<|.e "") (dW<|.e<|.l .a dc<|e1 fQ) .nil)
def AX:cC:=
 yM (dh 2<|.i<|e1 cI) (.c (pD 3 4) (.d ck) rP) (.a dc)
abbrev G9:B Str:=["_law_kinds_here","_law_kind"]
def AY:cC:=
 dW (.a<|.j ["_law_name","_law_upper"] [0,1] ck (pD 0 1) (.a ck)<|.some<|.d .In dJ<|.e 0<|e2 dc ck)
abbrev G_:B Str:=["_law_script","_law_at","_law_kinds_here","_law_shut","_law_names_here","_law_parts","_law_closed","_law_named","_law_g","_law_m","_law_told","_law_many","_law_numbers"]
abbrev Y_:CE:=
 .d .In cI (.e 1<|e2 dc ck)
abbrev YN:CE:=
 .h .e (e1<|.j ["_law_one"] [0,1] Y_ (.a 0) (.a dc) .none)
abbrev r7:cC:=
 oU (.b (.h .c<|e1<|.j ["_law_upper"] [2,10] YN (.a 0) (.a fQ) .none) (dW<|.e<|.l .a lQ<|e1 tV) .nil) (.e<|.l .e dQ<|e1<|.g .Mult (.i<|e1 pB) uW)
def g6(rr:cC):cC:=
 .cons (dh 9<|.e 0<|e2 ck<|dU (dU cI<|i_ 1) nY) (.cons (dh 10<|.h .k<|e1<|.j ["_law_j"] [4,9] (.b cI<|eL (dU dc ck)<|gy cI) (.a 0) (.b<|e1<|.b (.i<|e4 (i_ 1) (i_ 1) (i_ 2)<|i_ 3)<|eL (iU mF<|i_ 16)<|i_ 4) .none)<|.cons (dh 11<|.b (.i<|e4 (i_ 1) (i_ 1) (i_ 1)<|i_ 2)<|eL (iU mF<|i_ 64)<|i_ 4)<|.cons (.b (.d .Gt (dU (gy dQ) uW)<|i_ 4) (dW .m) .nil)<|.cons (dh 12<|.w<|e2 (gy dQ)<|dU (gy dQ) uW)<|.cons (.b (.n (n5 (eL (iU mF<|i_ 256)<|i_ 3)<|i_ 0)<|.k dJ<|n5 nY<|i_ 0) (dW<|.e<|.l .a iO<|e1<|.f<|e2 pB tV) .nil) rr)
def n6:cC:=
 g6 r7
def AZ:cC:=
 XF (dh 4<|.j ["_law_name","_law_upper"] [] ck (pD 0 1) (.a dc) .none) (dh 5<|.i .nil) (dh 6<|.i .nil) (dh 7<|.i .nil) (.c (.a 8) (.b<|e1<|.h .i<|e2 (.h .l<|e1 dJ)<|.b (.i<|.cons (i_ 1)<|.cons (i_ 2)<|.cons (i_ 3)<|.cons (i_ 2)<|e4 (i_ 1) (i_ 3) (i_ 2)<|i_ 0)<|eL (.e 0<|e2 ck cI)<|i_ 8) n6) (.a<|.f<|e3 dQ iO lQ)
abbrev Hf:B Str:=["_law_n","_law_low"]
def wW:cC:=
 yM (dh 1<|.g .Sub (eL (iU ck<|i_ 64)<|i_ 6)<|i_ 2) (.b (n5 (eL (iU ck<|i_ 4096)<|i_ 7)<|i_ 0) (dW<|dh 1<|.g .Mult (.g .Sub ck<|.g .Pow (i_ 10)<|i_ 9)<|.g .Pow (i_ 10)<|i_ 19) .nil) (.a<|.b (.i<|e3 (.f<|e2 nZ cI) (.f<|e2 cI nZ)<|.f<|e2 cI<|dU cI<|eL (iU ck<|i_ 512)<|i_ 4)<|eL (iU ck<|i_ 8)<|i_ 3)
abbrev EI:B Str:=["_law_script","_law_at","_law_kinds_here","_law_words_here","_law_shut","_law_parts","_law_closed","_law_named","_law_joins","_law_sizes","_law_steps","_law_k","_law_n","_law_i","_law_some"]
def qh:cC:=
 oU (dh 12<|.e 1<|e2 ck<|dU (dU cI<|i_ 10) Ct) (.b (.k (n5 (eL tV<|i_ 5)<|i_ 0)<|.q fQ) (oU (dh 14<|.e 0<|e2 dc<|.b (.b dQ Ct)<|eL (iU tV<|i_ 5)<|gy<|.b dQ Ct)<|.d (.c dQ Ct)<|.f<|e1<|.b Nr<|eL (iU tV<|i_ 15)<|gy Nr) .nil)
abbrev sN:CS:=
 dh 12 (.e 1<|e2 ck<|dU (dU cI<|i_ 6) uW)
abbrev sJ:CS:=
 .b (.k (.d .Gt (gy dQ)<|i_ 1)<|.d .Lt uW<|eL (.e 1<|e2 ck<|dU cI<|i_ 5)<|i_ 4) (oU (dh 13<|eL tV<|gy dQ)<|.d (.c nY<|.f<|e3 (.b (.b dJ<|i_ 1)<|eL (iU tV<|i_ 8)<|i_ 2) Ct<|eL (dU (dU Ct<|i_ 1)<|eL (iU tV<|i_ 16)<|.g .Sub (gy dQ)<|i_ 1)<|gy dQ)<|.c<|.c L) .nil
abbrev sZ:CS:=
 .b (.k (.d .Gt (gy dQ)<|i_ 0)<|.d .Lt uW<|eL (iU (.e 1<|e2 ck<|dU cI<|i_ 5)<|i_ 4)<|i_ 4) (dW<|.d (.c mF<|.f<|e2 (eL (iU tV<|i_ 3)<|gy dQ)<|.b (.b dJ<|i_ 0)<|eL (iU tV<|i_ 24)<|i_ 3)<|.e 2<|e1 tV) .nil
abbrev sT:CS:=
 .b (.k (.d .Gt (gy lQ)<|i_ 0)<|.d .Lt uW<|eL (iU (.e 1<|e2 ck<|dU cI<|i_ 5)<|i_ 16)<|i_ 3) (dW<|.e<|.l .e pB<|e1<|.j ["_law_i"] [3,12] (.f<|e2 (.b (.b cI<|i_ 2)<|eL (iU dc<|i_ 5)<|i_ 2) ck) (.a 0) (.a<|.b lQ<|eL (iU tV<|i_ 10)<|gy lQ) .none) .nil
def qi:cC:=
 EE sN sJ sZ sT
def zy:cC:=
 ZS (.k (Cv 5 6 7)<|.e 3<|e4 ck cI dc fQ) (dh 8 .t) (dh 9 .t) (dh 10<|.i .nil) (.c (.a 11) (.b<|e1<|i_ 4) qi) (.c (.a 13) (.b<|e1<|gy dQ) qh) (.a<|.f<|.cons dQ<|e4 iO (.h .d<|e1 nY) (.j ["_law_key"] [9] (dU ck<|.b cI ck) (.a 0) (.a<|.h .d<|e1 mF) .none) pB)
abbrev CH:B Str:=["_law_script","_law_at","_law_kinds_here","_law_allowed","_law_bounds_here","_law_words_here","_law_n","_law_some","_law_sizes","_law_word","_law_low","_law_high"]
def lT:cC:=
 dW (.b (.d .Is pB nZ) (dW<|.d (.c nY mF)<|.g .Sub uW<|eL (iU iO<|i_ 7)<|i_ 3)<|dW<|.b (.d .Is uW nZ) (dW<|.d (.c nY mF)<|dU pB<|eL (iU iO<|i_ 7)<|i_ 3)<|dW<|.d (.c nY mF)<|dU pB<|eL (iU iO<|i_ 7)<|.h .i<|e2 (i_ 1)<|dU (.g .Sub uW pB)<|i_ 1)
abbrev ZX:cC:=
 oU (.c (Cv 9 10 11) (.a fQ) lT) (.a<|.f<|e2 (.b lQ<|eL (iU iO<|i_ 4)<|gy lQ)<|.u nY)
def tZ:cC:=
 .cons (dh 6<|.e 1<|e2 ck cI) (.cons (dh 7<|.e 0<|e2 dc<|.b dJ<|eL iO<|gy dJ)<|.cons (dh 8 .z)<|.cons (.b (n5 (eL (iU iO<|i_ 64)<|i_ 3)<|i_ 0) (dW<|.d (.c nY<|.b (.b dQ<|i_ 0)<|eL (iU iO<|i_ 192)<|i_ 3)<|.g .Sub (eL (iU iO<|i_ 600)<|i_ 7)<|i_ 2) .nil) ZX)
abbrev Br:B Str:=["_law_script","_law_at","_law_kinds_here","_law_reading_here","_law_words_here","_law_parts","_law_i","_law_allowed","_law_bounds_here","_law_m","_law_k","_law_kind","_law_order","_law_spots","_law_joins","_law_word","_law_j","_law_steps","_law_n"]
abbrev uN:CS:=
 dh 18 (.e 0<|e2 ck<|dU (dU cI<|i_ 8) pB)
abbrev uJ:CS:=
 .b (.k (.d .Gt (gy dQ)<|i_ 1)<|n5 (eL Cu<|i_ 3)<|i_ 0) (oU (dh 6<|eL (iU Cu<|i_ 3)<|gy dQ)<|.d (.c Nr<|.f<|e3 (.b (.b fQ<|i_ 1)<|eL (iU Cu<|i_ 18)<|i_ 2) iO<|eL (dU (dU iO<|i_ 1)<|eL (iU Cu<|i_ 36)<|.g .Sub (gy dQ)<|i_ 1)<|gy dQ)<|.c<|.c L) .nil
abbrev uT:CS:=
 .b (.k (.d .Gt (gy dQ)<|i_ 0)<|n5 (eL Cu<|i_ 2)<|i_ 0) (dW<|.e<|.l .d YW<|e2 (eL (iU Cu<|i_ 2)<|dU (gy YW)<|i_ 1)<|.f<|e2 (.b (.b fQ<|i_ 2)<|eL (iU Cu<|i_ 20)<|i_ 2)<|eL (iU Cu<|i_ 40)<|gy dQ) .nil
def kK:cC:=
 yM uN uJ uT
def kL:cC:=
 dW (.d (.c Nr<|.f<|e3 xv15 (.b Ct iO)<|.b Ct xv16)<|.c<|.c L)
def kM:cC:=
 dW (.e<|.l .d tV<|e2 (eL (iU mF<|dU (.g .Mult (i_ 5) pB)<|i_ 7)<|dU pB<|i_ 1) pB)
def kN:cC:=
 oU (dh 11<|.b (.b dc<|eL (iU mF<|dU pB<|i_ 3)<|gy dc)<|i_ 0) (.e<|.l .a dQ<|e1<|.e 1<|.cons ck<|.cons (dU (dU cI<|i_ 6) pB)<|e4 dc (.i<|e1 uW) (.i .nil) fQ)
def kO:cC:=
 oU (.h 8<|.j ["_law_row"] [6] (.m ck (.some<|i_ 1) .none) (.a 0) (.a<|.b dJ<|i_ 3)<|.some<|n5 (.b ck<|i_ 0) cI) (.e<|.l .a dQ<|e1<|.e 1<|.cons ck<|.cons (dU cI iO)<|e4 dc lQ nY fQ)
def v5:cC:=
 .cons (dh 5<|.i .nil) (.cons (.c (pD 6 7) (.c<|.b dJ<|i_ 0) kO)<|.cons (dh 9<|.e 0<|e2 ck<|dU cI<|i_ 5)<|.cons (.c (.a 10) (.b<|e1<|eL mF<|i_ 3) kN)<|.cons (dh 12<|.i .nil)<|ZS (.c (.a 10) (.b<|e1<|gy dQ) kM) (dh 13<|.j ["_law_k"] [12] (.l .c cI<|e1 ck) (.a 0) (.b<|e1<|gy dQ) .none) (dh 14 .t) (.c (Cv 15 6 16) (.a<|.b dJ<|i_ 2) kL) (.h 17<|.j ["_law_word","_law_i"] [13] (.f<|e2 ck<|.b dc cI) (pD 0 1) (.a<|.b dJ<|i_ 4) .none) (.c (.a 10) (.b<|e1<|i_ 2) kK)<|.a<|.f<|e3 (.j ["_law_k"] [5] (.b cI ck) (.a 0) (.a tV) .none) (.h .d<|e1 Nr) YW)
abbrev Hg:B Str:=["_law_script","_law_at","_law_kinds_here","_law_thing","_law_words_here","_law_parts","_law_joins","_law_steps","_law_n","_law_k","_law_kind","_law_sizes"]
abbrev ZY:cC:=
 .cons (.b (n5 (eL nY<|i_ 8)<|i_ 0) (dW<|.a<|.f<|e3 dQ (dU (.m iO .none<|.some mF)<|.m iO (.some<|dU mF<|i_ 1) .none) lQ) .nil) (ZS (.b (n5 (eL nY<|i_ 8)<|i_ 1) (dW<|.a<|.f<|e3 dQ iO<|dU (.m lQ .none<|.some mF)<|.m lQ (.some<|dU mF<|i_ 1) .none) .nil) (.b (n5 (eL nY<|i_ 8)<|i_ 2) (dW<|.a<|.f<|e3 dQ iO<|.v lQ) .nil) (.b (.n (n5 (eL nY<|i_ 8)<|i_ 3)<|n5 dQ<|.i .nil) (dW<|.a<|.f<|e3 (dU dQ<|.i<|e1<|.f<|e2 pB<|.i<|e1<|.f<|e2 (.b (.b fQ<|i_ 0)<|i_ 0)<|eL (iU nY<|i_ 512)<|i_ 5) iO lQ) .nil) (.b (n5 (eL nY<|i_ 8)<|i_ 4) (dW<|.a<|.f<|e3 (dU (dU (.m dQ .none<|.some mF)<|.i<|e1<|.f<|e2 pB<|.b (.b dQ mF)<|i_ 1)<|.m dQ (.some<|dU mF<|i_ 1) .none) iO lQ) .nil) (.b (n5 (eL nY<|i_ 8)<|i_ 5) (dW<|.a<|.f<|e3 (dU (dU (.m dQ .none<|.some mF)<|.i<|e1<|.f<|e2 (.b (.b dQ mF)<|i_ 0)<|.i .nil)<|.m dQ (.some<|dU mF<|i_ 1) .none) iO lQ) .nil) (.h 11<|.j ["_law_word","_law_number"] [8] (.f<|e2 ck<|.g .Sub (dU cI<|eL (iU dc<|i_ 64)<|i_ 3)<|i_ 1) (pD 0 1) (.a<|.b (.b dQ mF)<|i_ 1) .none)<|.a<|.f<|e3 (dU (dU (.m dQ .none<|.some mF)<|.i<|e1<|.f<|e2 (.b (.b dQ mF)<|i_ 0) uW)<|.m dQ (.some<|dU mF<|i_ 1) .none) iO lQ)
def Hh:cC:=
 .cons (.k (Cv 5 6 7) dJ) (.cons (dh 8<|.e 0<|e2 ck cI)<|.cons (dh 9<|eL (iU nY<|i_ 8)<|.h .i<|e2 (i_ 1)<|gy dQ)<|.cons (dh 10<|.b (.b dc<|eL (iU nY<|i_ 64)<|gy dc)<|i_ 0) ZY)
abbrev KG:B Str:=["_law_kinds_here","_law_kind","_law_told"]
def CJ:cC:=
 dW (.a<|.h .c<|e1<|.j ["_law_one"] [0,1] (.d .In ck<|.e 0<|e2 cI dc) (.a 0) (.a dc) .none)
abbrev EJ:B Str:=["_law_reading_here","_law_parts","_law_found","_law_i","_law_word","_law_low","_law_high","_law_told"]
def ql:cC:=
 oU (dh 7<|.h .b<|e1<|.b (.b cI<|.b dc dJ)<|i_ 1) (.b (.n (.d .NotIn fQ lQ)<|.n (.k (.d .IsNot dQ nZ)<|.d .Lt (.b lQ fQ) dQ)<|.k (.d .IsNot iO nZ)<|.d .Gt (.b lQ fQ) iO) (dW<|.a<|.c<|.c W) .nil)
def zz:cC:=
 oU (.c (r8 3 4 5 6) (.a<|.b ck<|i_ 3) ql) (.a<|.c<|.c L)
abbrev EK:B Str:=["_law_reading_here","_law_steps","_law_found","_law_at","_law_word","_law_i"]
def uY:cC:=
 dW (.g 3<|i_ 1)
def mY:cC:=
 yM (.j ZW uY) (.b (n5 dJ<|gy cI) (dW<|.a<|.c<|.c W) .nil) (.g 3<|i_ 1)
def zA:cC:=
 yM (dh 3<|i_ 0) (.c (pD 4 5) (.a<|.b ck<|i_ 4) mY) (.a<|.c<|.c L)
abbrev zX:B Str:=["_law_kinds_here","_law_reading_here","_law_thing","_law_found","_law_parts","_law_joins","_law_steps","_law_i","_law_place","_law_told","_law_numbers","_law_part"]
def ji:cC:=
 dW (.b (.k (.e 1<|e3 ck (.b uW<|i_ 0) mF)<|.d .NotIn nY<|.j ["_law_i"] [3] (.b cI ck) (.a 0) (.a pB) .none) (dW<|.a<|.c<|.c W) .nil)
def jl:cC:=
 dW (.c (pD 8 11) (.c fQ) ji)
def j7:cC:=
 dW (.b (.q<|.e 1<|e3 ck (.b (.b fQ nY)<|i_ 0)<|.b (.b cI<|i_ 0) lQ) (dW<|.a<|.c<|.c W) .nil)
def uZ:cC:=
 XF (.k (Cv 4 5 6) dc) (.c (pD 7 8) (.c dJ) j7) (.b (.n (.d .Lt (.y dJ)<|gy dJ)<|.q<|.e 2<|e3 cI fQ dJ) (dW<|.a<|.c<|.c W) .nil) (.b (.q<|.h .e<|e1<|.j ["_law_word","_law_i","_law_j"] [3,5] (.d .In (.f<|e3 ck (.b dJ cI)<|.b dJ dc) fQ) (Cv 0 1 2) (.a<|.b cI<|i_ 2) .none) (dW<|.a<|.c<|.c W) .nil) (.c (pD 9 10) (.a<|.b cI<|i_ 1) jl) (.a<|.e 0<|e3 cI iO dJ)
abbrev KH:B Str:=["_law_kinds_here","_law_reading_here","_law_thing","_law_rows","_law_k","_law_longer","_law_row","_law_place"]
def t7:cC:=
 dW (.b (.e 0<|e4 ck cI dc iO) (dW<|.a iO) .nil)
def pF:cC:=
 dW (.b (.k (.d .NotIn lQ iO)<|.e 1<|e3 ck (.b (.b (.b dc<|i_ 0) lQ)<|i_ 0)<|.b (.b cI<|i_ 0) fQ) (dW<|.e<|.l .a dQ<|e1<|dU iO<|.i<|e1 lQ) .nil)
def pH:cC:=
 dW (.c (.a 7) (.b<|e1<|gy<|.b dc<|i_ 0) pF)
def pJ:cC:=
 yM (dh 5<|.i .nil) (.c (.a 6) (.a dJ) pH) (dh 3 dQ)
def CK:cC:=
 EE (dh 3<|.i<|e1<|.i .nil) (.c (.a 4) (.b<|e1<|gy<|.b cI<|i_ 0) pJ) (.c (.a 6) (.a dJ) t7) (.a nZ)
abbrev KI:B Str:=["_law_script","_law_at","_law_kinds_here","_law_words_here","_law_parts","_law_k","_law_kind"]
def t8:cC:=
 oU (dh 6<|.b (.b dc<|eL (.e 1<|e2 ck<|dU (dU cI<|i_ 10) dQ)<|gy dc)<|i_ 0) (.e<|.l .a fQ<|e1<|.e 0<|.cons ck<|.cons (dU cI dQ)<|e4 dc (.i<|e1 iO) (.i .nil) dJ)
def CL:cC:=
 yM (dh 4<|.i .nil) (.c (.a 5) (.b<|e1<|i_ 8) t8) (.a<|.f<|e3 fQ (.i<|e1<|.f<|e3 (.b (.b dJ<|i_ 1)<|i_ 0) (i_ 0)<|i_ 1)<|.i<|e1<|.f<|e2 (.b (.b dJ<|i_ 2)<|i_ 0)<|i_ 0)
abbrev Hi:B Str:=["_law_one","_law_other","_law_many","_law_joins"]
def A0:cC:=
 yM (dh 2<|gy<|.b ck<|i_ 0) (dh 3<|dU (.b ck<|i_ 1)<|.j ["_law_word","_law_i","_law_j"] [2] (.f<|e3 ck (dU cI dJ)<|dU dc dJ) (Cv 0 1 2) (.a<|.b cI<|i_ 1) .none) (.a<|.f<|e3 (dU (.b ck<|i_ 0)<|.b cI<|i_ 0) (.h .d<|e1 dJ)<|dU (.b ck<|i_ 2)<|.j ["_law_word","_law_i"] [2] (.f<|e2 ck<|dU cI dc) (pD 0 1) (.a<|.b cI<|i_ 2) .none)
abbrev Nu:B Str:=["_law_script","_law_reading_here","_law_kinds_here","_law_parts"]
def qT:cC:=
 dW (.e<|.l .a dJ<|e1<|.f<|e1<|.b (.b dc<|eL (.e 0<|e2 ck<|dU (i_ 230)<|gy dJ)<|gy dc)<|i_ 0)
def FL:cC:=
 yM (dh 3<|.h .g<|e1<|.b cI<|i_ 0) (.j (.d .Lt (gy dJ)<|i_ 5) qT) (.a<|.f<|.cons dJ<|e4 (.b cI<|i_ 1) (.b cI<|i_ 2) (.b cI<|i_ 3)<|.b cI<|i_ 4)
abbrev ZZ:B Str:=["_law_script","_law_kinds_here","_law_words_here","_law_turn","_law_reading_here","_law_thing","_law_longer"]
abbrev s1:CS:=
 dh 4 (.e 8<|.cons ck<|e4 (dU (i_ 20)<|.g .Mult (i_ 50) dJ) cI dc<|.c<|.c W)
abbrev s2:CS:=
 .b (.k (n5 dJ<|i_ 1)<|n5 (eL (.e 3<|e2 ck<|i_ 18)<|i_ 3)<|i_ 0) (dW<|dh 4<|.e 7<|e3 ck fQ cI) .nil
abbrev s3:CS:=
 dh 5 (.e 6<|.cons ck<|e4 (dU (i_ 40)<|.g .Mult (i_ 50) dJ) cI fQ dc)
abbrev Vd:CS:=
 dh 6 (.e 4<|e2 (.e 5<|e4 ck (i_ 190) cI dc) dQ)
abbrev s6:CS:=
 dh 5 (.e 2<|.cons ck<|e4 (dU (i_ 60)<|.g .Mult (i_ 50) dJ) cI dQ dc)
def A1:cC:=
 ZS s1 s2 s3 (.b (.d .NotEq (.e 0<|e3 cI fQ dQ)<|.e 1<|e3 cI fQ dQ) (dW<|.a<|.c<|.c W) .nil) (.b (.k (n5 dJ<|i_ 0)<|.k (.s .Lt .Lt (i_ 0) (gy<|.b fQ<|i_ 0)<|i_ 4)<|n5 (eL (.e 3<|e2 ck<|i_ 17)<|i_ 3)<|i_ 0) (oU Vd<|.b (.d .NotEq (.e 0<|e3 cI fQ iO)<|.e 1<|e3 cI fQ iO) (dW<|.a<|.c<|.c W) .nil) .nil) s6 (.b (.d .NotEq (.e 0<|e3 cI fQ dQ)<|.e 1<|e3 cI fQ dQ) (dW<|.a<|.c<|.c W) .nil)
def RX:cC:=
 EE (dh 1<|.e 10<|e1 ck) (dh 2<|.e 9<|e1 ck) (.c (.a 3) (.b<|e1<|i_ 3) A1) (.a<|.c<|.c L)
abbrev Qc:B Str:=["self","kinds","thing"]
def Jg:cC:=
 Nt (.f 0 0 "sizes" (.j ["kind","sizes"] [] (.h .b<|e1 cI) (pD 0 1) (.a<|.b dc<|i_ 0) .none)) (.f 0 0 "uppers" (.j ["kind","sizes"] [1] (.e 2<|e2 dc ck) (pD 0 1) (.a<|.b dc<|i_ 0) .none)) (.f 0 0 "joins" (.h .j<|e1<|.j ["join"] [] (.f<|e2 ck<|.c<|.c L) (.a 0) (.a<|.b dc<|i_ 1) .none)) (.f 0 0 "steps" (.b dc<|i_ 2)) (.f 0 0 "marks" (.e 1<|e2 (.b dc<|i_ 1)<|.b dc<|i_ 2))
noncomputable def CM:B PG:=[]
def pK:B D->R D:=eX CM 1000 CA 3 xP
noncomputable def CN:B PG:=[]
def pL:B D->R D:=eX CN 1000 Cz 3 xO
noncomputable def xR:B PG:=[]
def kP:B D->R D:=eX xR 1000 xN 2 r9
def m6(r:B D->R D):B PG:=[.a pK [],.b 36 ["sizes","uppers","joins","steps","marks"],.a pL [],.a r [],.a kP []]
def d8:Nat->B D->R D
|0=>λ_=>.d
|k+1=>eX (m6<|d8 k) 1000 qe 6 kC
def qv:B D->R D:=d8 7
def zY:B PG:=[.c,.a qv []]
def m8:B D->R D:=eX zY 1000 zW 4 uX
def Hj:B PG:=[.a m8 []]
def lU:B D->R D:=eX Hj 1000 tX 4 oV
noncomputable def EL:B PG:=[.b 36 ["sizes","uppers","joins","steps","marks"]]
def qU:B D->R D:=eX EL 1000 EH 3 zx
noncomputable def EM:B PG:=[.b 36 ["sizes","uppers","joins","steps","marks"]]
def qV:B D->R D:=eX EM 1000 EG 3 zw
noncomputable def Hl:B PG:=[]
def t9:B D->R D:=eX Hl 1000 G7 3 AW
noncomputable def Bs:B PG:=[]
def jV:B D->R D:=eX Bs 1000 Bq 2 vZ
noncomputable def Ho:B PG:=[]
def nJ:B D->R D:=eX Ho 1000 G6 2 AV
def CP:B PG:=[.a qU [],.a qV [],.a t9 [],.a jV [],.b 36 ["sizes","uppers","joins","steps","marks"],.a nJ []]
def m9:B D->R D:=eX CP 1000 Cy 3 xM
def yO:B PG:=[.a lU [],.a m9 [],.a jV [],.b 36 ["sizes","uppers","joins","steps","marks"]]
def jR:B D->R D:=eX yO 1000 yN 2 tW
noncomputable def EN:B PG:=[]
def qW:B D->R D:=eX EN 1000 EF 2 zu
def Qd:B PG:=[.b 36 ["sizes","uppers","joins","steps","marks"],.a nJ [],.a qW []]
def xd:B D->R D:=FI Qd 1000 Qc 3 36 Jg
def CQ:B PG:=[.a jR [],.a xd []]
def iX:B D->R D:=eX CQ 1000 Cw 3 xK
noncomputable def EO:B PG:=[]
def qX:B D->R D:=eX EO 1000 EK 3 zA
noncomputable def Hq:B PG:=[]
def iH:B D->R D:=eX Hq 1000 G8 2 AX
def KJ:B PG:=[.a iH []]
def pN:B D->R D:=eX KJ 1000 KG 3 CJ
noncomputable def ER:B PG:=[]
def qY:B D->R D:=eX ER 1000 EJ 3 zz
def zZ:B PG:=[.a qX [],.a pN [],.a qY []]
def m_:B D->R D:=eX zZ 1000 zX 4 uZ
def KL:B PG:=[.a m_ [],.a pN []]
def lV:B D->R D:=eX KL 1000 KH 3 CK
noncomputable def Jh:B PG:=[]
def d9:B D->R D:=eX Jh 1000 Qa 2 DW
def aac:B PG:=[.a d9 []]
def qx:B D->R D:=eX aac 1000 Hg 5 Hh
noncomputable def Hr:B PG:=[]
def qB:B D->R D:=eX Hr 1000 Hi 2 A0
def Ht:B PG:=[.a iH []]
def nK:B D->R D:=eX Ht 1000 G9 2 AY
def xS:B PG:=[.a nK [],.a d9 []]
def gR:B D->R D:=eX xS 1000 CH 6 tZ
def KN:B PG:=[.a gR [],.a d9 []]
def sL:B D->R D:=eX KN 1000 KI 4 CL
def Bt:B PG:=[.a d9 [],.a gR []]
def lH:B D->R D:=eX Bt 1000 Br 5 v5
def Nv:B PG:=[.a d9 []]
def u0:B D->R D:=eX Nv 1000 Nu 3 FL
noncomputable def A2:B PG:=[]
def qC:B D->R D:=eX A2 1000 Hf 1 wW
def Hu:B PG:=[.a d9 [],.a iH []]
def t_:B D->R D:=eX Hu 1000 G_ 4 AZ
def ES:B PG:=[.a nK [],.a d9 [],.a qC [],.a t_ []]
def oE:B D->R D:=eX ES 1000 EI 5 zy
def KO:B PG:=[.a d9 []]
def sM:B D->R D:=eX KO 1000 KC 3 CC
def KP:B PG:=[.a sM []]
def vC:B D->R D:=eX KP 1000 KE 1 CF
def KQ:B PG:=[.a d9 [],.a sM []]
def vD:B D->R D:=eX KQ 1000 KD 1 CD
def Z0:B PG:=[.a iX [],.a lV [],.a qx [],.a d9 [],.a qB [],.a sL [],.a lH [],.a u0 [],.a oE [],.a vC [],.a vD []]
def LQ:B D->R D:=eX Z0 1000 ZZ 1 RX
def BN:B Str:=["all","any","dict","enumerate","int","len","list","max","min","range","reversed","set","sorted","tuple"]
def abT(s:Stmt):B Stmt:=match s with
|.ClassDef _ _ _ b _ _ _ _ _ _ _=>b
|_=>[]
def CT:FD:=#["steps_hold",top 17,CA,3,[]]
theorem Nx:CT.iy BN xP=L:=by rfl
def CU:FD:=#["joins_hold",top 16,Cz,3,[]]
theorem Ny:CU.iy BN xO=L:=by rfl
def xT:FD:=#["all_shut_found",top 15,xN,2,[]]
theorem FN:xT.iy BN r9=L:=by rfl
def z0:FD:=#["finding_from",top 14,qe,6,["steps_hold","$Ready","joins_hold","finding_from","all_shut_found"]]
theorem Ji:z0.iy BN kC=L:=by rfl
def z5:FD:=#["some_finding",top 13,zW,4,["some_finding","finding_from"]]
theorem Jj:z5.iy BN uX=L:=by rfl
def yQ:FD:=#["first_finding",top 12,tX,4,["some_finding"]]
theorem Hv:yQ.iy BN oV=L:=by rfl
def ET:FD:=#["has_marks",top 11,EH,3,["$Ready"]]
theorem OQ:ET.iy BN zx=L:=by rfl
def EU:FD:=#["has_sizes",top 10,EG,3,["$Ready"]]
theorem OR:EU.iy BN zw=L:=by rfl
def Hw:FD:=#["open_for",top 9,G7,3,[]]
theorem aad:Hw.iy BN AW=L:=by rfl
def Bu:FD:=#["parts_under",top 6,Bq,2,[]]
theorem Lm:Bu.iy BN vZ=L:=by rfl
def Hx:FD:=#["marks_of",top 8,G6,2,[]]
theorem OkS:Hx.iy BN AV=L:=by rfl
def CV:FD:=#["choices_of",top 7,Cy,3,["has_marks","has_sizes","open_for","parts_under","$Ready","marks_of"]]
theorem Nz:CV.iy BN xM=L:=by rfl
def yR:FD:=#["finding_ready",top 5,yN,2,["first_finding","choices_of","parts_under","$Ready"]]
theorem Hz:yR.iy BN tW=L:=by rfl
def EV:FD:=#["uppers_of",top 1,EF,2,[]]
theorem OS:EV.iy BN zu=L:=by rfl
def Qe:FD:=#["Ready",(abT<|top 3).getD 0<|.Pass #[0,0,0,0],Qc,3,["$Ready","marks_of","uppers_of"]]
theorem abU:Qe.iy BN Jg=L:=by rfl
def CW:FD:=#["finding_in",top 4,Cw,3,["finding_ready","Ready"]]
theorem NB:CW.iy BN xK=L:=by rfl
def EW:FD:=#["_law_stepped",top 33,EK,3,[]]
def OT:EW.iy BN zA=L:=by decide +kernel
def HA:FD:=#["_law_uppers",top 23,G8,2,[]]
theorem PI':HA.iy BN AX=L:=by rfl
def KR:FD:=#["_law_meets",top 31,KG,3,["_law_uppers"]]
def fr2:KR.iy BN CJ=L:=by decide +kernel
def EX:FD:=#["_law_bounded",top 32,EJ,3,[]]
def OU:EX.iy BN zz=L:=by decide +kernel
def z6:FD:=#["_law_is_finding",top 34,zX,4,["_law_stepped","_law_meets","_law_bounded"]]
def Jk:z6.iy BN uZ=L:=by decide +kernel
def KS:FD:=#["_law_first",top 35,KH,3,["_law_is_finding","_law_meets"]]
def fr3:KS.iy BN CK=L:=by decide +kernel
def Qf:FD:=#["_law_mix",top 19,Qa,2,[]]
theorem abV:Qf.iy BN DW=L:=by rfl
def HB:FD:=#["_law_spoilt",top 30,Hg,5,["_law_mix"]]
theorem PIE:HB.iy BN Hh=L:=by rfl
def HC:FD:=#["_law_behind",top 37,Hi,2,[]]
def PIp:HC.iy BN A0=L:=by decide +kernel
def HD:FD:=#["_law_lowers",top 24,G9,2,["_law_uppers"]]
theorem SlR:HD.iy BN AY=L:=by rfl
def CY:FD:=#["_law_part_for",top 28,CH,6,["_law_lowers","_law_mix"]]
theorem NC:CY.iy BN tZ=L:=by rfl
def KU:FD:=#["_law_loose",top 36,KI,4,["_law_part_for","_law_mix"]]
def fr5:KU.iy BN CL=L:=by decide +kernel
def Bv:FD:=#["_law_thing_for",top 29,Br,5,["_law_mix","_law_part_for"]]
theorem Ln:Bv.iy BN v5=L:=by rfl
def ND:FD:=#["_law_five",top 38,Nu,3,["_law_mix"]]
def neF:ND.iy BN FL=L:=by decide +kernel
def HE:FD:=#["_law_bounds",top 26,Hf,1,[]]
theorem TIt:HE.iy BN wW=L:=by rfl
def HF:FD:=#["_law_groups",top 25,G_,4,["_law_mix","_law_uppers"]]
theorem UnP:HF.iy BN AZ=L:=by rfl
def EY:FD:=#["_law_reading",top 27,EI,5,["_law_lowers","_law_mix","_law_bounds","_law_groups"]]
theorem OV:EY.iy BN zy=L:=by rfl
def KW:FD:=#["_law_names",top 20,KC,3,["_law_mix"]]
theorem frd:KW.iy BN CC=L:=by rfl
def KY:FD:=#["_law_words",top 22,KE,1,["_law_names"]]
theorem frp:KY.iy BN CF=L:=by rfl
def KZ:FD:=#["_law_kinds",top 21,KD,1,["_law_mix","_law_names"]]
theorem fry:KZ.iy BN CD=L:=by rfl
def yS:FD:=#["law",top 39,ZZ,1,["finding_in","_law_first","_law_spoilt","_law_mix","_law_behind","_law_loose","_law_thing_for","_law_five","_law_reading","_law_words","_law_kinds"]]
theorem af3:yS.iy BN RX=L:=by rfl
end Tr
end
section
namespace K2
open PySem L2 L3
def lW{β:Type}{g:D->bw->R bw}{b:bw->Fl}(enc:β->D)(xs:B β)(I:B β->bw->Prop)(h:∀pre x post,xs=pre++x::post->∀O,I pre O->∃σ2 σ3,g (enc x) O=.c σ2/\b σ2=.a σ3/\I (pre++[x]) σ3)(O:bw)(h0:I [] O):∃σ',QS g b (xs.map enc) O=.a σ'/\I xs σ':=by
 have go:∀(post pre:B β) (O:bw),xs=pre++post->I pre O->∃σ',QS g b (post.map enc) O=.a σ'/\I xs σ':=by
  intro post;induction post with
  |nil=>intro pre O e hi;rw[e,ee];exact#[O,rfl,hi]
  |cons x r ih=>
   intro pre O e hi;let#[σ2,σ3,h1,h2,h3]:=h pre x r e O hi;let#[σ',h4,h5]:=ih (pre++[x]) σ3 (by rw[e,bE];rfl) h3;refine#[σ',?_,h5];rw[bB];show(g (enc x) O).bH _=_;rw[h1];simp only[R.bH,h2];exact h4
 exact go xs [] O rfl h0
end K2
end
section
namespace K3
open List renaming map->C
open PySem L2 L3 Tr
theorem oM{β:Type}{f:β->D}(h:∀x,aX (f x)=L):∀l:B β,bq (C f l)=L
|[]=>rfl
|x::r=>by
 show(aX (f x)&&bq (C f r))=L;rw[h,oM h r];rfl
theorem Qg{β:Type}{f g:β->D}(h:∀x,br (f x)=g x):∀l:B β,aD (C f l)=C g l
|[]=>rfl
|x::r=>by
 show br (f x)::aD (C f r)=_;rw[h,Qg h r];rfl
theorem vE{β:Type}(f:β->D)(n):∀l:B β,(∀x,l9 (f x) n=L)->gA (C f l) n=L
|[],_=>by simp[gA]
|x::r,h=>by simp[gA,h x,vE f n r h]
def nj{xs:B D}(h:aD xs=xs):br (.a W xs)=.a W xs:=by
 show D.a W (aD xs)=_;rw[h]
def Jl(o){β:Type}(f:β->D)(l:B β):h_ .a [.a o<|C f l]=.c (.b (zl l:J)):=by
 show R.c (D.b (zl (C f l):J))=_;rw[aa]
def bP(l:B J):aD (C D.b l)=C D.b l:=dj _ (λ_=>rfl) l
def bQ(l:B Str):aD (C D.c l)=C D.c l:=dj _ (λ_=>rfl) l
def cQ(ns):br (bz ns)=bz ns:=by
 show D.a W (aD _)=_;rw[bP];rfl
def dm(a){b:J}(h:0<b):0<=a%b/\a%b<b:=#[Int.emod_nonneg _<|by lia,Int.emod_lt_of_pos _ h]
def jx{α:Type}(xs:B α)(i:J)(h0:0<=i)(h1:i<zl xs):∃j,∃(h:j<zl xs),i=(j)/\bL xs i=M xs[j]:=by
 let#[j,rfl]:=lG h0;have hj:j<zl xs:=by lia
 refine#[j,hj,rfl,GZ ?_<|ai hj];unfold kq;simp;omega
noncomputable def Jm(c k:J):J:=(c%1000000007+7*k+1)*(48271+97*k*k)%2147483629*((c%1000000007+7*k+1)*(48271+97*k*k)%2147483629)%2147483587
def LR(c k):0<=Jm c k/\Jm c k<2147483587:=dm _<|by decide
def kX(ns)(k)(hk:0<=k/\k<2 ^ 20):∃m:J,0<=m/\m<2147483587/\d9 [bz ns,.b k]=.c (.b m):=by
 by_cases h:zl ns=0
 .refine#[Jm 0 k,(LR _ _).1,(LR _ _).2,?_];have e:decide ((0:J)<(zl ns:J))=W:=bM (by lia);unfold d9 DW Jh bz Jm;simp_arith[e,bP]
 .let#[b0,b1]:=dm k (b:=(zl ns:J)) (by lia);let#[j,hj,ej,ea]:=jx (C D.b ns) (k%(zl ns:J)) b0 (by rw[aa];exact b1);rw[dP]at ea;refine#[Jm (ns[j]'(by simp_all)) k,(LR _ _).1,(LR _ _).2,?_];have e:decide ((0:J)<(zl ns:J))=L:=aU (by lia);have hp:(0:J)<(zl ns:J):=by lia
  unfold d9 DW Jh bz Jm;simp_arith[e,ea,bP]
noncomputable abbrev u5:Str:="bdfgjkmpqrvwxyz"
def DX:zl u5.cps.toList=15:=by decide
def Vh(x y:Str):(x++y).length=x.length+y.length:=by
 show(x.cps++y.cps).size=_;rw[Array.size_append];rfl
def zS(l:B Nat)(a b):zl (cut l a b)<=zl l:=by
 unfold cut;simp
 lia
def wX(m:J)(stem:B Nat)(at_:J)(j:Nat):Str:=
 (⟨(cut stem S<|M at_).toArray⟩++⟨#[(bL u5.cps.toList<|(m / 375+(j:J))%15).getD 0]⟩)++⟨(cut stem (M at_) S).toArray⟩
def fs1{m:J}{stem:B Nat}{at_:J}{i j:Nat}(hi:i<15)(hj:j<15)(h:wX m stem at_ i=wX m stem at_ j):i=j:=by
 have h1:(wX m stem at_ i).cps.toList=(wX m stem at_ j).cps.toList:=by rw[h]
 have e:∀k:Nat,(wX m stem at_ k).cps.toList=cut stem S (M at_)++([(bL u5.cps.toList<|(m / 375+(k:J))%15).getD 0]++cut stem (M at_) S):=λk=>by
  show(((cut stem S<|M at_).toArray++#[_])++(cut stem (M at_) S).toArray).toList=_;rw[k8,k8,bE]
 rw[e,e]at h1;have h2:=List.append_cancel_left h1;have h3:=(acz h2).1;let#[c0,c1]:=dm (m / 375+(i:J)) (b:=15) (by decide);let#[d0,d1]:=dm (m / 375+(j:J)) (b:=15) (by decide);let#[a,ha,ea,qa]:=jx u5.cps.toList ((m / 375+(i:J))%15) c0 (by rw[DX];exact c1);let#[b,hb,eb,qb]:=jx u5.cps.toList ((m / 375+(j:J))%15) d0 (by rw[DX];exact d1);rw[qa,qb]at h3;have h4:=(F8<|by decide).mp h3
 lia
def DY(ns)(k many)(hk:0<=k/\k<2 ^ 20)(hm:0<=many/\many<=9):∃ss:B Str,(ss.length:J)=many/\ss.Nodup/\(∀s∈ss,1<=s.length/\s.length<=20)/\sM [bz ns,.b k,.b many]=.c (.a L<|C D.c ss):=by
 let#[m,m0,m1,qm]:=kX ns k hk;have hs:=szl;let#[c0,c1]:=dm m (b:=15) (by decide);let#[j,hj,ej,ea]:=jx u5.cps.toList (m%15) c0 (by rw[DX];exact c1);let#[d0,d1]:=dm (m / 15) (b:=5) (by decide);generalize hst:zT ⟨#[u5.cps.toList[j]]⟩ (m / 15%5).toNat=stem;have lst:stem.length<=5:=by
  rw[<-hst];unfold zT iJ;simp
  lia
 refine#[(bW many.toNat).map<|wX m stem.cps.toList<|m / 75%((stem.length:J)+1),by simp;lia,kc.mpr (Ow (λ{i j} hi hj hne h=>hne (fs1 (by have:=fJ.mp hi;lia) (by have:=fJ.mp hj;lia) h))<|Gn),?_,?_]
 .intro s hs';let#[i,_,rfl]:=bF.mp hs';have h1:=zS stem.cps.toList S<|M<|m / 75%((stem.length:J)+1);have h2:=zS stem.cps.toList (M<|m / 75%((stem.length:J)+1)) S;have h3:stem.cps.toList.length=stem.length:=rfl;unfold wX;rw[Vh,Vh];simp only[iJ,aS,cX,jT]at *;constructor<;>(simp;lia)
 .have hr:0<=m / 15%5/\m / 15%5<2 ^ 40/\(iJ ⟨#[u5.cps.toList[j]]⟩)*(m / 15%5).toNat<=aj:=#[d0,by lia,by rw[hs];show 1*_<=_;lia];unfold sM CC KO;simp_arith[cQ,qm,ea,hst];generalize hat:m / 75%((stem.length:J)+1)=at_;rw[show fX 0 many.toNat=C (λi:Nat=>D.b<|0+(i:J)) (bW many.toNat)from rfl,eK (λi:Nat=>D.b<|0+(i:J)) (λO=>∃o,O=[o,M<|.c u5,M<|.b m,M<|.c stem,M<|.b at_]) (λi=>D.c<|wX m stem.cps.toList at_ i) (bW many.toNat) _ #[S,rfl] (by
   rintro i _ O ⟨o,rfl⟩;refine#[[M<|.b<|0+(i:J),M<|.c u5,M<|.b m,M<|.c stem,M<|.b at_],rfl,#[_,rfl],?_];let#[c0,c1]:=dm (m / 375+(i:J)) (b:=15) (by decide);let#[j2,hj2,stat,ea2]:=jx u5.cps.toList ((m / 375+(i:J))%15) c0 (by rw[DX];exact c1);have h1:=zS stem.cps.toList S<|M at_;have h2:=zS stem.cps.toList (M at_) S;have h3:stem.cps.toList.length=stem.length:=rfl;have l1:(iJ ⟨(cut stem.cps.toList S<|M at_).toArray⟩)+(iJ ⟨#[u5.cps.toList[j2]]⟩)<=aj:=by
    rw[hs];simp only[iJ,aS]at *;simp;lia
   have l2:(iJ<|⟨(cut stem.cps.toList S<|M at_).toArray⟩++⟨#[u5.cps.toList[j2]]⟩)+(iJ ⟨(cut stem.cps.toList (M at_) S).toArray⟩)<=aj:=by
    rw[Vh,hs];simp only[iJ,aS]at *;simp;lia
   unfold wX;simp_arith[ea2,Gp,Du])]
  simp_arith[];rw[bG];rfl
def iY{g:D->bw->R bw}{b:bw->Fl}(n)(I:Nat->bw->Prop)(h:∀k<n,∀O,I k O->∃σ2 σ3,g (.b<|k) O=.c σ2/\b σ2=.a σ3/\I (k+1) σ3)(O:bw)(h0:I 0 O):∃σ',QS g b (fX 0 n) O=.a σ'/\I n σ':=by
 have e:fX 0 n=(zM 0 n).map λk:Nat=>D.b (k:J):=by
  unfold fX;rw[Bh];simp
 have go:∀(m j:Nat) (O:bw),j+m=n->I j O->∃σ',QS g b ((zM j m).map λk:Nat=>D.b (k:J)) O=.a σ'/\I n σ':=by
  intro m;induction m with
  |zero=>intro j O hj hi;rw[show n=j by lia];exact#[O,rfl,hi]
  |succ m ih=>
   intro j O hj hi;let#[σ2,σ3,h1,h2,h3]:=h j (by lia) O hi;let#[σ',h4,h5]:=ih (j+1) σ3 (by lia) h3;refine#[σ',?_,h5];rw[Gq,bB];show(g (.b (j:J)) O).bH _=_;rw[h1];simp only[R.bH,h2];exact h4
 rw[e];exact go n 0 O (by lia) h0
def jM(s:Str):Prop:=s.length<=20
noncomputable def z7(p:Str×Str):D:=.d [.c p.1,.c p.2]
abbrev bV(ks:B<|Str×Str):B D:=C z7 ks
def kg(ks):aD (bV ks)=bV ks:=dj z7 (λ_=>rfl) ks
def j8(l:B Str):bq (C D.c l)=L:=oM (λ_=>rfl) l
def zv'(ks):bq (bV ks)=L:=oM (λ_=>rfl) ks
def gh{α:Type}{xs:B α}{j:Nat}{x:α}(h:xs[j]?=M x):bL xs (j)=M x:=by
 have hj:j<zl xs:=by grind
 refine GZ ?_ h;unfold kq;simp;omega
def abW(ns):∃a b c:B Str,a.length=3/\b.length=2/\c.length=2/\(∀s∈a,jM s)/\(∀s∈b,jM s)/\(∀s∈c,jM s)/\vC [bz ns]=.c (.d [.a L<|C D.c a,.a L<|C D.c b,.a L<|C D.c c]):=by
 let#[a,a1,_,a2,qa]:=DY ns 12 3 (by lia) (by lia);let#[b,b1,_,b2,qb]:=DY ns 13 2 (by lia) (by lia);let#[c,c1,_,c2,qc]:=DY ns 14 2 (by lia) (by lia);refine#[a,b,c,by lia,by lia,by lia,λs h=>(a2 s h).2,λs h=>(b2 s h).2,λs h=>(c2 s h).2,?_];have hs:=szl;unfold vC CF KP;simp_arith[cQ,qa,qb,qc,j8]
structure vF (ks:B (Str×Str)):Prop where
 l3:3<=zl ks
 l8:zl ks<=8
 ho:∀p∈ks,jM p.1/\jM p.2
 nd:(ks.map (·.1)).Nodup
 gd:∀(i:Nat) (p:Str×Str),ks[i]?=M p->p.2=""\/p.2∈(ks.map (·.1)).take i
def abX(ns):∃ks:B<|Str×Str,vF ks/\vD [bz ns]=.c (.a L<|bV ks):=by
 let#[m1,base_of,op_cat',q1]:=kX ns 1 (by lia);have b6:=dm m1 (b:=6) (by decide);let#[ss,sl,snd,sb,qn]:=DY ns 2 (3+m1%6) (by lia) (by lia);have hs:=szl;have rg:-(2 ^ 62)<=3+m1%6/\(3+m1%6).toNat<=aj:=by lia
 unfold vD CD;unfold KQ;simp_arith[cQ,q1,qn,j8];let#[σ',h1,ks,kv,mv,uv,hl,hk,he,hg,rfl]:=iY (g:=pG<|.a 4) (3+m1%6).toNat
  (λk O=>∃(ks:B<|Str×Str) (kv mv uv:LD D),ks.length=k/\(∀p∈ks,jM p.1/\jM p.2)/\ks.map (·.1)=ss.take k/\(∀(i:Nat) (p:Str×Str),ks[i]?=M p->p.2=""\/p.2∈ss.take i)/\O=[M<|bz ns,M<|.b<|3+m1%6,M<|.a L<|ss.map D.c,M<|.a L<|bV ks,kv,mv,uv]) (by
  intro k hk O z0;let#[ks,kv,mv,uv,hl,hp,he,hg,rfl]:=z0;let#[m,m0,pe_or',qm]:=kX ns (3+(k:J)) (by lia);refine#[[M<|bz ns,M<|.b<|3+m1%6,M<|.a L<|ss.map D.c,M<|.a L<|bV ks,M<|.b k,mv,uv],?_];have Sk:k<ss.length:=by lia
  have ek:bL (ss.map D.c) (k:J)=M (D.c ss[k]):=gh (by rw[aJ,ai Sk];rfl);have hkn:(bV ks).length<aj:=by rw[aa];lia
  suffices hh:∃u:Str,jM u/\(u=""\/u∈ss.take k)/\bK [PG.a d9 [],PG.a sM []] 1000 xQ [M<|bz ns,M<|.b<|3+m1%6,M<|.a L<|ss.map D.c,M<|.a L<|bV ks,M<|.b k,mv,uv]=Fl.a [M<|bz ns,M<|.b<|3+m1%6,M<|.a L<|ss.map D.c,M<|.a L<|bV<|ks++[(ss[k],u)],M<|.b k,M<|.b m,M<|.c u]by
   let#[u,hu,hu2,Wb]:=hh;refine#[_,rfl,Wb,ks++[(ss[k],u)],_,_,_,by simp[hl],λp Sl=>?_,?_,λi p Tg=>?_,rfl]
   rotate_left
   .rw[bl,he,vP,List.take_succ_eq_append_getElem Sk]
   .rcases Ep i ks.length with q|q|q
    .exact hg i p (by rwa[bJ q]at Tg)
    .subst q;rw[List.getElem?_concat_length]at Tg;cases Tg;rw[hl];exact hu2
    .rw[List.getElem?_eq_none (by simp;lia)]at Tg;cases Tg
   rcases bh.mp Sl with q|q
   .exact hp p q
   .rw[aK.mp q];exact#[(sb _<|cK Sk).2,hu]
  unfold xQ;have fin:∀u:Str,bV ks++[D.d [.c ss[k],.c u]]=bV (ks++[(ss[k],u)]):=λu=>by simp[bV,z7]
  simp_arith[cQ,qm];by_cases c1:(0:J)<(k:J)
  .rw[aU c1];simp_arith[];by_cases c2:(0:J)<m%4
   .rw[aU c2];let#[b1,b2]:=dm (m / 4) c1;let#[j,hj,ej,ea]:=jx (ss.map D.c) (m / 4%(k:J)) b1 (by rw[aa];lia);rw[dP]at ea;refine#[ss[j]'(by simpa using hj),(sb _<|cK _).2,.inr (List.mem_take_iff_getElem.mpr #[j,by have:j<k:=(by lia);simp;lia,rfl]),?_];simp_arith[ea,ek,bQ];rw[iu rfl hkn rfl];simp_arith[fin]
   .rw[bM c2];refine#["",(by unfold jM;decide),.inl rfl,?_];simp_arith[ek,bQ];rw[iu rfl hkn rfl];simp_arith[fin]
  .rw[bM c1];refine#["",(by unfold jM;decide),.inl rfl,?_];simp_arith[ek,bQ];rw[iu rfl hkn rfl];simp_arith[fin]) [M<|bz ns,M<|.b<|3+m1%6,M<|.a L<|ss.map D.c,M<|.a L [],S,S,S] #[[],_,_,_,rfl,λp hp=>aI hp aF,by simp,λi p Tg=>by simp at Tg,rfl]
 have hss:ss.take (3+m1%6).toNat=ss:=fP (by lia);rw[hss]at he;refine#[ks,#[by lia,by lia,hk,he▸snd,by rw[he];exact hg],?_];rw[h1];simp_arith[]
def xw{α:Type}(xs)(x:α):bL (xs++[x]) (-1)=M x:=by
 have e:kq (zl<|xs++[x]) (-1)=M (zl xs):=by
  unfold kq;rw[aG<|by decide];simp only[aZ,cX,jT]
  (rw[aH<|by lia];congr 1;lia)
 unfold bL;rw[e];simp
theorem wY{β:Type}{g:D->bw->R bw}{c:bw->R Bool}{e:bw->R D}(enc:β->D)(I:bw->Prop)(T:β->Bool->Prop)(f:β->D):∀(xs:B β) (O:bw),I O->(∀x∈xs,∀O,I O->∃σ2 b,g (enc x) O=.c σ2/\I σ2/\c σ2=.c b/\T x b/\e σ2=.c (f x))->
 ∃ys:B β,dK g c e (C enc xs) O=.c (C f ys)/\ys.Sublist xs/\(∀y∈ys,T y L)/\∀x∈xs,(∀b,T x b->b=L)->x∈ys
|[],O,_,_=>#[[],rfl,.slnil,λ_ h=>aI h aF,λ_ h=>aI h aF]
|x::r,O,hi,h=>by
 let#[σ2,b,h1,h2,h3,h4,h5]:=h x aB O hi;let#[ys,i1,i2,i3,i4]:=wY enc I T f r σ2 h2 λy hy=>h y<|aq _ hy;have ih:=i1;cases b with
 |true=>
  refine#[x::ys,?_,List.cons_sublist_cons.mpr i2,λy hy=>?_,λy hy hT=>?_]
  .show(g (enc x) O).bind _=_;rw[h1];simp only[R.bind,h3,kF,h5,ih];rfl
  .rcases aO.mp hy with q|q
   .rw[q];exact h4
   .exact i3 y q
  .rcases aO.mp hy with q|q
   .rw[q];exact aB
   .exact aq _ (i4 y q hT)
 |false=>
  refine#[ys,?_,i2.trans<|List.sublist_cons_self x r,i3,λy hy hT=>?_]
  .show(g (enc x) O).bind _=_;rw[h1];simp only[R.bind,h3,gg,iN];exact ih
  .rcases aO.mp hy with q|q
   .subst q;exact aI (hT W h4) bY
   .exact i4 y q hT
noncomputable def fh:B (Str×Str)->Str->B Str
|[],a=>[a]
|p::r,a=>if p.1=a/\p.2≠"" then a::fh r p.2 else fh r a
theorem Qh:∀(l) (a),a∈fh l a
|[],a=>aB
|p::r,a=>by
 unfold fh;split
 .simp
 .exact Qh r a
theorem Jo:∀(l) (a),zl (fh l a)<=zl l+1
|[],a=>aM _
|p::r,a=>by
 unfold fh;split
 .have:=Jo r p.2;simp;omega
 .have:=Jo r a;simp;lia
theorem NF:∀(l) (a),(∀p∈l,jM p.1/\jM p.2)->jM a->∀s∈fh l a,jM s
|[],a,_,ha,s,h=>by rw[aK.mp h];exact ha
|p::r,a,h,ha,s,hs=>by
 unfold fh at hs;split at hs
 .rcases aO.mp hs with q|q
  .simp_all
  .exact NF r _ (λx hx=>h x<|aq _ hx) (h p aB).2 s q
 .exact NF r _ (λx hx=>h x<|aq _ hx) ha s hs
def Z1(ks)(hk:zl ks<=8)(a):iH [.a W<|bV ks,.c a]=.c (.a L<|(fh ks.reverse a).map D.c):=by
 have hs:=szl;unfold iH AX Hq;simp_arith[kg];rw[<-nU];let#[σ',h1,row,l,nv,uv,r2,r3,rfl]:=K2.lW (g:=pG<|.b #v[.a 3,.a 4]) (b:=bK [] 1000 rP) z7 ks.reverse
  (λpre O=>∃(row:B Str) (l:Str) (nv uv:LD D),zl row<=zl pre/\(∀post,ks.reverse=pre++post->row++fh post l=fh ks.reverse a)/\O=[M<|.a W<|bV ks,M<|.c a,M<|.a L<|(row++[l]).map D.c,nv,uv]) (by
  rintro pre ⟨x,y⟩ post hx O ⟨row,l,nv,uv,r2,r3,rfl⟩;have hpl:zl pre<8:=by
   have:=fY vh hx;simp at this
   lia
  have r4:=r3 _ hx;have hN:∀post',ks.reverse=pre++[(x,y)]++post'->post'=post:=λpost' h=>by simp_all
  have el:bL ((row++[l]).map D.c) (-1)=M (D.c l):=by
   rw[bl];exact xw _ _
  have hlen:zl ((row++[l]).map D.c)<aj:=by simp;lia
  have fr:aD ((row++[l]).map D.c)=(row++[l]).map D.c:=bQ _;by_cases c:x=l/\y≠""
  .refine#[[M<|.a W<|bV ks,M<|.c a,M<|.a L<|(row++[l]).map D.c,M<|.c x,M<|.c y],_,rfl,?_,row++[l],y,M<|.c x,M<|.c y,by simp;omega,λpost' h=>?_,rfl]
   .have c1:(x==l)=L:=by rw[gX];exact c.1
    have c2:(y==nA "")=W:=by rw[dM];exact c.2
    rw[bl (l₁:=row++[l])];generalize(row++[l]).map D.c=RR at el hlen fr ⊢;unfold rP;simp_arith[el,fr,c1,c2];rw[iu rfl hlen rfl];simp_arith[]
   .rw[hN post' h,<-r4];rw[show fh ((x,y)::post) l=l::fh post y from aH c,bE];rfl
  .refine#[[M<|.a W<|bV ks,M<|.c a,M<|.a L<|(row++[l]).map D.c,M<|.c x,M<|.c y],_,rfl,?_,row,l,M<|.c x,M<|.c y,by simp;lia,λpost' h=>?_,rfl]
   .generalize(row++[l]).map D.c=RR at el hlen fr ⊢;unfold rP;by_cases c1:(x==l)=L
    .have c2:(y==nA "")=L:=by
      rw[gX]at c1 ⊢;exact L_ λz=>c #[c1,z]
     simp_arith[el,fr,c1,c2]
    .rw[fq]at c1;simp_arith[el,fr,c1]
   .rw[hN post' h,<-r4];rw[show fh ((x,y)::post) l=fh post l from aG c]) [M<|.a W<|bV ks,M<|.c a,M<|.a L [.c a],S,S] #[[],a,S,S,by simp,λpost h=>by rw[h];rfl,rfl]
 have r4:=r3 [] (by simp);rw[h1];simp_arith[];rw[<-r4];rfl
def NG(ks)(hk:zl ks<=8)(ho:∀p∈ks,jM p.1/\jM p.2)(a)(ha:jM a):∃row:B Str,a∈row/\zl row<=9/\(∀s∈row,jM s)/\iH [.a W<|bV ks,.c a]=.c (.a L<|C D.c row):=
 #[_,Qh _ _,by have:=Jo ks.reverse a;simp at this;lia,NF _ _ (λp h=>ho p<|sA.mp h) ha,Z1 ks hk a]
def DZ(l:B Str):jw (C D.c l)=L:=vE D.c 12 l λ_=>rfl
def neL{a:Str}{l:B Str}(h:a∈l):acM (.c a) (C D.c l)=L:=by
 unfold acM;rw[pZ,fm];refine#[a,h,?_];show(a==a)=L;simp
def NH(ks:B<|Str×Str)(hk:zl ks<=8)(ho:∀p∈ks,jM p.1/\jM p.2)(a:Str)(ha:a∈C (·.1) ks):∃ys:B Str,ys≠[]/\zl ys<=8/\(∀s∈ys,s∈C (·.1) ks)/\nK [.a W<|bV ks,.c a]=.c (.a L<|C D.c ys):=by
 have hs:=szl;let#[p0,hp0,ep0]:=bF.mp ha;unfold nK AY Ht;simp_arith[kg];let#[ys,h1,h2,h3,h4]:=wY (g:=pG<|.b #v[.a 0,.a 1]) (c:=pT [PG.a iH []]<|.d .In (.a 3)<|.e 0 #v[.a 2,.a 0]) (e:=pE [PG.a iH []]<|.a 0) z7
  (λO=>∃o1 o2,O=[o1,o2,M<|.a W<|bV ks,M<|.c a]) (λx b=>x.1=a->b=L) (λx=>D.c x.1) ks [S,S,M<|.a W<|bV ks,M<|.c a] #[_,_,rfl] (by
  rintro⟨x,y⟩ hx O ⟨o1,o2,rfl⟩;let#[row,r1,r2,r3,qu]:=NG ks hk ho x (ho _ hx).1;refine#[[M<|.c x,M<|.c y,M<|.a W<|bV ks,M<|.c a],acM (.c a)<|C D.c row,?_,#[_,_,rfl],?_,?_,?_]
  .unfold z7;simp_arith[]
  .have nn:=DZ row;simp_arith[qu,kg];rw[xH rfl nn];rfl
  .intro e;subst e;exact neL r1
  .simp_arith[])
 refine#[C (·.1) ys,?_,by rw[aa];exact cu h2.length_le hk,λs hs'=>?_,?_]
 .have:=h4 p0 hp0 λb hb=>hb ep0;intro z;rw[BO]at z;rw[z]at this;cases this
 .let#[y,hy,rfl]:=bF.mp hs';exact bF.mpr #[y,h2.subset hy,rfl]
 .rw[h1];simp_arith[];rw[bG];rfl
mutual
noncomputable def pl:D->Nat->Bool
|.h,_=>L
|.e _,_=>L
|.b _,_=>L
|.c _,_=>L
|.d xs,n=>match n with
 |0=>W
 |n+1=>Bw xs n
|_,_=>W
noncomputable def Bw:B D->Nat->Bool
|[],_=>L
|d::r,n=>pl d n&&Bw r n
end
mutual
theorem aeu:∀(d:D) (n:Nat),pl d n=L->br d=d/\aX d=L/\gJ d d=L/\∀m,n<=m->l9 d m=L
|.h,n,h=>#[rfl,rfl,rfl,λ_ _=>by simp[l9]]
|.e b,n,h=>#[rfl,rfl,by simp[gJ],λ_ _=>by simp[l9]]
|.b i,n,h=>#[rfl,rfl,by simp[gJ],λ_ _=>by simp[l9]]
|.c x,n,h=>#[rfl,rfl,by simp[gJ],λ_ _=>by simp[l9]]
|.d xs,0,h=>by simp[pl]at h
|.d xs,n+1,h=>by
 let#[h1,h2,h3,h4]:=qD xs n (by simpa[pl]using h);refine#[by simp[br,h1],by simp[aX,h2],by simp[gJ,h3],λm hm=>?_];obtain⟨k,rfl⟩:∃k,m=k+1:=#[m-1,by omega];simp[l9,h4 k<|by omega]
|.a _ _,n,h=>by simp[pl]at h
|.f _ _ _,n,h=>by simp[pl]at h
theorem qD:∀(ds:B D) (n:Nat),Bw ds n=L->aD ds=ds/\bq ds=L/\oH ds ds=L/\∀m,n<=m->gA ds m=L
|[],n,h=>#[rfl,rfl,rfl,λ_ _=>by simp[gA]]
|d::r,n,h=>by
 have h:pl d n=L/\Bw r n=L:=by simpa[Bw]using h
 let#[a1,a2,a3,a4]:=aeu d n h.1;let#[b1,b2,b3,b4]:=qD r n h.2;exact#[by simp[aD,a1,b1],by simp[bq,a2,b2],by simp[oH,a3,b3],λm hm=>by simp[gA,a4 m hm,b4 m hm]]
end
def z8{ds:B D}{n:Nat}(h:∀d∈ds,pl d n=L):Bw ds n=L:=by
 induction ds with
 |nil=>simp[Bw]
 |cons d r ih=>simp[Bw,h d aB,ih λx hx=>h x<|aq _ hx]
def OW{g:D->bw->R bw}{b:bw->Fl}(n)(I:Nat->bw->Prop)(h:∀k<n,∀O,I k O->∃σ2 σ3,g (.b<|k) O=.c σ2/\(b σ2=.a σ3\/b σ2=.d σ3)/\I (k+1) σ3)(O:bw)(h0:I 0 O):∃σ',QS g b (fX 0 n) O=.a σ'/\I n σ':=by
 have e:fX 0 n=(zM 0 n).map λk:Nat=>D.b (k:J):=by
  unfold fX;rw[Bh];simp
 have go:∀(m j:Nat) (O:bw),j+m=n->I j O->∃σ',QS g b ((zM j m).map λk:Nat=>D.b (k:J)) O=.a σ'/\I n σ':=by
  intro m;induction m with
  |zero=>intro j O hj hi;rw[show n=j by lia];exact#[O,rfl,hi]
  |succ m ih=>
   intro j O hj hi;let#[σ2,σ3,h1,h2,h3]:=h j (by lia) O hi;let#[σ',h4,h5]:=ih (j+1) σ3 (by lia) h3;refine#[σ',?_,h5];rw[Gq,bB];show(g (.b (j:J)) O).bH _=_;rw[h1];rcases h2 with h2|h2<;>(simp only[R.bH,h2];exact h4)
 rw[e];exact go n 0 O (by lia) h0
theorem pP{β:Type}{g:D->bw->R bw}{e:bw->R D}(enc:β->D)(I:bw->Prop)(T:D->Prop):∀(xs:B β) (O:bw),I O->(∀x∈xs,∀O,I O->∃σ2 y,g (enc x) O=.c σ2/\I σ2/\e σ2=.c y/\T y)->
 ∃ys:B D,dK g (λ_=>.c L) e (C enc xs) O=.c ys/\zl ys=zl xs/\∀y∈ys,T y
|[],O,_,_=>#[[],rfl,rfl,λ_ h=>aI h aF]
|x::r,O,hi,h=>by
 let#[σ2,y,h1,h2,h3,h4]:=h x aB O hi;let#[ys,i1,i2,i3]:=pP enc I T r σ2 h2 λy hy=>h y<|aq _ hy;refine#[y::ys,?_,by simp[i2],λz hz=>?_]
 .show(g (enc x) O).bind _=_;rw[h1];simp only[R.bind,kF,h3,i1]
 .grind
noncomputable def oD:LD J->D
|none=>.h
|some i=>.b i
def bo_b:(10:J) ^ (9:J).toNat=1000000000:=by decide
def ru':xq 10 9:=by unfold xq;decide
def c19:xq 10 19:=by unfold xq;decide
def Bo(lo hi:LD J):Prop:=lo=S->hi≠S
def neP(n)(h0:0<=n)(h1:n<2147483587):∃lo hi:LD J,Bo lo hi/\qC [.b n]=.c (.d [oD lo,oD hi]):=by
 have hs:=szl;have pe_not':=ru';have pe_neg':=c19;have qm:nF (n-10 ^ (9:J).toNat) (10 ^ (19:J).toNat):=.inl (by rw[bo_b];lia);have vacc:∀l:J,aD [D.d [.h,.b l]]=[D.d [.h,.b l]]:=λ_=>rfl;have last:∀l:J,∃lo hi:LD J,Bo lo hi/\Jb (bK [] 1000 #v[.a<|.b (.i #v[.f #v[.c .d,.a 1],.f #v[.a 1,.c .d],.f #v[.a 1,.g .Add (.a 1)<|.g .Mod (.g .FloorDiv (.a 0)<|.c<|.b 512)<|.c<|.b 4]])<|.g .Mod (.g .FloorDiv (.a 0)<|.c<|.b 8)<|.c<|.b 3] [M<|.b n,M<|.b l])=.c (.d [oD lo,oD hi]):=by
  intro l;have hb:=dm (n / 8) (b:=3) (by decide);have hc:n / 8%3=0\/n / 8%3=1\/n / 8%3=2:=by lia
  rcases hc with c|c|c
  .have ea:∀x y z:D,bL [x,y,z] (n / 8%3)=M x:=λx y z=>by rw[c];rfl
   refine#[S,M l,(λ_ z=>nomatch z),?_];simp_arith[ea];rfl
  .have ea:∀x y z:D,bL [x,y,z] (n / 8%3)=M y:=λx y z=>by rw[c];rfl
   refine#[M l,S,(λz=>nomatch z),?_];simp_arith[ea];rfl
  .have ea:∀x y z:D,bL [x,y,z] (n / 8%3)=M z:=λx y z=>by rw[c];rfl
   refine#[M l,M<|l+n / 512%4,(λz=>nomatch z),?_];simp_arith[ea];rfl
 by_cases c:(n / 4096%7==0)=L
 .let#[lo,hi,hb,q]:=last<|(n-10 ^ (9:J).toNat)*10 ^ (19:J).toNat;refine#[lo,hi,hb,pY ?_ q];unfold qC wW A2;simp_arith[c]
 .rw[fq]at c;let#[lo,hi,hb,q]:=last<|n / 64%6-2;refine#[lo,hi,hb,pY ?_ q];unfold qC wW A2;simp_arith[c]
theorem Qi{P:Str->Prop}:∀{ys:B D},(∀y∈ys,∃s,P s/\y=.c s)->∃ss:B Str,ys=C D.c ss/\∀s∈ss,P s
|[],_=>#[[],rfl,λ_ h=>aI h aF]
|y::r,h=>by
 let#[s,hp,rfl]:=h y aB;let#[ss,rfl,hs]:=Qi λz hz=>h z<|aq _ hz;exact#[s::ss,rfl,λx hx=>by
  rcases aO.mp hx with q|q
  .simp_all
  .exact hs x q]
abbrev GG:B PG:=[.a d9 [],.a iH []]
def af4(ks)(hk:zl ks<=8)(ho:∀p∈ks,jM p.1/\jM p.2)(told:B Str)(ht:∀s∈told,jM s)(u):∃ys:B D,dK (pG<|.a 0) (λ_=>.c L) (pE GG Y_) (C D.c told) [S,M<|.c u,M<|.a W<|bV ks]=.c ys/\zl ys=zl told/\∀y∈ys,rH y=L:=by
 refine pP D.c (λO=>∃o,O=[o,M<|.c u,M<|.a W<|bV ks]) (λy=>rH y=L) told _ #[_,rfl] ?_;rintro s hs O ⟨o,rfl⟩;let#[row,r1,r2,r3,qu]:=NG ks hk ho s<|ht s hs;refine#[[M<|.c s,M<|.c u,M<|.a W<|bV ks],.e<|acM (.c u)<|C D.c row,rfl,#[_,rfl],?_,rfl];have nn:=DZ row;simp_arith[qu,kg];rw[xH rfl nn]
def aev(ks)(hk:zl ks<=8)(ho:∀p∈ks,jM p.1/\jM p.2)(told:B Str)(ht:∀s∈told,jM s)(names:B Str):∃ys:B D,dK (pG<|.a 0) (λ_=>.c L) (pE GG YN) (C D.c names) [S,M<|.a W<|bV ks,M<|.d<|C D.c told]=.c ys/\zl ys=zl names/\∀y∈ys,rH y=L:=by
 refine pP D.c (λO=>∃o,O=[o,M<|.a W<|bV ks,M<|.d<|C D.c told]) (λy=>rH y=L) names _ #[_,rfl] ?_;rintro u hu O ⟨o,rfl⟩;let#[ys,y1,y2,y3]:=af4 ks hk ho told ht u;have ya:=bC.mpr y3;refine#[[M<|.c u,M<|.a W<|bV ks,M<|.d<|C D.c told],.e<|ys.all vf,rfl,#[_,rfl],?_,rfl];simp_arith[bQ,y1,ya]
def abY(names)(hn:names≠[])(hb:zl names<=8)(m)(v):∃ss:B Str,dK (pG<|.a 0) (λ_=>.c L) (pE GG<|.b (.a 1)<|.g .Mod (.g .Add (.a 2)<|.a 0)<|.h .a #v[.a 1]) (fX 0 v) [S,M<|.a L<|C D.c names,M<|.b m]=.c (C D.c ss)/\zl ss=v/\∀s∈ss,s∈names:=by
 have h:=pP (g:=pG<|.a 0) (e:=pE GG<|.b (.a 1)<|.g .Mod (.g .Add (.a 2)<|.a 0)<|.h .a #v[.a 1]) (λi:Nat=>D.b<|0+(i:J)) (λO=>∃o,O=[o,M<|.a L<|C D.c names,M<|.b m]) (λy=>∃s,s∈names/\y=.c s) (bW v) [S,M<|.a L<|C D.c names,M<|.b m] #[_,rfl] (by
  rintro i _ O ⟨o,rfl⟩;have hp:(0:J)<(zl names:J):=by
   have:=jz.mpr hn
   lia
  let#[b0,b1]:=dm (m+(0+(i:J))) hp;let#[j,hj,ej,ea]:=jx (C D.c names) ((m+(0+(i:J)))%(zl names:J)) b0 (by rw[aa];exact b1);rw[dP]at ea;refine#[[M<|.b<|0+(i:J),M<|.a L<|C D.c names,M<|.b m],.c (names[j]'(by simpa using hj)),rfl,#[_,rfl],?_,_,cK _,rfl];simp_arith[bQ,ea])
 let#[ys,y1,y2,y3]:=h;let#[ss,rfl,hs]:=Qi y3;exact#[ss,y1,by simpa using y2,hs]
noncomputable abbrev tS(t:B Str):D:=.d<|C D.c t
noncomputable abbrev tI(t:B J):D:=.d<|C D.b t
def HH(ks:B<|Str×Str)(ps:B<|B Str):Prop:=zl ps<=4/\∀t∈ps,(t≠[]/\zl t<=3)/\∀s∈t,s∈C (·.1) ks
def jE(n:Nat)(i:J):Prop:=0<=i/\i<(n:J)
noncomputable abbrev cD(c:B Str×B J):D:=.d [tS c.1,tI c.2]
def NI(n:Nat)(c:B Str×B J):Prop:=∀i∈c.2,jE n i
def EZ(n:Nat)(l:B J):Prop:=(l≠[]/\zl l<=2)/\∀i∈l,jE n i
def jE.up{n m:Nat}{i:J}(h:jE n i)(l:n<=m):jE m i:=#[h.1,by have:=h.2;lia]
abbrev gS(ns:B J)(at_:J)(ks:B<|Str×Str)(sh:Bool)(ps:B<|B Str)(cl:B<|B Str×B J)(nm:B<|B J)(a b c d e:LD D):bw:=
 [M<|bz ns,M<|.b at_,M<|.a W<|bV ks,M<|.e sh,M (.a L (C D.c (ks.map (·.1)))),M<|.a L<|C tS ps,M<|.a L<|C cD cl,M<|.a L<|C tI nm,a,b,c,d,e]
def abZ(l:B J)(n):Bw (C D.b l) n=L:=z8 λd hd=>by let#[s,_,rfl]:=bF.mp hd;simp[pl]
def aew(lo)(n):fX lo n=C D.b ((bW n).map λ(i:Nat)=>lo+(i)):=by unfold fX;rw[bG];rfl
def eU(ps:B<|B Str):aD (C tS ps)=C tS ps:=dj tS (λt=>by show D.d (aD _)=_;rw[bQ]) ps
noncomputable def gT(l:B J):bq (C D.b l)=L:=(qD _ 0<|abZ l 0).2.1
def NJ(ps:B<|B Str):bq (C tS ps)=L:=oM j8 ps
def pick{l:B J}{i:J}(lo hi)(h0:0<=i)(h1:i<zl l)(hb:∀v∈l,lo<=v/\v<=hi):∃v:J,lo<=v/\v<=hi/\bL (C D.b l) i=M (.b v):=by
 let#[j,hj,ej,ea]:=jx (C D.b l) i h0 (by rw[aa];exact h1);rw[dP]at ea;have hm:=hb (l[j]'(by simp_all))<|cK _;exact#[_,hm.1,hm.2,ea]
def NK(t)(n):(aL n [tS t]).flatten=C tS (aL n t):=by simp
theorem af5:n6=g6 r7:=rfl
def OX(ns)(at_)(ha:0<=at_/\at_<=1000)(ks)(hk:zl ks<=8)(hk0:3<=zl ks)(ho:∀p∈ks,jM p.1/\jM p.2)(sh)(k)(hkk:k<3)(ps)(hp:HH ks ps)(cl)(hc:∀c∈cl,NI (zl ps) c)(hcl:zl cl<=k)(nm:B<|B J)(hnm:zl nm<=k)(hne:∀l∈nm,EZ (zl ps) l)(b c d e:LD D):∃σ3,(bK GG 1000 n6 (gS ns at_ ks sh ps cl nm (M<|.b k) b c d e)=.a σ3\/bK GG 1000 n6 (gS ns at_ ks sh ps cl nm (M<|.b k) b c d e)=.d σ3) /\
   ∃ps' Rl SI a' b' c' d' e',HH ks ps'/\(∀c∈Rl,NI (zl ps') c)/\zl Rl<=k+1/\zl SI<=k+1/\(∀l∈SI,EZ (zl ps') l)/\σ3=gS ns at_ ks sh ps' Rl SI a' b' c' d' e':=by
 have hs:=szl;let#[m,m0,m1,qm]:=kX ns (at_+1+(k:J)) (by lia);have YV:=dm (m / 16) (b:=4) (by decide);let#[v,v1,v3,ev]:=pick (l:=[1,1,2,3]) 1 3 YV.1 YV.2 (by decide);have ev:bL [D.b 1,.b 1,.b 2,.b 3] (m / 16%4)=M (.b v):=ev;have YX:=dm (m / 64) (b:=4) (by decide);let#[w,w1,w2,ew]:=pick (l:=[1,1,1,2]) (i:=m / 64%4) 1 2 YX.1 YX.2 (by decide);have ew:bL [D.b 1,.b 1,.b 1,.b 2] (m / 64%4)=M (.b w):=ew;let#[told,qt,tl,tm]:=abY (C (·.1) ks) (by intro z;rw[BO]at z;rw[z]at hk0;simp at hk0) (by simpa using hk) m v.toNat;have rg:-(2 ^ 62)<=v/\v.toNat<=aj:=by lia
 have hto:∀s∈told,jM s:=λs h=>by
  let#[p,hp,rfl]:=bF.mp<|tm s h;exact(ho p hp).1
 let#[ys,qa,_,yb]:=aev ks hk ho told hto (C (·.1) ks);have ya:=bC.mpr yb;have VJ:=hp.1;have hw:(-(2 ^ 63)<=w/\w<2 ^ 63)/\zl [tS told]*w.toNat<=aj:=#[by lia,by rw[hs];simp;lia];have Yr:aD [tS told]=[tS told]:=by show[D.d<|aD _]=_;rw[bQ]
 generalize hnum:C (λ(i:Nat)=>(zl ps:J)+(i:J)) (bW w.toNat)=num;have hnb:∀i∈num,jE (zl ps+w.toNat) i:=λi hi=>by
  rw[<-hnum]at hi;let#[j,hj,rfl]:=bF.mp hi;have:=fJ.mp hj;exact#[by lia,by lia]
 have hn1:EZ (zl ps+w.toNat) num:=by
  have:zl num=w.toNat:=by rw[<-hnum];simp
  exact#[#[λz=>by rw[z]at this;simp at this;lia,by lia],hnb]
 have hne':∀l∈nm,EZ (zl ps+w.toNat) l:=λl hl=>#[(hne l hl).1,λi hi=>((hne l hl).2 i hi).up<|by lia];have hc':∀c∈cl,NI (zl ps+w.toNat) c:=λc hcc i hi=>(hc c hcc i hi).up (by lia);have tail:∀Rl:B<|B Str×B J,∃SI,(zl SI<=k+1/\∀l∈SI,EZ (zl ps+w.toNat) l)/\bK GG 1000 r7 (gS ns at_ ks sh ps Rl nm (M<|.b k) (M<|.b m) (M<|tS told) (M<|.b w)<|M<|tI num)=.a (gS ns at_ ks sh (ps++aL w.toNat told) Rl SI (M<|.b k) (M<|.b m) (M<|tS told) (M<|.b w)<|M<|tI num):=by
  intro Rl;have hpl:zl (C tS ps)+zl (C tS (aL w.toNat told))<=aj:=by rw[hs];simp;lia
  have hnl:zl (C tI nm)<aj:=by rw[hs,aa];lia
  unfold r7 gS;cases cy:ys.any vf with
  |true=>
   refine#[nm++[num],#[by simp;lia,λl hl=>?_],?_]
   .rcases bh.mp hl with q|q
    .simp_all
    .simp_all
   .simp_arith[bQ,qa,ya,cy,bP];rw[iu (xs:=C tI nm) rfl hnl<|by simp];simp_arith[bQ,gT,Yr,NK];rw[yL (xs:=C tS ps) rfl hpl<|by simp];simp_arith[NJ,bl]
  |false=>
   refine#[nm,#[by lia,hne'],?_];simp_arith[bQ,qa,ya,cy,Yr,NK];rw[yL (xs:=C tS ps) rfl hpl<|by simp];simp_arith[NJ,bl]
 rw[af5];by_cases c4:(4:J)<(zl ps:J)+w
 .have e4:decide ((4:J)<(zl ps:J)+w)=L:=aU c4;have q:∀rr,bK GG 1000 (g6 rr) (gS ns at_ ks sh ps cl nm (M<|.b k) b c d e)=.d (gS ns at_ ks sh ps cl nm (M<|.b k) (M<|.b m) (M<|tS told) (M<|.b w) e):=λrr=>by
   unfold g6 gS;simp_arith -implicitDefEqProofs [cQ,qm,ev,ew,qt,bQ,eU,j8,e4]
  exact#[_,.inr<|q r7,ps,cl,nm,_,_,_,_,_,hp,hc,by lia,by lia,hne,rfl]
 .have e4:decide ((4:J)<(zl ps:J)+w)=W:=bM c4;have ht:-(2 ^ 62)<=(zl ps:J)/\(zl ps:J)<2 ^ 62/\-(2 ^ 62)<=(zl ps:J)+w/\(zl ps:J)+w<2 ^ 62/\((zl ps:J)+w-(zl ps:J)).toNat<=2 ^ 24:=by lia
  have Yb:((zl ps:J)+w-(zl ps:J)).toNat=w.toNat:=by lia
  have hr2:fX (zl ps:J) w.toNat=C D.b num:=by rw[aew,hnum]
  have sp0:zl (C cD cl)<aj:=by rw[hs,aa];lia
  have mid:∃Rl:B<|B Str×B J,(∀c∈Rl,NI (zl ps+w.toNat) c)/\zl Rl<=k+1/\∀rr,bK GG 1000 (g6 rr) (gS ns at_ ks sh ps cl nm (M<|.b k) b c d e)=bK GG 1000 rr (gS ns at_ ks sh ps Rl nm (M<|.b k) (M<|.b m) (M<|tS told) (M<|.b w)<|M<|tI num):=by
   have dec:∃cc:Bool,(if(m / 256%3==0)=L then R.c L else if sh=L then R.c ((k:J)==0)else R.c W)=R.c cc:=by
    cases(m / 256%3==0)<;>cases sh<;>exact#[_,rfl]
   let#[cc,hcc]:=dec;cases cc with
   |true=>
    refine#[cl++[(told,num)],λc hcc=>?_,by simp;lia,λrr=>?_]
    .rcases bh.mp hcc with q|q
     .exact hc' c q
     .rw[aK.mp q];exact hnb
    .unfold g6 gS;simp_arith -implicitDefEqProofs [cQ,qm,ev,ew,qt,bQ,eU,bP,j8,e4,Yb,hr2,gT];rw[hcc];simp_arith[];rw[iu (xs:=C cD cl) rfl sp0<|by simp];simp_arith -implicitDefEqProofs [j8,gT,bl,bB,dZ]
   |false=>
    refine#[cl,hc',by lia,λrr=>?_];unfold g6 gS;simp_arith -implicitDefEqProofs [cQ,qm,ev,ew,qt,bQ,eU,bP,j8,e4,Yb,hr2,gT];rw[hcc];simp_arith[]
  let#[Rl,l1,l2,l3]:=mid;let#[SI,#[n1,n2],n3]:=tail Rl;refine#[_,.inl<|(l3 r7).trans n3,ps++aL w.toNat told,Rl,SI,_,_,_,_,_,#[?_,λt ht'=>?_],by rw[aZ,iP];exact l1,l2,n1,by rw[aZ,iP];exact n2,rfl]
  .rw[aZ,iP];lia
  .rcases bh.mp ht' with q|q
   .exact hp.2 t q
   .rw[(List.mem_replicate.mp q).2];exact#[#[λz=>by rw[z]at tl;simp at tl;lia,by lia],tm]
def lee(ns)(at_)(ha:0<=at_/\at_<=1000)(ks)(hk:zl ks<=8)(hk0:3<=zl ks)(ho:∀p∈ks,jM p.1/\jM p.2)(sh):∃(ps:B<|B Str) (cl:B<|B Str×B J) (nm:B<|B J),HH ks ps/\(∀c∈cl,NI (zl ps) c)/\zl cl<=3/\zl nm<=3/\(∀l∈nm,EZ (zl ps) l)/\t_ [bz ns,.b at_,.a W<|bV ks,.e sh]=.c (.d [.a L<|C tS ps,.a L<|C cD cl,.a L<|C tI nm]):=by
 have hs:=szl;let#[m,m0,m1,qm]:=kX ns at_ (by lia);have b8:=dm m (b:=8) (by decide);let#[v,v1,v3,ev]:=pick (l:=[1,2,3,2,1,3,2,0]) 0 3 b8.1 b8.2 (by decide);have ev:bL [D.b 1,.b 2,.b 3,.b 2,.b 1,.b 3,.b 2,.b 0] (m%8)=M (.b v):=ev;generalize hV:(if v>(if sh=L then 1 else 0)then v else(if sh=L then 1 else 0))=V;have a10'':0<=V/\V<=3:=by
  rw[<-hV];cases sh<;>simp<;>split<;>lia
 have rg:-(2 ^ 62)<=V/\V.toNat<=aj:=by lia
 have qc:dK (pG<|.b #v[.a 0,.a 1]) (λ_=>.c L) (pE GG<|.a 0) (bV ks) [S,S]=.c (ks.map λp=>D.c p.1):=eK z7 (λO=>∃a b,O=[a,b]) (λp=>D.c p.1) ks _ #[_,_,rfl] (by
  rintro⟨x,y⟩ _ O ⟨a,b,rfl⟩;refine#[[M<|.c x,M<|.c y],?_,#[_,_,rfl],?_]
  .rfl
  .simp_arith[])
 have em:(ks.map λp=>D.c p.1)=C D.c (ks.map (·.1)):=by simp
 rw[em]at qc;let#[σ',h1,ps,cl,nm,a',b',c',d',e',p1,p2,p3,p4,p5,rfl]:=OW (g:=pG<|.a 8) V.toNat
  (λk O=>∃(ps:B<|B Str) (cl:B<|B Str×B J) (nm:B<|B J) (a b c d e:LD D),HH ks ps/\(∀c∈cl,NI (zl ps) c)/\zl cl<=k/\zl nm<=k/\(∀l∈nm,EZ (zl ps) l)/\O=gS ns at_ ks sh ps cl nm a b c d e) (by
  intro k hkk O z0;let#[ps,cl,nm,a,b,c,d,e,p1,p2,p3,p4,p5,rfl]:=z0;let#[σ3,g1,ps',Rl,SI,a',b',c',d',e',g2,g3,g4,g5,g6,g7]:=OX ns at_ ha ks hk hk0 ho sh k (by lia) ps p1 cl p2 p3 nm p4 p5 b c d e;exact#[_,σ3,rfl,g1,ps',Rl,SI,a',b',c',d',e',g2,g3,g4,g5,g6,g7]) (gS ns at_ ks sh [] [] [] S S S S S) #[[],[],[],_,_,_,_,_,#[by simp,λt ht=>aI ht aF],λt ht=>aI ht aF,by simp,by simp,λl hl=>aI hl aF,rfl]
 refine#[ps,cl,nm,p1,p2,by lia,by lia,p5,?_];have fs:=cQ ns;unfold t_ AZ Hu;simp_arith[fs,kg,qc,j8,qm,ev,hV];have h1:QS (pG<|.a 8) (bK GG 1000 n6) (fX 0 V.toNat) [M<|bz ns,M<|.b at_,M<|.a W<|bV ks,M<|.e sh,M (.a L (C D.c (ks.map (·.1)))),M<|.a L [],M<|.a L [],M<|.a L [],S,S,S,S,S]=_:=h1;rw[h1];unfold gS;simp_arith[]
abbrev tK(k:B Key):D:=.d<|C iR k
def lj'(k):rG (C iR k)=M k:=by
 induction k with
 |nil=>rfl
 |cons a r ih=>
  have ha:k_ (iR a)=M a:=by cases a<;>rfl
  show(k_<|iR a).bind _=_;rw[ha];rw[ih];rfl
def ab0(k):iD (tK k)=M k:=lj' k
def Jp(k:B Key)(n):Bw (C iR k) n=L:=z8 λd hd=>by
 let#[s,_,rfl]:=bF.mp hd;cases s<;>simp[iR,pl]
theorem YQ:∀{ks:B<|B Key}{xs:B D}{k:B Key},zl ks=zl xs->k∈ks->∃d,d∈xs/\gq ks xs k=M d
|[],_,_,_,h=>aI h aF
|a::r,[],_,hl,_=>by simp at hl
|a::r,x::pq_thnL_ok',k,hl,h=>by
 by_cases c:a=k
 .exact#[x,aB,by show(if a=k then M x else _)=_;rw[aH c]]
 .rcases aO.mp h with q|q
  .exact aI q.symm c
  .let#[d,h1,h2]:=YQ (by simpa using hl) q;exact#[d,aq _ h1,by show(if a=k then M x else _)=_;rw[aG c];exact h2]
theorem FO:∀{ks:B<|B Key}{xs:B D}{q:B Key}{x:D},zl ks=zl xs->zl (jA ks xs q x)=zl ks
|[],_,_,_,_=>rfl
|a::r,[],_,_,hl=>by simp at hl
|a::r,y::yr,q,x,hl=>by
 show(jA r yr q x).length+1=zl r+1;rw[FO<|by simp_all]
theorem FP:∀{ks:B<|B Key}{xs:B D}{q:B Key}{x d:D},d∈jA ks xs q x->d=x\/d∈xs
|[],_,_,_,_,h=>aI h aF
|a::r,[],_,_,_,h=>aI h aF
|a::r,y::yr,q,x,d,h=>by
 rcases aO.mp h with e|e
 .grind
 .rcases FP e with z|z
  .exact .inl z
  .exact .inr (aq _ z)
def LS{ks:B<|B Key}{xs:B D}{q:B Key}{d j:D}(hl:zl ks=zl xs)(hs:zl ks<aj)(hf:rK d=L)(hj:iD j=M q):∃ks' xs',S6 (.f L ks xs) d j=M (.f L ks' xs')/\zl ks'=zl xs'/\zl ks'<=zl ks+1/\(∀k,k∈ks'↔k=q\/k∈ks)/\∀y∈xs',y=d\/y∈xs:=by
 have e:S6 (.f L ks xs) d j=(if zl ks<aj then(if gw ks q=L then(if rK d=L then M (.f L ks<|jA ks xs q d)else S)else M (.f L (ks++[q])<|xs++[d]))else S):=by
  show Nb ks xs d j=_;unfold Nb;rw[hj]
 rw[e,aH hs];by_cases c:gw ks q=L
 .rw[aH c,aH hf];exact#[_,_,rfl,(FO hl).symm,by lia,λk=>#[.inr,λh=>h.elim (λe=>by let#[x,hx,e2]:=fm.mp c;rw[e,<-aC e2];exact hx) id],λy hy=>FP hy]
 .rw[aG c];refine#[_,_,rfl,by simp[hl],by simp,λk=>by rw[bh,aK,or_comm],λy hy=>?_]
  .rcases bh.mp hy with z|z
   .exact .inr z
   .exact .inl (aK.mp z)
def Jq(ks):∃TR:B<|B Key,L3.p8 ks=C tK TR/\zl TR=zl ks/\∀k∈TR,k∈ks:=by
 refine#[(dX ks).map λi=>ks.getD i [],by unfold L3.p8;rw[bG];rfl,by rw[aa];exact oA _ _,λk hk=>?_];let#[i,hi,rfl]:=bF.mp hk;have hlt:=vz _ _ i hi;rw[aV,ai hlt];exact cK hlt
def vg{ks:B<|B Key}(hl:zl ks<64)(h:∀k∈ks,k≠[]/\∀q∈ks,kI k q=L):abb ks=L:=by
 unfold abb;rw[aU hl,wu,bC];intro k hk;let#[h1,h2]:=h k hk;rw[cG];refine#[by cases k with|nil=>exact aI rfl h1|cons a r=>rfl,bC.mpr h2]
abbrev J3:=Str×J×J
noncomputable abbrev jK(j:J3):B Key:=[.inr j.1,.inl j.2.1,.inl j.2.2]
def Qj(n:Nat)(j:J3):Prop:=jE n j.2.1/\jE n j.2.2
def Js(n:Nat)(k:B Key):Prop:=∃j:J3,Qj n j/\k=jK j
def Zs(n:Nat)(k:B Key):Prop:=∃(i:J) (s:Str),jE n i/\k=[.inl i,.inr s]
def Vl{n:Nat}{ks:B<|B Key}(hl:zl ks<64)(h:∀k∈ks,Js n k):abb ks=L:=vg hl λk hk=>by
 let#[j,_,rfl]:=h k hk;exact#[by simp,λq hq=>by let#[j',_,rfl]:=h q hq;rfl]
def aex{n:Nat}{ks:B<|B Key}(hl:zl ks<64)(h:∀k∈ks,Zs n k):abb ks=L:=vg hl λk hk=>by
 let#[i,s,_,rfl]:=h k hk;exact#[by simp,λq hq=>by let#[i',s',_,rfl]:=h q hq;rfl]
def Bd(d:D):Prop:=∃lo hi:LD J,Bo lo hi/\d=.d [oD lo,oD hi]
def Bd.pl{d:D}(h:Bd d):pl d 1=L:=by
 let#[lo,hi,_,rfl]:=h;cases lo<;>cases hi<;>simp[oD,K3.pl,Bw]
def Bd.ab{d:D}(h:Bd d):rK d=L:=by
 let#[lo,hi,_,rfl]:=h;cases lo<;>cases hi<;>rfl
abbrev GR:B PG:=[.a nK [],.a d9 [],.a qC [],.a t_ []]
theorem af6:qi=#v[sN,sJ,sZ,sT]:=rfl
noncomputable abbrev wD(wa wb wc:B Str):D:=.d [.a W<|C D.c wa,.a W<|C D.c wb,.a W<|C D.c wc]
abbrev rS(ns:B J)(at_:J)(ks:B<|Str×Str)(w:D)(sh:Bool)(ps:B<|B Str)(cl:B<|B Str×B J)(nm:B<|B J)(jk:B<|B Key)(jv:B D)(zk:B<|B Key)(zv:B D)(st:B<|Str×J)(a b c d:LD D):bw:=
 [M<|bz ns,M<|.b at_,M<|.a W<|bV ks,M w,M<|.e sh,M<|.a L<|C tS ps,M<|.a L<|C cD cl,M<|.a L<|C tI nm,M<|.f L jk jv,M<|.f L zk zv,M<|.a L (st.map λs:Str×J=>.d [.c s.1,.b s.2]),a,b,c,d]
theorem HJ(x y z:D):bL [x,y,z] 0=M x:=rfl
theorem HK(x y z:D):bL [x,y,z] 1=M y:=rfl
theorem HL(x y z:D):bL [x,y,z] 2=M z:=rfl
def kE(l:B Str)(i:J)(h0:0<=i)(h1:i<zl l):∃s,s∈l/\bL (C D.c l) i=M (.c s):=by
 let#[j,hj,ej,ea]:=jx (C D.c l) i h0 (by simp_all);rw[dP]at ea;exact#[_,cK _,ea]
section
variable(ns:B J) (at_:J) (ha:0<=at_/\at_<=1000) (ks:B (Str×Str)) (wa wb wc:B Str) (la:zl wa=3) (lb:zl wb=2) (lc:zl wc=2) (sh:Bool) (ps:B (B Str)) (hp:HH ks ps) (cl:B (B Str×B J)) (nm:B (B J)) (hnm:zl nm<=3) (hne:∀l∈nm,EZ (zl ps) l)
 (k:Nat) (hk:k<4) (n:J) (n0:0<=n) (n1:n<2147483587)
include ha lb hp hk n0
theorem rd_J(jk:B<|B Key)(jv:B D)(hjl:zl jk=zl jv)(Wd:zl jk<=k)(hj:∀q∈jk,Js (zl ps) q)(hv:∀d∈jv,d=.e L)(zk:B<|B Key)(zv:B D)(st:B<|Str×J)(c d:LD D):∃R0 R1 c',zl R0=zl R1/\zl R0<=k+1/\(∀q∈R0,Js (zl ps) q)/\(∀d∈R1,d=.e L)/\pS GR 1000 sJ (rS ns at_ ks (wD wa wb wc) sh ps cl nm jk jv zk zv st (M<|.b k) (M<|.b n) c d)=.a (rS ns at_ ks (wD wa wb wc) sh ps cl nm R0 R1 zk zv st (M<|.b k) (M<|.b n) c' d):=by
 have hs:=szl;let#[m5,c9,eO,q5]:=kX ns (at_+5) (by lia);have VJ:=hp.1;by_cases c1:(1:J)<(zl ps:J)
 .by_cases c2:(k:J)<m5%4
  .have e1:=aU c1;have e2:=aU c2;have b2:=dm (n / 8) (b:=2) (by decide);let#[s,hsm,es]:=kE wb (n / 8%2) b2.1 (by lia);have h1:(0:J)<(zl ps:J):=by omega
   have h2:(0:J)<(zl ps:J)-1:=by omega
   let#[R0,R1,Sn,g1,g2,g3,g4]:=LS (d:=.e L) (j:=.d [.c s,.b<|n%(zl ps:J),.b<|(n%(zl ps:J)+1+n / 16%((zl ps:J)-1))%(zl ps:J)]) (q:=[.inr s,.inl<|n%(zl ps:J),.inl<|(n%(zl ps:J)+1+n / 16%((zl ps:J)-1))%(zl ps:J)]) hjl (by lia) rfl rfl;refine#[R0,R1,M<|.b<|n%(zl ps:J),g1,by lia,λq hq=>?_,λy hy=>?_,?_]
   .rcases(g3 q).mp hq with z|z
    .exact#[(s,n%(zl ps:J),(n%(zl ps:J)+1+n / 16%((zl ps:J)-1))%(zl ps:J)),#[dm _ h1,dm _ h1],z]
    .exact hj q z
   .rcases g4 y hy with z|z
    .exact z
    .exact hv y z
   .simp_arith[cQ,eU,q5,e1,e2,HK,bQ,es];rw[iw rfl rfl Sn];simp_arith[]
  .have e1:=aU c1;have e2:=bM c2;refine#[jk,jv,c,hjl,by omega,hj,hv,?_];simp_arith[cQ,eU,q5,e1,e2]
 .have e1:=bM c1;refine#[jk,jv,c,hjl,by omega,hj,hv,?_];simp_arith[eU,e1]
end
def FQ(x):aX (oD x)=L:=by cases x<;>rfl
noncomputable abbrev sD(s:Str×J):D:=.d [.c s.1,.b s.2]
def R8(l:B<|B J):aD (C tI l)=C tI l:=dj tI (λt=>by show D.d (aD _)=_;rw[bP]) l
def zB(l:B<|Str×J):bq (C sD l)=L:=oM (λ_=>rfl) l
section
variable(ns:B J) (at_:J) (ha:0<=at_/\at_<=1000) (ks:B (Str×Str)) (wa wb wc:B Str) (la:zl wa=3) (lb:zl wb=2) (lc:zl wc=2) (sh:Bool) (ps:B (B Str)) (hp:HH ks ps) (cl:B (B Str×B J)) (nm:B (B J)) (hnm:zl nm<=3) (hne:∀l∈nm,EZ (zl ps) l)
 (k:Nat) (hk:k<4) (n:J) (n0:0<=n) (n1:n<2147483587)
include ha la hp hk n0 n1
theorem rd_Z(jk:B<|B Key)(jv:B D)(zk:B<|B Key)(zv:B D)(st:B<|Str×J)(Wk:zl zk=zl zv)(Zc:zl zk<=k)(hz:∀q∈zk,Zs (zl ps) q)(hv:∀d∈zv,Bd d)(c d:LD D):∃SX T9,zl SX=zl T9/\zl SX<=k+1/\(∀q∈SX,Zs (zl ps) q)/\(∀d∈T9,Bd d)/\pS GR 1000 sZ (rS ns at_ ks (wD wa wb wc) sh ps cl nm jk jv zk zv st (M<|.b k) (M<|.b n) c d)=.a (rS ns at_ ks (wD wa wb wc) sh ps cl nm jk jv SX T9 st (M<|.b k) (M<|.b n) c d):=by
 have hs:=szl;let#[m5,c9,eO,q5]:=kX ns (at_+5) (by lia);let#[lo,hi,V4,qb]:=neP n n0 n1;have VJ:=hp.1;by_cases c1:(0:J)<(zl ps:J)
 .by_cases c2:(k:J)<m5 / 4%4
  .have e1:=aU c1;have e2:=aU c2;have b2:=dm (n / 24) (b:=3) (by decide);let#[s,hsm,es]:=kE wa (n / 24%3) b2.1 (by lia);let#[SX,T9,Sn,g1,g2,g3,g4]:=LS (d:=.d [oD lo,oD hi]) (j:=.d [.b<|n / 3%(zl ps:J),.c s]) (q:=[.inl<|n / 3%(zl ps:J),.inr s]) Wk (by lia) (Bd.ab #[lo,hi,V4,rfl]) rfl;refine#[SX,T9,g1,by lia,λq hq=>?_,λy hy=>?_,?_]
   .rcases(g3 q).mp hq with z|z
    .exact#[_,_,dm _ c1,z]
    .exact hz q z
   .rcases g4 y hy with z|z
    .exact#[_,_,V4,z]
    .exact hv y z
   .simp_arith[cQ,eU,q5,e1,e2,HJ,bQ,es,qb,FQ];rw[iw rfl (by rw[Il];exact .inr rfl) Sn];simp_arith[FQ]
  .have e1:=aU c1;have e2:=bM c2;refine#[zk,zv,Wk,by lia,hz,hv,?_];simp_arith[cQ,eU,q5,e1,e2]
 .have e1:=bM c1;refine#[zk,zv,Wk,by lia,hz,hv,?_];simp_arith[eU,e1]
end
section
variable(ns:B J) (at_:J) (ha:0<=at_/\at_<=1000) (ks:B (Str×Str)) (wa wb wc:B Str) (lc:zl wc=2) (sh:Bool) (ps:B (B Str)) (cl:B (B Str×B J)) (nm:B (B J)) (hnm:zl nm<=3) (hne:∀l∈nm,EZ (zl ps) l)
 (k:Nat) (hk:k<4) (n:J) (n0:0<=n) (n1:n<2147483587)
include ha lc hk n0 hnm hne
theorem rd_T(jk)(jv)(zk)(zv)(st)(h1:∀s∈st,jE (zl ps) s.2)(h2:zl st<=2*k)(c d):∃st':B<|Str×J,(∀s∈st',jE (zl ps) s.2)/\zl st'<=2*(k+1)/\pS GR 1000 sT (rS ns at_ ks (wD wa wb wc) sh ps cl nm jk jv zk zv st (M<|.b k) (M<|.b n) c d)=.a (rS ns at_ ks (wD wa wb wc) sh ps cl nm jk jv zk zv st' (M<|.b k) (M<|.b n) c d):=by
 have hs:=szl;let#[m5,c9,eO,q5]:=kX ns (at_+5) (by lia);unfold sT rS;by_cases c1:(0:J)<(zl nm:J)
 .by_cases c2:(k:J)<m5 / 16%3
  .have e1:=aU c1;have e2:=aU c2;have b2:=dm (n / 5) (b:=2) (by decide);let#[s,hsm,es]:=kE wc (n / 5%2) b2.1 (by lia);have b3:=dm (n / 10) c1;let#[j,hj,ej,ea]:=jx (C tI nm) (n / 10%(zl nm:J)) b3.1 (by rw[aa];exact b3.2);rw[dP]at ea;have hl:=hne (nm[j]'(by simp_all))<|cK _;generalize nm[j]'(by simpa using hj)=l at ea hl;have qc:dK (pG<|.a 0) (λ_=>.c L) (pE GR<|.f #v[.b (.b (.a 1)<|.c<|.b 2)<|.g .Mod (.g .FloorDiv (.a 2)<|.c<|.b 5)<|.c<|.b 2,.a 0]) (C D.b l) [S,M<|wD wa wb wc,M<|.b n]=.c (C sD (l.map λi=>(s,i))):=by
    rw[bG];exact eK D.b (λO=>∃o,O=[o,M<|wD wa wb wc,M<|.b n]) (λi=>D.d [.c s,.b i]) l _ #[_,rfl] (by
    rintro i _ O ⟨o,rfl⟩;refine#[[M<|.b i,M<|wD wa wb wc,M<|.b n],rfl,#[_,rfl],?_];simp_arith[HL,bQ,es])
   have hal:bq (C sD (l.map λi=>(s,i)))=L:=zB _;refine#[st++l.map λi=>(s,i),λx hx=>?_,by have:=hl.1.2;simp;lia,?_]
   .rcases bh.mp hx with q|q
    .exact h1 x q
    .let#[i,hi,rfl]:=bF.mp q;exact hl.2 i hi
   simp_arith[cQ,R8,q5,e1,e2,ea,bP,qc];rw[yL rfl (by have:=hl.1.2;rw[hs,aa,aa,aa];lia)<|by simp];simp_arith[hal,bl]
  .have e1:=aU c1;have e2:=bM c2;refine#[st,h1,by lia,?_];simp_arith[cQ,R8,q5,e1,e2]
 .have e1:=bM c1;refine#[st,h1,by lia,?_];simp_arith[R8,e1]
end
def Jr{l i:Nat}(h:i<l):kq l (i)=M i:=by
 unfold kq;simp;omega
def rd_P(ns)(at_)(ha:0<=at_/\at_<=1000)(ks)(hk:zl ks<=8)(ho:∀p∈ks,jM p.1/\jM p.2)(w)(sh)(ps)(hp:HH ks ps)(cl)(nm)(jk)(jv)(zk)(zv)(st)(i)(hi:i<zl ps)(a b d):∃ps' b' d',HH ks ps'/\zl ps'=zl ps/\bK GR 1000 qh (rS ns at_ ks w sh ps cl nm jk jv zk zv st a b (M<|.b i) d)=.a (rS ns at_ ks w sh ps' cl nm jk jv zk zv st a b' (M<|.b i) d'):=by
 have hs:=szl;have VJ:=hp.1;let#[n,n0,n1,qn]:=kX ns (at_+10+(i:J)) (by lia);unfold qh rS;by_cases c1:(n%5==0)=L
 .cases sh with
  |true=>
   refine#[ps,M<|.b n,d,hp,rfl,?_];simp_arith[cQ,qn,c1]
  |false=>
   let#[#[t1,t3],t2]:=hp.2 ps[i]<|cK hi;have ea:bL (C tS ps) (i:J)=M (tS ps[i]):=gh (by rw[aJ,ai hi];rfl);generalize hT:ps[i]=t at t1 t2 t3 ea;have tp:(0:J)<(zl t:J):=by
    have:=jz.mpr t1
    lia
   have b1:=dm (n / 5) tp;let#[s,sm,es]:=kE t (n / 5%(zl t:J)) b1.1 b1.2;let#[ys,y1,y2,y3,qy]:=NH ks hk ho s<|t2 s sm;have yp:(0:J)<(zl ys:J):=by
    have:=jz.mpr y1
    lia
   have b2:=dm (n / 15) yp;let#[s2,XD,UN]:=kE ys (n / 15%(zl ys:J)) b2.1 b2.2;refine#[ps.set i [s2],M<|.b n,M<|.a L<|C D.c ys,#[by rw[jf];exact hp.1,λt' ht'=>?_],by rw[jf],?_]
   .rcases List.mem_or_eq_of_mem_set ht' with q|q
    .exact hp.2 t' q
    .rw[q];refine#[#[by simp,by simp],λs' hs'=>?_];rw[aK.mp hs'];exact y3 s2 XD
   .have Sn:S6 (.a L<|C tS ps) (.d [.c s2]) (.b i)=M (.a L<|C tS (ps.set i [s2])):=by
     show(kq (zl<|C tS ps) (i:J)).map _=_;rw[Jr (by rw[aa];exact hi),Dv];rfl
    simp_arith[cQ,qn,c1,eU,ea,bQ,es,kg,qy,UN,j8];rw[iw rfl rfl Sn];simp_arith[]
 .rw[fq]at c1;refine#[ps,M<|.b n,d,hp,rfl,?_];simp_arith[cQ,qn,c1]
abbrev Z4:=J×Str×LD J×LD J
noncomputable abbrev zD(z:Z4):D:=.d [.b z.1,.c z.2.1,oD z.2.2.1,oD z.2.2.2]
def Xd(n:Nat)(z:Z4):Prop:=jE n z.1/\Bo z.2.2.1 z.2.2.2
def Sz(n:Nat)(z:D):Prop:=∃z4:Z4,Xd n z4/\z=zD z4
def nL(x):br (oD x)=oD x:=by cases x<;>rfl
def aey{n:Nat}{Y:B PG}(zk)(zv)(hl:zl zk=zl zv)(hz:∀q∈zk,Zs n q)(hv:∀d∈zv,Bd d)(TR:B<|B Key)(hm:∀q∈TR,q∈zk):∃zs:B D,dK (pG<|.a 0) (λ_=>.c L) (pE Y<|.g .Add (.a 0)<|.b (.a 1)<|.a 0) (C tK TR) [S,M<|.f L zk zv]=.c zs/\zl zs=zl TR/\∀z∈zs,Sz n z:=by
 have hs:=szl;have fv:=(qD zv 1<|z8 λd hd=>(hv d hd).pl).1;refine pP tK (λO=>∃o,O=[o,M<|.f L zk zv]) (Sz n) TR _ #[_,rfl] ?_;rintro q hq O ⟨o,rfl⟩;let#[d,hd,hg]:=YQ hl<|hm q hq;let#[i,s,hn,rfl]:=hz q<|hm q hq;let#[lo,hi,V4,rfl]:=hv d hd;refine#[[M<|.d [.b i,.c s],M<|.f L zk zv],.d [.b i,.c s,oD lo,oD hi],rfl,#[_,rfl],?_,#[(i,s,lo,hi),#[hn,V4],rfl]];have hix:g_ (.f W zk zv) (.d [.b i,.c s])=.c (.d [oD lo,oD hi]):=by
  rw[Nq rfl hg];show R.c (D.d [br<|oD lo,br<|oD hi])=_;rw[nL,nL]
 simp_arith[fv,hix];rw[KA<|by simp[hs]];show R.c (D.d [.b i,.c s,br<|oD lo,br<|oD hi])=_;rw[nL,nL]
def LU(l:B<|B Key):bq (C tK l)=L:=oM (f:=tK) (λk=>(qD _ 0<|Jp k 0).2.1) l
def aez(l:B<|B Key):aD (C tK l)=C tK l:=dj tK (λk=>by show D.d (aD _)=_;rw[(qD _ 0<|Jp k 0).1]) l
def σ4(l:B<|B J):bq (C tI l)=L:=oM gT l
def Sz.pl{n:Nat}{z:D}(h:Sz n z):pl z 1=L:=by
 let#[#[i,s,lo,hi],_,rfl]:=h;cases lo<;>cases hi<;>simp[oD,K3.pl,Bw]
theorem UD{α:Type}{P:α->Prop}{f:α->D}:∀{ys:B D},(∀y∈ys,∃a,P a/\y=f a)->∃l:B α,ys=C f l/\∀a∈l,P a
|[],_=>#[[],rfl,λ_ h=>aI h aF]
|y::r,h=>by
 let#[s,hp,rfl]:=h y aB;let#[ss,rfl,hs]:=UD λz hz=>h z<|aq _ hz;exact#[s::ss,rfl,λx hx=>by
  rcases aO.mp hx with q|q
  .simp_all
  .exact hs x q]
theorem NL{n:Nat}:∀{ks:B<|B Key},(∀k∈ks,Js n k)->∃l:B J3,ks=C jK l/\∀j∈l,Qj n j
|[],_=>#[[],rfl,λ_ h=>aI h aF]
|y::r,h=>by
 let#[s,hp,rfl]:=h y aB;let#[ss,rfl,hs]:=NL λz hz=>h z<|aq _ hz;exact#[s::ss,rfl,λx hx=>by
  rcases aO.mp hx with q|q
  .simp_all
  .exact hs x q]
noncomputable abbrev jD(j:J3):D:=.d [.c j.1,.b j.2.1,.b j.2.2]
def z9(l:B J3):C tK (l.map jK)=C jD l:=by rw[bG];rfl
structure k9 where
 ps:B (B Str)
 cl:B (B Str×B J)
 js:B J3
 zs:B Z4
 st:B (Str×J)
abbrev cB(o:Bool)(r:k9):D:=.d [.a o<|C tS r.ps,.a o<|C cD r.cl,.a o<|C jD r.js,.a o<|C zD r.zs,.a o<|C sD r.st]
structure vG (ks:B (Str×Str)) (r:k9):Prop where
 p:zl r.ps<=5/\∀t∈r.ps,(t≠[]/\zl t<=3)/\∀s∈t,s∈C (·.1) ks
 c:∀c∈r.cl,NI (zl r.ps) c
 c3:zl r.cl<=3
 j:∀j∈r.js,Qj (zl r.ps) j
 j4:zl r.js<=4
 z:∀z∈r.zs,Xd (zl r.ps) z
 z4:zl r.zs<=4
 s:∀s∈r.st,jE (zl r.ps) s.2
 s8:zl r.st<=8
def YD(l:B<|B Str×B J):bq (C cD l)=L:=oM (λk=>by show(bq (C D.c k.1)&&(bq (C D.b k.2)&&L))=L;rw[j8,gT];rfl) l
def fs2(ns:B J)(at_:J)(ha:0<=at_/\at_<=1000)(ks:B<|Str×Str)(hk:zl ks<=8)(hk0:3<=zl ks)(ho:∀p∈ks,jM p.1/\jM p.2)(wa wb wc:B Str)(la:zl wa=3)(lb:zl wb=2)(lc:zl wc=2)(sh:Bool):∃r:k9,vG ks r/\oE [bz ns,.b at_,.a W<|bV ks,wD wa wb wc,.e sh]=.c (cB L r):=by
 have hs:=szl;let#[ps,cl,nm,hp,c1,c2,n1,n2,hcld]:=lee ns at_ ha ks hk hk0 ho sh;have VJ:=hp.1;let#[σ1,h1,jk,jv,zk,zv,st,a,b,c,d,j1,j2,j3,j4,z1,z2,z3,z4,s1,s2,rfl]:=iY (g:=pG<|.a 11) (b:=bK GR 1000 qi) 4
  (λk O=>∃(jk:B<|B Key) (jv:B D) (zk:B<|B Key) (zv:B D) (st:B<|Str×J) (a b c d:LD D),zl jk=zl jv/\zl jk<=k/\(∀q∈jk,Js (zl ps) q)/\(∀d∈jv,d=.e L)/\zl zk=zl zv/\zl zk<=k/\(∀q∈zk,Zs (zl ps) q)/\(∀d∈zv,Bd d)/\(∀s∈st,jE (zl ps) s.2)/\zl st<=2*k /\
   O=rS ns at_ ks (wD wa wb wc) sh ps cl nm jk jv zk zv st a b c d) (by
  intro k Ti O z0;let#[jk,jv,zk,zv,st,a,b,c,d,j1,j2,j3,j4,z1,z2,z3,z4,s1,s2,rfl]:=z0;let#[n,m0,m1,qn]:=kX ns (at_+6+(k:J)) (by lia);have hN:pS GR 1000 sN (rS ns at_ ks (wD wa wb wc) sh ps cl nm jk jv zk zv st (M<|.b k) b c d)=.a (rS ns at_ ks (wD wa wb wc) sh ps cl nm jk jv zk zv st (M<|.b k) (M<|.b n) c d):=by
   simp_arith[cQ,qn]
  let#[R0,R1,c',x1,x2,x3,x4,hJ]:=rd_J ns at_ ha ks wa wb wc lb sh ps hp cl nm k Ti n m0 jk jv j1 j2 j3 j4 zk zv st c d;let#[SX,T9,y1,y2,y3,y4,hZ]:=rd_Z ns at_ ha ks wa wb wc la sh ps hp cl nm k Ti n m0 m1 R0 R1 zk zv st z1 z2 z3 z4 c' d;let#[st',u1,u2,hT]:=rd_T ns at_ ha ks wa wb wc lc sh ps cl nm n1 n2 k Ti n m0 R0 R1 SX T9 st s1 s2 c' d;refine#[rS ns at_ ks (wD wa wb wc) sh ps cl nm jk jv zk zv st (M<|.b k) b c d,rS ns at_ ks (wD wa wb wc) sh ps cl nm R0 R1 SX T9 st' (M<|.b k) (M<|.b n) c' d,rfl,?_,R0,R1,SX,T9,st',_,_,_,_,x1,x2,x3,x4,y1,y2,y3,y4,u1,u2,rfl];rw[af6,cJ,hN];show bK GR 1000 _ _=_;rw[cJ,hJ];show bK GR 1000 _ _=_;rw[cJ,hZ];show bK GR 1000 _ _=_;rw[cJ,hT];rfl) (rS ns at_ ks (wD wa wb wc) sh ps cl nm [] [] [] [] [] S S S S)
  #[[],[],[],[],[],_,_,_,_,rfl,by simp,λq hq=>aI hq aF,λq hq=>aI hq aF,rfl,by simp,λq hq=>aI hq aF,λq hq=>aI hq aF,λq hq=>aI hq aF,by simp,rfl]
 let#[σ2,h2,ps',b',c',d',p1,p2,rfl]:=iY (g:=pG<|.a 13) (b:=bK GR 1000 qh) (zl ps)
  (λi O=>∃(ps':B<|B Str) (b c d:LD D),HH ks ps'/\zl ps'=zl ps/\O=rS ns at_ ks (wD wa wb wc) sh ps' cl nm jk jv zk zv st a b c d) (by
  intro i hi O z0;let#[ps',b',c',d',p1,p2,rfl]:=z0;let#[ps'',b'',d'',q1,q2,q3]:=rd_P ns at_ ha ks hk ho (wD wa wb wc) sh ps' p1 cl nm jk jv zk zv st i (by lia) a b' d';exact#[rS ns at_ ks (wD wa wb wc) sh ps' cl nm jk jv zk zv st a b' (M<|.b i) d',_,rfl,q3,ps'',_,_,_,q1,by lia,rfl]) (rS ns at_ ks (wD wa wb wc) sh ps cl nm jk jv zk zv st a b c d) #[ps,_,_,_,hp,rfl,rfl]
 let#[XG,eJ,lJ,mJ]:=Jq jk;let#[ixOk,ruO,clsub0,wt']:=Jq zk;let#[zs,hok1,vbs,hz]:=aey (Y:=GR) zk zv z1 z3 z4 ixOk wt';have oJ:=Vl (by lia) j3;have xT4:=aex (by lia) z3;have bds2:bq zs=L:=(qD zs 1<|z8 λz h=>(hz z h).pl).2.1;have rg:-(2 ^ 62)<=(zl ps:J)/\(zl ps:J).toNat<=aj:=by lia
 have oc:=YD cl;let#[js,UL,Yx]:=NL (λq h=>j3 q (mJ q h):∀q∈XG,Js (zl ps) q);let#[rz,Yc,Zc]:=UD hz;have UZ:zl js<=4:=by rw[UL,aa]at lJ;lia
 have lzs:zl rz<=4:=by rw[Yc,aa]at vbs;lia
 have pt_cmp':-(2 ^ 62)<=(4:J)/\(4:J).toNat<=aj:=by lia
 have pe_and':bq zv=L:=(qD zv 1<|z8 λd h=>(z4 d h).pl).2.1;refine#[#[ps',cl,js,rz,st],#[#[Nat.le_succ_of_le p1.1,p1.2],by rw[p2];exact c1,c2,by rw[p2];exact Yx,UZ,by rw[p2];exact Zc,lzs,by rw[p2];exact s1,s2],?_];have oj:bq (C jD js)=L:=by rw[<-z9];exact LU _
 rw[UL]at eJ;rw[z9]at eJ;subst Yc;unfold oE zy ES;simp_arith[cQ,kg,bQ,hcld,NJ,σ4,oc];have h1:QS (pG<|.a 11) (bK GR 1000 qi) (fX 0<|zh 4) [M<|bz ns,M<|.b at_,M<|.a W<|bV ks,M<|wD wa wb wc,M<|.e sh,M<|.a L<|C tS ps,M<|.a L<|C cD cl,M<|.a L<|C tI nm,M<|.f L [] [],M<|.f L [] [],M<|.a L [],S,S,S,S]=_:=h1;rw[h1];unfold rS at h2 ⊢;simp_arith[eU,eN];rw[h2];simp_arith[oJ,xT4,eJ,ruO,aez,hok1,bds2,LU,oj]
end K3
end
section
namespace L2
open PySem PySem.W PySem.Calls PyProof.Rows
def NN(n:Nat)(lt:Nat->Nat->Bool):(p6 n lt).Perm (bW n):=by
 unfold p6;split
 .rfl
 .have hP:lM n (uy lt<|mE n):=DB _ _ (uL<|by omega);exact hP.2.toList
def yT{α:Type}[K9 α](κ:α->B Key)(xs:B α):B α:=(dX<|xs.map κ).map λi=>xs.getD i default
section
variable{α:Type} [K9 α] {κ:α->B Key}
def Jt:∀i∈dX kss,i<zl kss:=vz _ _
def Qk(xs:B α):zl (yT κ xs)=zl xs:=by
 unfold yT dX;rw[aa,oA,aa]
def Vg(xs:B α):(bW<|zl xs).map (λi=>xs.getD i default)=xs:=by
 apply kT
 .simp
 .intro i a b;simp[aV,ai b]
def ljs(xs:B α):(yT κ xs).Perm xs:=by
 have h:=(NN (zl xs)<|wy<|xs.map κ).map λi=>xs.getD i default;rw[Vg]at h;unfold yT dX;rw[aa];exact h
def aeB{xs:B α}(h:i<zl xs):(xs.map κ).getD i []=κ (xs.getD i default):=by simp_all
end
end L2
end
section
namespace K3
open List renaming map->C
open PySem L2 L3 Tr
abbrev WN:=Str×J
noncomputable abbrev wk(l:B WN):B Key:=l.map λp=>.inr p.1
noncomputable abbrev wv(l:B WN):B D:=l.map λp=>.b p.2
noncomputable abbrev jN(p:WN):D:=.d [.c p.1,.b p.2]
def vH(l:B WN):Prop:=(C (·.1) l).Nodup
theorem Z2(w)(v):∀l:B WN,jA (wk l) (wv l) (.inr w) (.b v)=wv (l.map λp=>if p.1=w then(p.1,v)else p)
|[]=>rfl
|p::l=>by
 show(if(dg p.1:Key)=.inr w then D.b v else .b p.2)::jA (wk l) (wv l) (.inr w) (.b v)=_;rw[Z2 w v l];by_cases c:p.1=w
 .rw[aH<|by rw[c]];simp[wv,c]
 .rw[aG<|by simpa using c];simp[wv,c]
def LV{l:B WN}(nd:vH l)(hl:zl l<60)(w)(v):∃l',S6 (.g L (wk l)<|wv l) (.b v) (.c w)=M (.g L (wk l')<|wv l')/\vH l'/\zl l'<=zl l+1:=by
 have hs:=szl;have e:S6 (.g L (wk l)<|wv l) (.b v) (.c w)=(if(wk l).length<aj then(if gw (wk l) (.inr w)=L then(if rK (.b v)=L then M (.g L (wk l)<|jA (wk l) (wv l) (.inr w)<|.b v)else S)else M (.g L (wk l++[.inr w])<|wv l++[.b v]))else S):=rfl;rw[e,aH (by rw[aa];lia)];by_cases c:gw (wk l) (.inr w)=L
 .rw[aH c,aH (show rK (.b v)=L from rfl),Z2];have ek:wk (l.map λp=>if p.1=w then(p.1,v)else p)=wk l:=by
   unfold wk;rw[bG];refine fT λp _=>?_;show(dg (if p.1=w then(p.1,v)else p).1:Key)=_;split<;>rfl
  refine#[l.map λp=>if p.1=w then(p.1,v)else p,by rw[ek],?_,by simp];have e2:C (·.1) (l.map λp=>if p.1=w then(p.1,v)else p)=C (·.1) l:=by
   rw[bG];refine fT λp _=>?_;show(if p.1=w then(p.1,v)else p).1=_;split<;>rfl
  unfold vH;rw[e2];exact nd
 .rw[aG c];refine#[l++[(w,v)],by simp[wk,wv],?_,by simp];unfold vH;rw[bl,vP];refine cL.mpr #[nd,by simp,λa ha b hb h=>c ?_];rw[aK.mp hb]at h;subst h;let#[p,hp,e3]:=bF.mp ha;exact fm.mpr #[.inr p.1,bF.mpr #[p,hp,rfl],by simpa using e3]
theorem Z3:∀l:B WN,AO (wk l) (wv l)=M l
|[]=>rfl
|p::l=>by
 show(AO (wk l)<|wv l).map _=_;rw[Z3 l];rfl
def aeC(l)(nd:vH l):∃l',L3.p8 (mW l)=C jN l'/\vH l'/\zl l'=zl l:=by
 refine#[yT (λp:WN=>[.inr p.1,.inl p.2]) l,?_,?_,Qk l]
 .unfold L3.p8 yT mW;rw[bG];refine fT λi hi=>?_;have hlt:=Jt i hi;rw[aa]at hlt;rw[aeB hlt];rfl
 .exact((ljs l).map λp:WN=>p.1).nodup_iff.mpr nd
def D0(l:B WN):bq (C jN l)=L:=oM (λ_=>rfl) l
def HM(l):aD (wv l)=wv l:=dj _ (λ_=>rfl) l
theorem aeD{Y:B PG}{O:bw}{a:CE}{r:mV}:lP Y (.cons (.u a) r) O=(pE Y (.u a) O).bind λd=>R.cA (aX d) ((lP Y r O).bind λds=>.c (d::ds)):=rfl
abbrev B3:=Str×LD J×LD J
noncomputable abbrev bD(b:B3):D:=.d [.c b.1,oD b.2.1,oD b.2.2]
def HN(l:B B3):aD (C bD l)=C bD l:=dj bD (λb=>by show D.d [.c _,br<|oD _,br<|oD _]=_;rw[nL,nL]) l
abbrev GP:B PG:=[.a nK [],.a d9 []]
abbrev HP(sc:D)(at_:J)(kd al bn w:D)(n:J)(ys:B Str)(l:B WN)(a b c:LD D):bw:=
 [M sc,M<|.b at_,M kd,M al,M bn,M w,M<|.b n,M<|.a L<|C D.c ys,M<|.g L (wk l)<|wv l,a,b,c]
def pf_b(sc)(at_)(kd al bn w)(n)(n0:0<=n)(ys)(l)(nd:vH l)(hl:zl l<60)(wd)(lo hi)(hb:Bo lo hi):∃l',vH l'/\zl l'<=zl l+1/\bK GP 1000 lT (HP sc at_ kd al bn w n ys l (M<|.c wd) (M<|oD lo)<|M<|oD hi)=.a (HP sc at_ kd al bn w n ys l' (M<|.c wd) (M<|oD lo)<|M<|oD hi):=by
 have hs:=szl;unfold lT HP;cases lo with
 |none=>
  cases hi with
  |none=>exact aI rfl<|hb rfl
  |some h=>
   let#[l',q,q1,q2]:=LV nd hl wd<|h-n / 7%3;refine#[l',q1,q2,?_];unfold oD;simp_arith[d7];rw[iw rfl rfl q];simp_arith[]
 |some lo=>
  cases hi with
  |none=>
   let#[l',q,q1,q2]:=LV nd hl wd<|lo+n / 7%3;refine#[l',q1,q2,?_];unfold oD;simp_arith[d7];rw[iw rfl rfl q];simp_arith[]
  |some h=>
   generalize hM:(if h-lo+1>1 then h-lo+1 else 1)=R4;have Yt:0<R4:=by rw[<-hM];split<;>lia
   let#[l',q,q1,q2]:=LV nd hl wd<|lo+n / 7%R4;refine#[l',q1,q2,?_];unfold oD;simp_arith[d7,hM];rw[iw rfl rfl q];simp_arith[]
abbrev Pt:=Str×B WN
abbrev cF(o:Bool)(p:Pt):D:=.d [.c p.1,.a o<|C jN p.2]
def mj(ks:B<|Str×Str)(p:Pt):Prop:=p.1∈C (·.1) ks/\vH p.2/\zl p.2<=9
def NO(ns)(at_)(ha:0<=at_/\at_<=1000)(ks)(hk:vF ks)(wa wb wc)(la:zl wa=3)(al)(t:B Str)(hal:al=tS t\/al=.a W (C D.c t))(ht:t≠[])(hm:∀s∈t,s∈C (·.1) ks)(bs:B B3)(hb:∀b∈bs,Bo b.2.1 b.2.2)(V3:zl bs<=8):∃p:Pt,mj ks p/\gR [bz ns,.b at_,.a W<|bV ks,al,.a W<|C bD bs,wD wa wb wc]=.c (cF L p):=by
 have hs:=szl;let#[n,n0,n1,qn]:=kX ns at_ (by lia);have tp:(0:J)<(zl t:J):=by
  have:=jz.mpr ht
  lia
 have b1:=dm n tp;let#[s,sm,es]:=kE t (n%(zl t:J)) b1.1 b1.2;let#[ys,y1,y2,y3,qy]:=NH ks hk.l8 hk.ho s<|hm s sm;have yp:(0:J)<(zl ys:J):=by
  have:=jz.mpr y1
  lia
 have b2:=dm (n / 4) yp;let#[s2,XD,UN]:=kE ys (n / 4%(zl ys:J)) b2.1 b2.2;have Yg:br al=al:=by rcases hal with rfl|rfl<;>(first|(show D.d (aD _)=_;rw[bQ])|(show D.a W (aD _)=_;rw[bQ]))
 have b7:h_ .a [al]=.c (.b (zl t:J)):=by
  rcases hal with rfl|rfl
  .show R.c (D.b (zl (C D.c t):J))=_;rw[aa]
  .show R.c (D.b (zl (C D.c t):J))=_;rw[aa]
 have Zd:g_ al (.b<|n%(zl t:J))=.c (.c s):=by
  rcases hal with rfl|rfl<;>(unfold g_;simp only[es];rfl)
 have loop:∀l:B WN,vH l->zl l<=1->∃p:Pt,mj ks p/\Jb (bK GP 1000 ZX<|HP (bz ns) at_ (.a W<|bV ks) al (.a W<|C bD bs) (wD wa wb wc) n ys l S S S)=.c (cF L p):=by
  intro l nd hl;let#[σ',h1,l2,a,b,c,Tw,hl2,rfl]:=K2.lW (g:=pG<|.b #v[.a 9,.a 10,.a 11]) bD bs
   (λpre O=>∃(l2:B WN) (a b c:LD D),vH l2/\zl l2<=1+zl pre/\O=HP (bz ns) at_ (.a W<|bV ks) al (.a W<|C bD bs) (wD wa wb wc) n ys l2 a b c) (by
   rintro pre ⟨w,lo,hi⟩ post e O ⟨l2,a,b,c,Tw,hl2,rfl⟩;have hpre:zl pre<=8:=by rw[e]at V3;simp at V3;lia
   let#[l3,q1,q2,q3]:=pf_b (bz ns) at_ (.a W<|bV ks) al (.a W<|C bD bs) (wD wa wb wc) n n0 ys l2 Tw (by lia) w lo hi (hb (w,lo,hi) (by rw[e];simp));exact#[HP (bz ns) at_ (.a W<|bV ks) al (.a W<|C bD bs) (wD wa wb wc) n ys l2 (M<|.c w) (M<|oD lo)<|M<|oD hi,_,rfl,q3,l3,_,_,_,q1,by simp;lia,rfl]) (HP (bz ns) at_ (.a W<|bV ks) al (.a W<|C bD bs) (wD wa wb wc) n ys l S S S) #[l,_,_,_,nd,by simpa using hl,rfl]
  let#[l3,e3,nd3,hl3]:=aeC l2 Tw;refine#[(s2,l3),#[y3 s2 XD,nd3,by show zl l3<=9;lia],?_];have hits:=Z3 l2;have h64:zl l2<64:=by lia
  simp_arith[HN];rw[h1];simp_arith[bQ,UN,aeD,HM,hits,e3,D0]
 by_cases c:(n / 64%3==0)=L
 .have b3:=dm (n / 192) (b:=3) (by decide);let#[s3,po_some',es3]:=kE wa (n / 192%3) b3.1 (by lia);let#[l',q,q1,q2]:=LV (l:=[]) (by unfold vH;simp) (by simp) s3<|n / 600%7-2;let#[p,hp,qp]:=loop l' q1 (by simp_all);refine#[p,hp,pY ?_ qp];unfold gR tZ xS;have q:S6 (.g L [] []) (.b<|n / 600%7-2) (.c s3)=M (.g L (wk l')<|wv l'):=q;unfold ZX HP;generalize lT=QJ;simp_arith[cQ,qn,Yg,b7,Zd,kg,qy,c,HJ,bQ,es3,j8];rw[iw rfl rfl q];simp_arith[]
 .rw[fq]at c;let#[p,hp,qp]:=loop [] (by unfold vH;simp) (by simp);refine#[p,hp,pY ?_ qp];unfold gR tZ xS;unfold ZX HP;generalize lT=QJ;simp_arith[cQ,qn,Yg,b7,Zd,kg,qy,c,bQ,j8]
def K0{β:Type}{g:D->bw->R bw}{b:bw->Fl}(enc:β->D)(xs)(I:B β->bw->Prop)(h:∀pre x post,xs=pre++x::post->∀O,I pre O->∃σ2 σ3,g (.d [.b (zl pre:J),enc x]) O=.c σ2/\b σ2=.a σ3/\I (pre++[x]) σ3)(O:bw)(h0:I [] O):∃σ',QS g b (iW 0<|C enc xs) O=.a σ'/\I xs σ':=by
 have go:∀(post pre:B β) (O:bw),xs=pre++post->I pre O->∃σ',QS g b (iW (zl pre)<|C enc post) O=.a σ'/\I xs σ':=by
  intro post;induction post with
  |nil=>intro pre O e hi;rw[e,ee];exact#[O,rfl,hi]
  |cons x r ih=>
   intro pre O e hi;let#[σ2,σ3,h1,h2,h3]:=h pre x r e O hi;let#[σ',h4,h5]:=ih (pre++[x]) σ3 (by rw[e,bE];rfl) h3;refine#[σ',?_,h5];rw[aZ,gQ]at h4;rw[bB];show(g (.d [.b (zl pre:J),enc x]) O).bH _=_;rw[h1];simp only[R.bH,h2];exact h4
 exact go xs [] O rfl h0
abbrev GT:B PG:=[.a d9 [],.a gR []]
abbrev vI(sc kd rd w:D)(at_:J)(pp:B Pt)(a6 a7 a8 rg4 R7 QN a12 Vb Vc RL RM UC Rn:LD D):bw:=
 [M sc,M<|.b at_,M kd,M rd,M w,M<|.a L<|pp.map<|cF L,a6,a7,a8,rg4,R7,QN,a12,Vb,Vc,RL,RM,UC,Rn]
def mK(l:B Z4):aD (C zD l)=C zD l:=dj zD (λz=>by show D.d [.b _,.c _,br<|oD _,br<|oD _]=_;rw[nL,nL]) l
def dD(l:B J3):aD (C jD l)=C jD l:=dj jD (λ_=>rfl) l
def cV(l:B<|Str×J):aD (C sD l)=C sD l:=dj sD (λ_=>rfl) l
def kh(l:B<|B Str×B J):aD (C cD l)=C cD l:=dj cD (λc=>by show D.d [.d<|aD _,.d<|aD _]=_;rw[bQ,bP]) l
def YE(l:B B3):bq (C bD l)=L:=oM (λb=>by show(L&&(aX (oD b.2.1)&&(aX (oD b.2.2)&&L)))=L;rw[FQ,FQ];rfl) l
def LW(p):aX (cF L p)=L:=by
 show(L&&((L&&bq (C jN p.2))&&L))=L;rw[D0];rfl
theorem A3(a b c d e:D):bL [a,b,c,d,e] 0=M a:=rfl
theorem HQ(a b c d e:D):bL [a,b,c,d,e] 2=M c:=rfl
theorem R9(a b c d e:D):bL [a,b,c,d,e] 3=M d:=rfl
theorem HR(a b c d e:D):bL [a,b,c,d,e] 4=M e:=rfl
theorem af7(a b c d:D):bL [a,b,c,d] 0=M a:=rfl
theorem D3(a b:D):bL [a,b] 0=M a:=rfl
theorem Z5(a b:D):bL [a,b] 1=M b:=rfl
def bds(zs:B Z4)(i:J):dK (pG<|.a 0) (pT GT<|.d .Eq (.b (.a 0)<|.c<|.b 0)<|.a 1) (pE GT<|.m (.a 0) (.some<|.c<|.b 1) .none) (C zD zs) [S,M<|.b i]=.c (C bD ((zs.filter λz=>z.1==i).map λz=>(z.2.1,z.2.2.1,z.2.2.2))):=by
 rw[bG];refine pq zD (λO=>∃o,O=[o,M<|.b i]) (λz=>z.1==i) (λz=>bD (z.2.1,z.2.2.1,z.2.2.2)) zs _ #[_,rfl] ?_;rintro⟨n,w,lo,hi⟩ _ O ⟨o,rfl⟩;refine#[[M<|zD (n,w,lo,hi),M<|.b i],rfl,#[_,rfl],?_,?_]
 .simp_arith[af7,nL]
 .have hd:(1:J)<=1/\(1:J)<=(zl [D.b n,.c w,oD lo,oD hi]:J):=by simp
  simp_arith[nL];show R.c (D.d [.c w,br<|oD lo,br<|oD hi])=_;rw[nL,nL]
section
variable(ns:B J) (at_:J) (ha:0<=at_/\at_<=900) (ks:B (Str×Str)) (hk:vF ks) (wa wb wc:B Str) (la:zl wa=3) (r:k9) (hr:vG ks r)
include ha hk la hr
theorem th_1:∃(pp:B Pt) (a6 a7 a8:LD D),zl pp=zl r.ps/\(∀p∈pp,mj ks p) /\
  QS (pG<|.b #v[.a 6,.a 7]) (bK GT 1000 kO) (iW 0<|C tS r.ps) (vI (bz ns) (.a W<|bV ks) (cB W r) (wD wa wb wc) at_ [] S S S S S S S S S S S S S)=
   .a (vI (bz ns) (.a W<|bV ks) (cB W r) (wD wa wb wc) at_ pp a6 a7 a8 S S S S S S S S S S):=by
 have hs:=szl;have p4:=hr.p.1;let#[σ',h1,pp,a6,a7,a8,l1,l2,rfl]:=K0 (g:=pG<|.b #v[.a 6,.a 7]) (b:=bK GT 1000 kO) tS r.ps
  (λpre O=>∃(pp:B Pt) (a6 a7 a8:LD D),zl pp=zl pre/\(∀p∈pp,mj ks p)/\O=vI (bz ns) (.a W<|bV ks) (cB W r) (wD wa wb wc) at_ pp a6 a7 a8 S S S S S S S S S S) (by
  intro pre t post e O z0;let#[pp,a6,a7,a8,l1,l2,rfl]:=z0;have hpre:zl pre<5:=by rw[e]at p4;simp at p4;lia
  have ht:=hr.p.2 t (by rw[e];simp);let#[p,hp,qp]:=NO ns (at_+(zl pre:J)) (by lia) ks hk wa wb wc la (tS t) t (.inl rfl) ht.1.1 ht.2 ((r.zs.filter λz=>z.1==(zl pre:J)).map λz=>(z.2.1,z.2.2.1,z.2.2.2)) (λb hb=>by
   let#[z,hz,rfl]:=bF.mp hb;exact(hr.z z (i9.mp hz).1).2) (by
   rw[aa];have:=sX (λz:Z4=>z.1==(zl pre:J)) r.zs;have:=hr.z4
   lia)
  have qb:=bds r.zs (zl pre:J);refine#[vI (bz ns) (.a W<|bV ks) (cB W r) (wD wa wb wc) at_ pp (M<|.b (zl pre:J)) (M<|tS t) a8 S S S S S S S S S S,vI (bz ns) (.a W<|bV ks) (cB W r) (wD wa wb wc) at_ (pp++[p]) (M<|.b (zl pre:J)) (M<|tS t) (M<|.a L<|C bD ((r.zs.filter λz=>z.1==(zl pre:J)).map λz=>(z.2.1,z.2.2.1,z.2.2.2))) S S S S S S S S S S,rfl,?_,pp++[p],_,_,_,by simp[l1],λq hq=>?_,rfl]
  .unfold kO vI;generalize hB:((r.zs.filter λz=>z.1==(zl pre:J)).map λz=>(z.2.1,z.2.2.1,z.2.2.2))=bs at qb qp ⊢;simp_arith[eU,kh,dD,mK,cV,R9,qb,YE,cQ,kg,bQ,HN,qp];rw[iu (xs:=pp.map<|cF L) rfl (by rw[hs,aa];lia) (by rw[LW];rfl)];simp_arith[D0,bl,bB,dZ]
  .rcases bh.mp hq with z|z
   .exact l2 q z
   .rw[aK.mp z];exact hp) _ #[[],_,_,_,rfl,λ_ h=>aI h aF,rfl]
 exact#[pp,a6,a7,a8,l1,l2,h1]
omit hr in
theorem th_2(m:J)(m0:0<=m)(pp:B Pt)(hpl:zl pp<=5)(hpp:∀p∈pp,mj ks p)(rd:D)(a6 a7 a8:LD D):∃(qq:B Pt) (R7 QN:LD D),zl pp<=zl qq/\zl qq<=7/\(∀p∈qq,mj ks p) /\
  QS (pG<|.a 10) (bK GT 1000 kN) (fX 0 (m%3).toNat) (vI (bz ns) (.a W<|bV ks) rd (wD wa wb wc) at_ pp a6 a7 a8 (M<|.b m) S S S S S S S S S)=
   .a (vI (bz ns) (.a W<|bV ks) rd (wD wa wb wc) at_ qq a6 a7 a8 (M<|.b m) R7 QN S S S S S S S):=by
 have hs:=szl;have b3:=dm m (b:=3) (by decide);let#[σ',h1,qq,R7,QN,l1,l2,l3,rfl]:=iY (g:=pG<|.a 10) (b:=bK GT 1000 kN) (m%3).toNat
  (λk O=>∃(qq:B Pt) (R7 QN:LD D),zl pp<=zl qq/\zl qq<=5+k/\(∀p∈qq,mj ks p)/\O=vI (bz ns) (.a W<|bV ks) rd (wD wa wb wc) at_ qq a6 a7 a8 (M<|.b m) R7 QN S S S S S S S) (by
  intro k hkk O z0;let#[qq,R7,QN,l1,l2,l3,rfl]:=z0;have kp:(0:J)<(zl ks:J):=by have:=hk.l3;lia
  have b1:=dm (m / ((k:J)+3)) kp;let#[j,hj,ej,ea]:=jx (bV ks) (m / ((k:J)+3)%(zl ks:J)) b1.1 (by rw[aa];exact b1.2);rw[dP]at ea;generalize hq:ks[j]'(by simpa using hj)=q at ea;have Wh:q.1∈C (·.1) ks:=bF.mpr #[q,by rw[<-hq];exact cK _,rfl];let#[p,hp,qp]:=NO ns (at_+6+(k:J)) (by lia) ks hk wa wb wc la (.a W<|C D.c [q.1]) [q.1] (.inr rfl) (by simp) (λs h=>by rw[aK.mp h];exact Wh) [] (λb h=>aI h aF) (by simp);have qp:gR [bz ns,.b<|at_+6+(k:J),.a W<|bV ks,.a W [.c q.1],.a W [],wD wa wb wc]=.c (cF L p):=qp;refine#[vI (bz ns) (.a W<|bV ks) rd (wD wa wb wc) at_ qq a6 a7 a8 (M<|.b m) (M<|.b k) QN S S S S S S S,vI (bz ns) (.a W<|bV ks) rd (wD wa wb wc) at_ (qq++[p]) a6 a7 a8 (M<|.b m) (M<|.b k) (M<|.c q.1) S S S S S S S,rfl,?_,qq++[p],_,_,by simp;lia,by simp;lia,λx hx=>?_,rfl]
  .unfold kN vI;have hd:vU m ((k:J)+3):=by unfold vU;lia
   simp_arith[kg,ea,z7,D3,cQ,bQ,qp];rw[iu (xs:=qq.map<|cF L) rfl (by rw[hs,aa];lia) (by rw[LW];rfl)];simp_arith[D0,bl,bB,dZ]
  .rcases bh.mp hx with z|z
   .exact l3 x z
   .rw[aK.mp z];exact hp) _ #[pp,_,_,aM _,by lia,hpp,rfl]
 exact#[qq,R7,QN,l1,by lia,l3,h1]
end
structure Od (n:Nat) (od:B J):Prop where
 len:zl od=n
 sub:∀i∈od,jE n i
 has:∀k:Nat,k<n->(k:J)∈od
def Od.ab{n:Nat}{od:B J}(h:Od n od)(j):Od (n+1) (od.take j++(n:J)::od.drop j):=by
 have hl:=h.len;refine#[by simp;lia,λi hi=>?_,λk hk=>?_]
 .rcases bh.mp hi with q|q
  .exact(h.sub i<|Bj q).up (by lia)
  .rcases aO.mp q with q|q
   .rw[q];exact#[by lia,by lia]
   .exact(h.sub i<|uu q).up (by lia)
 .by_cases c:k<n
  .have:=h.has k c;rw[<-List.take_append_drop j od]at this;rcases bh.mp this with q|q
   .exact cz _ q
   .exact aR _ (aq _ q)
  .have:k=n:=by lia
   rw[this];exact aR _ aB
def Ql(l):mH (C D.b l)=M l:=by
 induction l with
 |nil=>rfl
 |cons x r ih=>
  show(mH<|C D.b r).map _=_;rw[ih];rfl
abbrev HS(sc kd rd w:D)(at_:J)(pp:B Pt)(m:J)(a6 a7 a8 R7 QN:LD D)(od:B J)(Vb Vc RL RM UC Rn:LD D):bw:=vI sc kd rd w at_ pp a6 a7 a8 (M<|.b m) R7 QN (M<|.a L<|C D.b od) Vb Vc RL RM UC Rn
def th_3(sc kd rd w:D)(at_ m:J)(m0:0<=m)(pp:B Pt)(hpp:zl pp<=7)(a6 a7 a8 R7 QN:LD D):∃(od:B J) (SK:LD D),Od (zl pp) od /\
  QS (pG<|.a 10) (bK GT 1000 kM) (fX 0<|zl pp) (HS sc kd rd w at_ pp m a6 a7 a8 R7 QN [] S S S S S S)=.a (HS sc kd rd w at_ pp m a6 a7 a8 SK QN od S S S S S S):=by
 have hs:=szl;let#[σ',h1,od,SK,l1,rfl]:=iY (g:=pG<|.a 10) (b:=bK GT 1000 kM) (zl pp)
  (λk O=>∃(od:B J) (R7:LD D),Od k od/\O=HS sc kd rd w at_ pp m a6 a7 a8 R7 QN od S S S S S S) (by
  intro k hk O z0;let#[od,R7,l1,rfl]:=z0;have b1:=dm (m / (5*(k:J)+7)) (b:=(k:J)+1) (by lia);have hl:=l1.len;refine#[HS sc kd rd w at_ pp m a6 a7 a8 (M<|.b k) QN od S S S S S S,HS sc kd rd w at_ pp m a6 a7 a8 (M<|.b k) QN (od.take (m / (5*(k:J)+7)%((k:J)+1)).toNat++(k:J)::od.drop (m / (5*(k:J)+7)%((k:J)+1)).toNat) S S S S S S,rfl,?_,_,_,l1.ab _,rfl];unfold kM HS vI;have hd:vU m (5*(k:J)+7):=by unfold vU;lia
  have hm:nF 5 (k:J):=by unfold nF;lia
  simp_arith[];rw[Cs (xs:=C D.b od) rfl (by rw[hs,aa];lia) rfl];simp_arith[bl,bB,oh,oq]) _ #[[],_,#[rfl,λ_ h=>aI h aF,λk h=>aI h<|lX k],rfl]
 exact#[od,SK,l1,h1]
def af8(n)(od)(h:Od n od):∃sp:B J,zl sp=n/\(∀i∈sp,jE n i) /\
  dK (pG<|.a 0) (λ_=>.c L) (pE GT<|.l .c (.a 1) #v[.a 0]) (fX 0 n) [S,M<|.a L<|C D.b od]=.c (C D.b sp):=by
 have q:=pP (g:=pG<|.a 0) (e:=pE GT<|.l .c (.a 1) #v[.a 0]) (λi:Nat=>D.b<|0+(i:J)) (λO=>∃o,O=[o,M<|.a L<|C D.b od]) (λy=>∃i,jE n i/\y=.b i) (bW n) [S,M<|.a L<|C D.b od] #[_,rfl] (by
  rintro k hk O ⟨o,rfl⟩;have hk:=fJ.mp hk;have hm:=h.has k hk;refine#[[M<|.b<|0+(k:J),M<|.a L<|C D.b od],.b (od.idxOf (0+(k:J)):Nat),rfl,#[_,rfl],?_,_,#[?_,?_],rfl]
  .have hi:uU .c (.a W<|C D.b od) [.b<|0+(k:J)]=.c (.b (od.idxOf (0+(k:J)):Nat)):=Nm (Ql od) (by rw[Du];exact hm);simp_arith[bP,hi]
  .lia
  .rw[Du];have:=ye.mpr hm;rw[h.len]at this;exact Ox.mpr this)
 let#[ys,y1,y2,y3]:=q;let#[sp,rfl,Rj]:=UD y3;exact#[sp,by simpa using y2,Rj,y1]
def NP(o)(p):br (cF o p)=cF W p:=by
 show D.d [.c p.1,.a W<|aD<|C jN p.2]=_;rw[dj jN λ_=>rfl]
def e_(o)(l:B Pt):aD (C (cF o) l)=C (cF W) l:=Qg (NP o) l
def D4{n:Nat}{l:B J}(h:zl l=n){i:J}(hi:jE n i):∃v,v∈l/\bL (C D.b l) i=M (.b v):=by
 let#[j,hj,ej,ea]:=jx (C D.b l) i hi.1 (by rw[aa,h];exact hi.2);rw[dP]at ea;exact#[_,cK _,ea]
abbrev wz(sc kd rd w:D)(at_:J)(pp:B Pt)(m:J)(od sp:B J)(jk:B<|B Key)(jv:B D)(a6 a7 a8 R7 QN RL RM UC Rn:LD D):bw:=HS sc kd rd w at_ pp m a6 a7 a8 R7 QN od (M<|.a L<|C D.b sp) (M<|.f L jk jv) RL RM UC Rn
structure Jn (n N:Nat) (jk:B (B Key)) (jv:B D):Prop where
 l:zl jk=zl jv
 b:zl jk<=N
 k:∀q∈jk,Js n q
 v:∀d∈jv,d=.e L
def Jn.put{n N:Nat}{jk:B<|B Key}{jv:B D}(h:Jn n N jk jv)(hN:N<60)(s:Str)(i j:J)(hi:jE n i)(hj:jE n j):∃R0 R1,Jn n (N+1) R0 R1/\S6 (.f L jk jv) (.e L) (.d [.c s,.b i,.b j])=M (.f L R0 R1):=by
 have hs:=szl;have hb:=h.b;let#[R0,R1,Sn,g1,g2,g3,g4]:=LS (d:=.e L) (j:=.d [.c s,.b i,.b j]) (q:=[.inr s,.inl i,.inl j]) h.l (by lia) rfl rfl;refine#[R0,R1,#[g1,by lia,λq hq=>?_,λy hy=>?_],Sn]
 .rcases(g3 q).mp hq with z|z
  .exact#[(s,i,j),#[hi,hj],z]
  .exact h.k q z
 .rcases g4 y hy with z|z
  .exact z
  .exact h.v y z
def th_4(sc kd rd w)(at_ m)(pp)(n)(od sp)(Rj:zl sp=n)(hsi:∀i∈sp,jE n i)(js:B J3)(Wd:zl js<=4)(hj:∀j∈js,Qj n j)(a6 a7 a8 R7 QN):∃(jk:B<|B Key) (jv:B D) (Rv RL RM:LD D),Jn n 4 jk jv /\
  QS (pG<|.b #v[.a 15,.a 6,.a 16]) (bK GT 1000 kL) (C jD js) (wz sc kd rd w at_ pp m od sp [] [] a6 a7 a8 R7 QN S S S S)=.a (wz sc kd rd w at_ pp m od sp jk jv Rv a7 a8 R7 QN RL RM S S):=by
 have hs:=szl;let#[σ',h1,jk,jv,Rv,RL,RM,l1,rfl]:=K2.lW (g:=pG<|.b #v[.a 15,.a 6,.a 16]) (b:=bK GT 1000 kL) jD js
  (λpre O=>∃(jk:B<|B Key) (jv:B D) (a6 RL RM:LD D),Jn n (zl pre) jk jv/\O=wz sc kd rd w at_ pp m od sp jk jv a6 a7 a8 R7 QN RL RM S S) (by
  rintro pre ⟨s,i,j⟩ post e O ⟨jk,jv,a6,RL,RM,l1,rfl⟩;have hpre:zl pre<4:=by rw[e]at Wd;simp at Wd;lia
  let#[h1,h2]:=hj (s,i,j) (by rw[e];simp);let#[v1,ntup,e1]:=D4 Rj h1;let#[v2,o_ch,e2]:=D4 Rj h2;let#[R0,R1,l2,q]:=l1.put (by lia) s v1 v2 (hsi v1 ntup)<|hsi v2 o_ch;refine#[wz sc kd rd w at_ pp m od sp jk jv (M<|.b i) a7 a8 R7 QN (M<|.c s) (M<|.b j) S S,wz sc kd rd w at_ pp m od sp R0 R1 (M<|.b i) a7 a8 R7 QN (M<|.c s) (M<|.b j) S S,rfl,?_,R0,R1,_,_,_,by rw[aZ];exact l2,rfl];unfold kL wz HS vI;simp_arith[bP,e1,e2];rw[iw rfl rfl q];simp_arith[]) _ #[[],[],_,_,_,#[rfl,by simp,λ_ h=>aI h aF,λ_ h=>aI h aF],rfl]
 exact#[jk,jv,Rv,RL,RM,#[l1.l,by have:=l1.b;lia,l1.k,l1.v],h1]
def ab1(n)(sp:B J)(Rj:zl sp=n)(st:B<|Str×J)(hst:∀s∈st,jE n s.2):∃st':B<|Str×J,zl st'=zl st /\
  dK (pG<|.b #v[.a 0,.a 1]) (λ_=>.c L) (pE GT<|.f #v[.a 0,.b (.a 2)<|.a 1]) (C sD st) [S,S,M<|.a L<|C D.b sp]=.c (C sD st'):=by
 have hs:=szl;have q:=pP (g:=pG<|.b #v[.a 0,.a 1]) (e:=pE GT<|.f #v[.a 0,.b (.a 2)<|.a 1]) sD (λO=>∃a b,O=[a,b,M<|.a L<|C D.b sp]) (λy=>∃s:Str×J,True/\y=sD s) st [S,S,M<|.a L<|C D.b sp] #[_,_,rfl] (by
  rintro⟨s,i⟩ hm O ⟨a,b,rfl⟩;let#[v,_,e]:=D4 Rj<|hst (s,i) hm;refine#[[M<|.c s,M<|.b i,M<|.a L<|C D.b sp],sD (s,v),rfl,#[_,_,rfl],?_,(s,v),trivial,rfl];simp_arith[bP,e])
 let#[ys,y1,y2,y3]:=q;let#[st',rfl,_]:=UD y3;exact#[st',by simpa using y2,y1]
theorem aeF:kK=#v[uN,uJ,uT]:=rfl
section
variable(ns:B J) (at_:J) (ha:0<=at_/\at_<=900) (kd rd:D) (wa wb wc:B Str) (lb:zl wb=2) (lc:zl wc=2) (pp:B Pt) (hpp:zl pp<=7) (m:J) (od sp:B J) (a7 a8 QN RL RM:LD D)
include hpp lb lc
theorem af9(n)(n0:0<=n)(k:Nat)(N)(hN:N<60)(jk)(jv)(h:Jn (zl pp) N jk jv)(st:D)(a6:LD D):∃(R0:B<|B Key) (R1:B D) (Rv:LD D),Jn (zl pp) (N+1) R0 R1 /\
  pS GT 1000 uJ (wz (bz ns) kd rd (wD wa wb wc) at_ pp m od sp jk jv a6 a7 a8 (M<|.b k) QN RL RM (M st)<|M<|.b n)=.a (wz (bz ns) kd rd (wD wa wb wc) at_ pp m od sp R0 R1 Rv a7 a8 (M<|.b k) QN RL RM (M st)<|M<|.b n):=by
 have hs:=szl;have up:Jn (zl pp) (N+1) jk jv:=#[h.l,by have:=h.b;lia,h.k,h.v];by_cases c1:(1:J)<(zl pp:J)
 .by_cases c2:(n%3==0)=L
  .have e1:=aU c1;have b2:=dm (n / 18) (b:=2) (by decide);let#[s,hsm,es]:=kE wb (n / 18%2) b2.1 (by lia);have h1:(0:J)<(zl pp:J):=by omega
   have h2:(0:J)<(zl pp:J)-1:=by omega
   let#[R0,R1,l2,q]:=h.put hN s (n / 3%(zl pp:J)) ((n / 3%(zl pp:J)+1+n / 36%((zl pp:J)-1))%(zl pp:J)) (dm _ h1)<|dm _ h1;refine#[R0,R1,M<|.b<|n / 3%(zl pp:J),l2,?_];simp_arith[e_,e1,c2,HK,bQ,es];rw[iw rfl rfl q];simp_arith[]
  .rw[fq]at c2;have e1:=aU c1;refine#[jk,jv,a6,up,?_];simp_arith[e_,e1,c2]
 .have e1:=bM c1;refine#[jk,jv,a6,up,?_];simp_arith[e_,e1]
theorem af_(n)(n0:0<=n)(k:Nat)(jk)(jv)(st:B<|Str×J)(hst:zl st<=60)(a6:LD D):∃st':B<|Str×J,zl st'<=zl st+1 /\
  pS GT 1000 uT (wz (bz ns) kd rd (wD wa wb wc) at_ pp m od sp jk jv a6 a7 a8 (M<|.b k) QN RL RM (M<|.a L<|C sD st)<|M<|.b n)=.a (wz (bz ns) kd rd (wD wa wb wc) at_ pp m od sp jk jv a6 a7 a8 (M<|.b k) QN RL RM (M<|.a L<|C sD st')<|M<|.b n):=by
 have hs:=szl;by_cases c1:(0:J)<(zl pp:J)
 .by_cases c2:(n%2==0)=L
  .have e1:=aU c1;have b2:=dm (n / 20) (b:=2) (by decide);let#[s,hsm,es]:=kE wc (n / 20%2) b2.1 (by lia);have b3:=dm (n / 2) (b:=(zl st:J)+1) (by omega);refine#[st.take (n / 2%((zl st:J)+1)).toNat++(s,n / 40%(zl pp:J))::st.drop (n / 2%((zl st:J)+1)).toNat,by simp;omega,?_];simp_arith[e_,cV,e1,c2,HL,bQ,es];rw[Cs rfl (by rw[hs,aa];lia) rfl];simp_arith[bl,bB,oh,oq]
  .rw[fq]at c2;have e1:=aU c1;refine#[st,by omega,?_];simp_arith[e_,e1,c2]
 .have e1:=bM c1;refine#[st,by omega,?_];simp_arith[e_,e1]
include ha
theorem th_5(jk)(jv)(h:Jn (zl pp) 4 jk jv)(st:B<|Str×J)(hst:zl st<=8)(a6 R7):∃(R0:B<|B Key) (R1:B D) (st':B<|Str×J) (Rv SK Rn:LD D),Jn (zl pp) 6 R0 R1/\zl st'<=10 /\
  QS (pG<|.a 10) (bK GT 1000 kK) (fX 0 2) (wz (bz ns) kd rd (wD wa wb wc) at_ pp m od sp jk jv a6 a7 a8 R7 QN RL RM (M<|.a L<|C sD st) S)=.a (wz (bz ns) kd rd (wD wa wb wc) at_ pp m od sp R0 R1 Rv a7 a8 SK QN RL RM (M<|.a L<|C sD st') Rn):=by
 let#[σ',h1,R0,R1,st',Rv,SK,Rn,l1,l2,rfl]:=iY (g:=pG<|.a 10) (b:=bK GT 1000 kK) 2
  (λk O=>∃(jk:B<|B Key) (jv:B D) (st:B<|Str×J) (a6 R7 Rn:LD D),Jn (zl pp) (4+k) jk jv/\zl st<=8+k/\O=wz (bz ns) kd rd (wD wa wb wc) at_ pp m od sp jk jv a6 a7 a8 R7 QN RL RM (M<|.a L<|C sD st) Rn) (by
  intro k hk O z0;let#[jk,jv,st,a6,R7,Rn,l1,l2,rfl]:=z0;let#[n,n0,n1,qn]:=kX ns (at_+8+(k:J)) (by lia);have hN:pS GT 1000 uN (wz (bz ns) kd rd (wD wa wb wc) at_ pp m od sp jk jv a6 a7 a8 (M<|.b k) QN RL RM (M<|.a L<|C sD st) Rn)=.a (wz (bz ns) kd rd (wD wa wb wc) at_ pp m od sp jk jv a6 a7 a8 (M<|.b k) QN RL RM (M<|.a L<|C sD st)<|M<|.b n):=by
   simp_arith[cQ,qn]
  let#[R0,R1,Rv,x1,hJ]:=af9 ns at_ kd rd wa wb wc lb lc pp hpp m od sp a7 a8 QN RL RM n n0 k (4+k) (by lia) jk jv l1 (.a L<|C sD st) a6;let#[st',y1,hT]:=af_ ns at_ kd rd wa wb wc lb lc pp hpp m od sp a7 a8 QN RL RM n n0 k R0 R1 st (by lia) Rv;refine#[wz (bz ns) kd rd (wD wa wb wc) at_ pp m od sp jk jv a6 a7 a8 (M<|.b k) QN RL RM (M<|.a L<|C sD st) Rn,_,rfl,?_,R0,R1,st',Rv,M<|.b k,M<|.b n,x1,by lia,rfl];rw[aeF,cJ,hN];show bK GT 1000 _ _=_;rw[cJ,hJ];show bK GT 1000 _ _=_;rw[cJ,hT];rfl) _ #[jk,jv,st,_,_,_,h,by omega,rfl]
 exact#[R0,R1,st',Rv,SK,Rn,l1,l2,h1]
end
structure Th where
 ps:B Pt
 js:B J3
 st:B (Str×J)
abbrev fR(t:Th):D:=.d [.a W<|t.ps.map<|cF W,.a W<|C jD t.js,.a W<|C sD t.st]
structure xU (ks:B (Str×Str)) (t:Th):Prop where
 p:∀p∈t.ps,mj ks p
 p7:zl t.ps<=15
 j6:zl t.js<=7
 s10:zl t.st<=11
def mL(o1 o2 o3 ww2)(t):br (.d [.a o1<|t.ps.map<|cF ww2,.a o2<|C jD t.js,.a o3<|C sD t.st])=fR t:=by
 show D.d [.a W<|aD _,.a W<|aD _,.a W<|aD _]=_;rw[e_,dD,cV]
theorem A4{α:Type}{r:R α}:R.cA W r=.d:=rfl
theorem ab2{α β:Type}{f:α->R β}{y:R β}:(R.d:R α).ac f y=y:=rfl
theorem aeG{α β:Type}{a:α}{f:α->R β}{y:R β}:(R.c a:R α).ac f y=f a:=rfl
def ab3(ks)(pp:B Pt)(hpp:∀p∈pp,mj ks p)(od:B J)(h:∀i∈od,jE (zl pp) i):∃qq:B Pt,zl qq=zl od/\(∀p∈qq,mj ks p) /\
  dK (pG<|.a 0) (λ_=>.c L) (pE GT<|.b (.a 1)<|.a 0) (C D.b od) [S,M<|.a L<|pp.map<|cF L]=.c (qq.map<|cF W):=by
 have q:=pP (g:=pG<|.a 0) (e:=pE GT<|.b (.a 1)<|.a 0) D.b (λO=>∃o,O=[o,M<|.a L<|pp.map<|cF L]) (λy=>∃p,mj ks p/\y=cF W p) od [S,M<|.a L<|pp.map<|cF L] #[_,rfl] (by
  rintro i hi O ⟨o,rfl⟩;let#[j,hj,ej,ea]:=jx (pp.map<|cF W) i (h i hi).1 (by rw[aa];exact(h i hi).2);rw[dP]at ea;refine#[[M<|.b i,M<|.a L<|pp.map<|cF L],cF W (pp[j]'(by simpa using hj)),rfl,#[_,rfl],?_,_,hpp _<|cK _,rfl];simp_arith[e_,ea,NP]
  all_goals exact fY R.c (NP W (pp[j]'(by simpa using hj))))
 let#[ys,y1,y2,y3]:=q;let#[qq,rfl,hq]:=UD y3;exact#[qq,by simpa using y2,hq,y1]
def ab4(ns:B J)(at_:J)(ha:0<=at_/\at_<=900)(ks:B<|Str×Str)(hk:vF ks)(wa wb wc:B Str)(la:zl wa=3)(lb:zl wb=2)(lc:zl wc=2)(r:k9)(hr:vG ks r):∃(d:D) (t:Th),lH [bz ns,.b at_,.a W<|bV ks,cB W r,wD wa wb wc]=.c d/\br d=fR t/\xU ks t/\zl t.ps<=7/\zl t.js<=6/\zl t.st<=10:=by
 have hs:=szl;let#[pp,a6,a7,a8,p1,p2,h1]:=th_1 ns at_ ha ks hk wa wb wc la r hr;let#[m,m0,m1,qm]:=kX ns (at_+5) (by lia);have p4:=hr.p.1;have b3:=dm m (b:=3) (by decide);let#[qq,R7,QN,q0,q1,q2,h2]:=th_2 ns at_ ha ks hk wa wb wc la m m0 pp (by lia) p2 (cB W r) a6 a7 a8;let#[od,SK,hod,h3]:=th_3 (bz ns) (.a W<|bV ks) (cB W r) (wD wa wb wc) at_ m m0 qq q1 a6 a7 a8 R7 QN;let#[sp,s1,s2,qs]:=af8 (zl qq) od hod;have up:zl r.ps<=zl qq:=by lia
 let#[jk,jv,Rv,RL,RM,j1,h4]:=th_4 (bz ns) (.a W<|bV ks) (cB W r) (wD wa wb wc) at_ m qq (zl qq) od sp s1 s2 r.js hr.j4 (λj h=>#[(hr.j j h).1.up up,(hr.j j h).2.up up]) a6 a7 a8 SK QN;let#[st,t1,qt]:=ab1 (zl qq) sp s1 r.st λs h=>(hr.s s h).up up;have s8:=hr.s8;let#[R0,R1,st',a6'',ownZ,Rn,j2,t2,h5]:=th_5 ns at_ ha (.a W<|bV ks) (cB W r) wa wb wc lb lc qq q1 m od sp a7 a8 QN RL RM jk jv j1 st (by lia) Rv SK;let#[pf,f1,f2,qf]:=ab3 ks qq q2 od hod.sub;let#[XG,eJ,lJ,mJ]:=Jq R0;let#[js,UL,Yx]:=NL (λq h=>j2.k q (mJ q h):∀q∈XG,Js (zl qq) q);have keepF:=j2.b;have oJ:=Vl (by lia) j2.k;have UZ:zl js<=6:=by rw[UL,aa]at lJ;lia
 rw[UL,z9]at eJ;have oj:bq (C jD js)=L:=by rw[<-z9];exact LU _
 have pg_tup':-(2 ^ 62)<=m%3/\(m%3).toNat<=aj:=by lia
 have pt_val':-(2 ^ 62)<=(zl qq:J)/\(zl qq:J).toNat<=aj:=by lia
 have pg_sub':-(2 ^ 62)<=(2:J)/\(2:J).toNat<=aj:=by lia
 have tok:xU ks ⟨pf,js,st'⟩/\zl pf<=7/\zl js<=6/\zl st'<=10:=#[#[f2,by have:=hod.len;show zl pf<=15;lia,by show zl js<=7;lia,by show zl st'<=11;lia],by have:=hod.len;lia,UZ,t2];unfold lH v5 Bt;unfold HS vI at h3;unfold vI at h1 h2;rw[dZ]at h1;rw[dZ]at h3;generalize kK=B1 at h5 ⊢;generalize kL=B2 at h4 ⊢;generalize kM=B3 at h3 ⊢;generalize kN=B4 at h2 ⊢;generalize kO=o_uv at h1 ⊢;cases ob:bq (pf.map<|cF W)with
 |true=>
  refine#[.d [.a L<|pf.map<|cF W,.a L<|C jD js,.a L<|C sD st'],#[pf,js,st'],?_,mL L L L W #[pf,js,st'],tok];simp_arith[eU,kh,dD,mK,cV,A3];rw[h1];simp_arith[cQ,qm];rw[h2];simp_arith[e_,eN];rw[h3];simp_arith[e_,eN,qs,gT,eU,kh,dD,mK,cV,HQ];rw[h4];simp_arith[eU,kh,dD,mK,cV,HR,qt,zB];rw[show zh 2=2 from rfl,h5];simp_arith[bP,qf,ob,oJ,eJ,oj,zB,aeG]
 |false=>
  refine#[.d [.a L<|pf.map<|cF W,.a L<|C jD js,.a W<|C sD st'],#[pf,js,st'],?_,mL L L W W #[pf,js,st'],tok];simp_arith[eU,kh,dD,mK,cV,A3];rw[h1];simp_arith[cQ,qm];rw[h2];simp_arith[e_,eN];rw[h3];simp_arith[e_,eN,qs,gT,eU,kh,dD,mK,cV,HQ];rw[h4];simp_arith[eU,kh,dD,mK,cV,HR,qt,zB];rw[show zh 2=2 from rfl,h5];simp_arith[bP,qf,ob,oJ,eJ,oj,zB,A4,ab2,cV]
def u6{α:Type}(l:B α)(k:Nat):cut l S (M<|k)=l.take k:=by
 unfold cut;rw[HT.Pj,HT.Mp,JJ,Nat.sub_zero];by_cases h:k<=zl l
 .simp
 .simp
def r_{α:Type}(l:B α)(k:Nat):cut l (M<|k) S=l.drop k:=by
 unfold cut;rw[HT.Pj,HT.Mp];by_cases h:k<=zl l
 .rw[Io h,fP<|by simp]
 .rw[Gk<|by lia,yh,List.take_zero,jG<|by lia]
theorem aeH{Y:B PG}{O:bw}{a:CE}{r:mV}:lP Y (.cons (.v a) r) O=(pE Y (.v a) O).bind λd=>R.cA (aX d) ((lP Y r O).bind λds=>.c (d::ds)):=rfl
def NQ(l:B J3):bq (C jD l)=L:=by rw[<-z9];exact LU _
def Z6(a b:B Pt)(p):bq (C (cF W) a++(cF W p::C (cF W) b))=W:=by
 induction a with
 |nil=>rfl
 |cons x r ih=>
  rfl
abbrev GS:B PG:=[.a d9 []]
abbrev spS(sc:D)(at_:J)(kd:D)(t:Th)(w:D)(n:J)(k:Nat)(q:Str):bw:=
 [M sc,M<|.b at_,M kd,M<|fR t,M w,M<|.a W<|t.ps.map<|cF W,M<|.a W<|C jD t.js,M<|.a W<|C sD t.st,M<|.b n,M<|.b (k:J),M<|.c q,S]
def sp_0(ns)(at_)(ha:0<=at_/\at_<=900)(ks)(hk:vF ks)(w)(hw:br w=w)(t):∃(n:J) (k:Nat) (q:Str),0<=n/\q∈C (·.1) ks/\(t.ps≠[]->k<zl t.ps) /\
  qx [bz ns,.b at_,.a W<|bV ks,fR t,w]=Jb (bK GS 1000 ZY<|spS (bz ns) at_ (.a W<|bV ks) t w n k q):=by
 have hs:=szl;let#[n,n0,n1,qn]:=kX ns at_ (by lia);generalize hM:(if(zl t.ps:J)>1 then(zl t.ps:J)else 1)=R4;have Yt:0<R4:=by rw[<-hM];split<;>lia
 have b8:=dm (n / 8) Yt;let#[k,ek]:=lG b8.1;have kp:(0:J)<(zl ks:J):=by have:=hk.l3;lia
 have b1:=dm (n / 64) kp;let#[j,hj,ej,ea]:=jx (bV ks) (n / 64%(zl ks:J)) b1.1 (by rw[aa];exact b1.2);rw[dP]at ea;generalize hq:ks[j]'(by simpa using hj)=q at ea;refine#[n,k,q.1,n0,bF.mpr #[q,by rw[<-hq];exact cK _,rfl],λhne=>?_,?_]
 .have:=jz.mpr hne;rw[ek]at b8;have vpos:R4=(zl t.ps:J):=by rw[<-hM];split<;>lia
  lia
 .show Jb (bK GS 1000 (.cons _<|.cons _<|.cons _<|.cons _ ZY) _)=_;generalize ZY=RR;simp_arith[e_,dD,cV,cQ,qn,hM,ek,kg,ea,z7,D3,hw]
def aeI(l:B Pt):gJ (.a W<|l.map<|cF W) (.a L [])=l.isEmpty:=by
 cases l<;>rfl
def aga(l:B WN)(n):gA (C jN l) (n+1)=L:=vE jN (n+1) l λ_=>rfl
def agb(l:B Pt)(n):gA (l.map<|cF W) (n+3)=L:=vE _ _ l λp=>by show(L&&(gA (C jN p.2) (n+1)&&L))=L;rw[aga];rfl
def Vo(l:B Pt):dO .Eq (.a W<|l.map<|cF W) (.a L [])=.c (.e l.isEmpty):=by
 have h:dS (.a W<|l.map<|cF W)=L:=agb l 8;rw[Je h rfl,aeI]
def agc(n)(l:B WN):dK (pG<|.b #v[.a 0,.a 1]) (λ_=>.c L) (pE GS<|.f #v[.a 0,.g .Sub (.g .Add (.a 1)<|.g .Mod (.g .FloorDiv (.a 2)<|.c<|.b 64)<|.c<|.b 3)<|.c<|.b 1]) (C jN l) [S,S,M<|.b n]=.c (C jN (l.map λp=>(p.1,p.2+n / 64%3-1))):=by
 have hs:=szl;rw[bG];refine eK jN (λO=>∃a b,O=[a,b,M<|.b n]) (λp=>jN (p.1,p.2+n / 64%3-1)) l _ #[_,_,rfl] ?_;rintro⟨x,y⟩ _ O ⟨a,b,rfl⟩;refine#[[M<|.c x,M<|.b y,M<|.b n],rfl,#[_,_,rfl],?_];simp_arith[]
noncomputable def Ju(t:Th)(k:Nat)(p:Pt):Th:=#[t.ps.take k++p::t.ps.drop (k+1),t.js,t.st]
def ab5{ks:B<|Str×Str}{t:Th}(h:xU ks t){k:Nat}(hk:k<zl t.ps){p:Pt}(hp:mj ks p):xU ks (Ju t k p):=by
 refine#[λq hq=>?_,?_,h.j6,h.s10]
 .rcases bh.mp hq with z|z
  .exact h.p q (Bj z)
  .rcases aO.mp z with z|z
   .rw[z];exact hp
   .exact h.p q (uu z)
 .have:=h.p7;show(t.ps.take k++p::t.ps.drop (k+1)).length<=15;rw[aZ,cX,cM,cR];omega
def agd(t)(k)(p):D.d [.a L (C (cF W) (t.ps.take k)++cF W p::C (cF W) (t.ps.drop<|k+1)),.a W<|C jD t.js,.a W<|C sD t.st]=.d [.a L<|(Ju t k p).ps.map<|cF W,.a W<|C jD (Ju t k p).js,.a W<|C sD (Ju t k p).st]:=by
 unfold Ju;simp
def z_{Y:B PG}{n:Nat}{O:bw}{c:CE}{a r:cC}(h:pT Y c O=.c W):bK Y n (.cons (.b c a .nil) r) O=bK Y n r O:=by
 rw[cJ,xJ,h];rfl
def lsS(ns:B J)(at_:J)(ha:0<=at_/\at_<=900)(ks:B<|Str×Str)(hk:vF ks)(wa wb wc:B Str)(la:zl wa=3)(t:Th)(ht:xU ks t)(h6:zl t.ps<=14):∃(d:D) (t':Th),qx [bz ns,.b at_,.a W<|bV ks,fR t,wD wa wb wc]=.c d/\br d=fR t'/\xU ks t':=by
 have hs:=szl;let#[n,k,q,n0,hq,Sk,q0]:=sp_0 ns at_ ha ks hk (wD wa wb wc) (by show D.d [.a W<|aD _,.a W<|aD _,.a W<|aD _]=_;rw[bQ,bQ,bQ]) t;rw[q0];have j6:=ht.j6;have s10:=ht.s10;have UM:(k:J)+1=((k+1:Nat):J):=by lia
 have lj:zl (t.js.take k)+zl (t.js.drop<|k+1)<=aj:=by rw[cM,cR];omega
 have ls:zl (t.st.take k)+zl (t.st.drop<|k+1)<=aj:=by rw[cM,cR];omega
 have fresh1:zl (C jD (t.js.take k))+zl (C jD (t.js.drop<|k+1))<=aj:=by rw[aa,aa];exact lj
 have ls':zl (C sD (t.st.take k))+zl (C sD (t.st.drop<|k+1))<=aj:=by rw[aa,aa];exact ls
 have ftj:aD ((C jD t.js).take k)=C jD (t.js.take k):=by rw[<-oh,dD]
 have fdj:aD ((C jD t.js).drop<|k+1)=C jD (t.js.drop<|k+1):=by rw[<-oq,dD]
 have fts:aD ((C sD t.st).take k)=C sD (t.st.take k):=by rw[<-oh,cV]
 have fds:aD ((C sD t.st).drop<|k+1)=C sD (t.st.drop<|k+1):=by rw[<-oq,cV]
 have WI:aD ((t.ps.map<|cF W).take k)=C (cF W) (t.ps.take k):=by rw[<-oh,e_]
 have W4:aD ((t.ps.map<|cF W).drop<|k+1)=C (cF W) (t.ps.drop<|k+1):=by rw[<-oq,e_]
 by_cases c0:(n%8==0)=L
 .refine#[.d [.a W<|t.ps.map<|cF W,.a L<|C jD (t.js.take k++t.js.drop (k+1)),.a W<|C sD t.st],#[t.ps,t.js.take k++t.js.drop (k+1),t.st],?_,mL W L W W #[t.ps,t.js.take k++t.js.drop (k+1),t.st],#[ht.p,ht.p7,by show(t.js.take k++t.js.drop (k+1)).length<=7;rw[aZ,cM,cR];omega,ht.s10]];have oj:=NQ<|t.js.take k++t.js.drop (k+1);rw[bl]at oj ⊢;simp_arith[c0,dD,UM,u6,r_,ftj,fdj,oj]
 rw[fq]at c0;rw[z_]
 rotate_left
 .simp_arith[c0]
 by_cases c1:(n%8==1)=L
 .refine#[.d [.a W<|t.ps.map<|cF W,.a W<|C jD t.js,.a L<|C sD (t.st.take k++t.st.drop (k+1))],#[t.ps,t.js,t.st.take k++t.st.drop (k+1)],?_,mL W W L W #[t.ps,t.js,t.st.take k++t.st.drop (k+1)],#[ht.p,ht.p7,ht.j6,by show(t.st.take k++t.st.drop (k+1)).length<=11;rw[aZ,cM,cR];omega]];have os:=zB<|t.st.take k++t.st.drop (k+1);rw[bl]at os ⊢;simp_arith[c1,cV,UM,u6,r_,fts,fds,os]
 rw[fq]at c1;rw[z_]
 rotate_left
 .simp_arith[c1]
 by_cases c2:(n%8==2)=L
 .refine#[.d [.a W<|t.ps.map<|cF W,.a W<|C jD t.js,.a L<|C sD t.st.reverse],#[t.ps,t.js,t.st.reverse],?_,mL W W L W #[t.ps,t.js,t.st.reverse],#[ht.p,ht.p7,ht.j6,by show zl t.st.reverse<=11;rw[oN];exact s10]];have os:=zB t.st.reverse;have er:(C sD t.st).reverse=C sD t.st.reverse:=by rw[nU]
  simp_arith[c2,cV,aeH,er,os]
 rw[fq]at c2;rw[z_]
 rotate_left
 .simp_arith[c2]
 let#[s,sm,es]:=kE wa 0 (by lia) (by lia);by_cases c3:(n%8==3)=L\/t.ps=[]
 .have hpk:mj ks (q,[(s,n / 512%5)]):=#[hq,by unfold vH;simp,by simp];refine#[.d [.a L<|(t.ps++[(q,[(s,n / 512%5)])]).map<|cF W,.a W<|C jD t.js,.a W<|C sD t.st],#[t.ps++[(q,[(s,n / 512%5)])],t.js,t.st],?_,mL L W W W #[t.ps++[(q,[(s,n / 512%5)])],t.js,t.st],#[λp hp=>?_,by show(t.ps++_).length<=15;rw[aZ];simp;omega,ht.j6,ht.s10]]
  .have om:=Z6 t.ps [] (q,[(s,n / 512%5)]);have e3:((if(n%8==3)=L then R.c L else R.c t.ps.isEmpty):R Bool)=.c L:=by
    by_cases c:(n%8==3)=L
    .rw[aH c]
    .rw[aG c,(c3.resolve_left c)];rfl
   have cp:=Vo t.ps;have DltC:bq (C (cF W) t.ps++[D.d [.c q,.a W [.d [.c s,.b<|n / 512%5]]]])=W:=om;have ll:zl (t.ps.map<|cF W)+1<=aj:=by rw[aa];lia
   rw[bl];simp_arith[e_,cp,e3,HJ,bQ,es,DltC,A4,dD,cV];rfl
  .rcases bh.mp hp with z|z
   .exact ht.p p z
   .rw[aK.mp z];exact hpk
 have c3a:(n%8==3)=W:=by
  cases h:(n%8==3)with
  |true=>exact aI (.inl h) c3
  |false=>rfl
 have hne:t.ps≠[]:=λz=>c3<|.inr z;have hkk:=Sk hne;have e3:((if(n%8==3)=L then R.c L else R.c t.ps.isEmpty):R Bool)=.c W:=by
  rw[c3a,aG bY];cases h:t.ps with
  |nil=>exact aI h hne
  |cons _ _=>rfl
 have cp:=Vo t.ps;rw[z_]
 rotate_left
 .simp_arith[e_,cp,e3]
 have ea:bL (t.ps.map<|cF W) (k:J)=M (cF W t.ps[k]):=gh (by rw[aJ,ai hkk];rfl);have hpk:=ht.p t.ps[k]<|cK hkk;generalize t.ps[k]=pk at ea hpk;have fin:∀p:Pt,mj ks p->∃(d:D) (t':Th),R.c (D.d [.a L (C (cF W) (t.ps.take k)++cF W p::C (cF W) (t.ps.drop<|k+1)),.a W<|C jD t.js,.a W<|C sD t.st])=.c d/\br d=fR t'/\xU ks t':=λp hp=>#[_,Ju t k p,rfl,by rw[agd];exact mL L W W W _,ab5 ht hkk hp];have l1:zl ((t.ps.take k).map<|cF W)+1<=aj:=by rw[aa,cM];lia
 have l2:∀x:D,zl (C (cF W) (t.ps.take k)++[x])+zl ((t.ps.drop<|k+1).map<|cF W)<=aj:=λx=>by rw[aZ,aa,cM,aa,cR];simp;omega
 have WM:aD (C jN pk.2)=C jN pk.2:=dj jN (λ_=>rfl) _;have b2:∀x:D,lq .Add (.a L<|C (cF W) (t.ps.take k)++[x]) (.a L<|(t.ps.drop<|k+1).map<|cF W)=.c (.a L<|C (cF W) (t.ps.take k)++(br x::C (cF W) (t.ps.drop<|k+1))):=λx=>by
  rw[nD<|l2 x,rZ,e_,e_,bE];rfl
 have om:=λp=>Z6 (t.ps.take k) (t.ps.drop<|k+1) p;by_cases c4:(n%8==4)=L
 .have hp:mj ks (q,pk.2):=#[hq,hpk.2];let#[d,t',e1,e2,Si]:=fin (q,pk.2) hp;refine#[d,t',pY ?_ e1,e2,Si];have Ue:=om (q,pk.2);simp_arith[c4,e_,UM,u6,r_,WI,W4,ea,Z5,WM,b2,Ue,A4,dD,cV]
 rw[fq]at c4;rw[z_]
 rotate_left
 .simp_arith[c4]
 by_cases c5:(n%8==5)=L
 .have hp:mj ks (pk.1,[]):=#[hpk.1,by unfold vH;simp,by simp];let#[d,t',e1,e2,Si]:=fin (pk.1,[]) hp;refine#[d,t',pY ?_ e1,e2,Si];have Ue:bq (C (cF W) (t.ps.take k)++(D.d [.c pk.1,.a W []]::C (cF W) (t.ps.drop<|k+1)))=W:=om (pk.1,[]);simp_arith[c5,e_,UM,u6,r_,WI,W4,ea,D3,WM,b2,Ue,A4,dD,cV];rfl
 rw[fq]at c5;rw[z_]
 rotate_left
 .simp_arith[c5]
 have e2:C (·.1) (pk.2.map λp=>(p.1,p.2+n / 64%3-1))=C (·.1) pk.2:=by rw[bG];rfl
 have hp:mj ks (pk.1,pk.2.map λp=>(p.1,p.2+n / 64%3-1)):=#[hpk.1,by unfold vH;rw[e2];exact hpk.2.1,by rw[aa];exact hpk.2.2];let#[d,t',e1,e2,Si]:=fin (pk.1,pk.2.map λp=>(p.1,p.2+n / 64%3-1)) hp;refine#[d,t',pY ?_ e1,e2,Si];have Ue:=om (pk.1,pk.2.map λp=>(p.1,p.2+n / 64%3-1));have qc:=agc n pk.2;have rv2:=dj jN (λ_=>rfl)<|pk.2.map λp=>(p.1,p.2+n / 64%3-1);simp_arith[e_,UM,u6,r_,WI,W4,ea,D3,Z5,WM,qc,D0,rv2,b2,Ue,A4,dD,cV]
theorem nq(d):SD br (M d)=M (br d):=rfl
def nM(o)(r):br (cB o r)=cB W r:=by
 show D.d [.a W<|aD _,.a W<|aD _,.a W<|aD _,.a W<|aD _,.a W<|aD _]=_;rw[eU,kh,dD,mK,cV]
def Γp(r):aX (cB L r)=L:=by
 show((L&&bq _)&&((L&&bq _)&&((L&&bq _)&&((L&&bq _)&&((L&&bq _)&&L)))))=L;rw[NJ,YD,NQ,zB];have:bq (C zD r.zs)=L:=by
  induction r.zs with
  |nil=>rfl
  |cons z l ih=>
   show((L&&(L&&(aX (oD z.2.2.1)&&(aX (oD z.2.2.2)&&L))))&&bq (C zD l))=L;rw[ih,FQ,FQ];rfl
 rw[this];rfl
def v7(r):g_ (cB W r) (.b 0)=.c (.a W<|C tS r.ps)/\g_ (cB W r) (.b 1)=.c (.a W<|C cD r.cl)/\g_ (cB W r) (.b 2)=.c (.a W<|C jD r.js)/\g_ (cB W r) (.b 3)=.c (.a W<|C zD r.zs)/\g_ (cB W r) (.b 4)=.c (.a W<|C sD r.st):=by
 have h:∀(k:Nat) (d:D),[D.a W<|C tS r.ps,.a W<|C cD r.cl,.a W<|C jD r.js,.a W<|C zD r.zs,.a W<|C sD r.st][k]?=M d->br d=d->g_ (cB W r) (.b (k:J))=.c d:=λk d e f=>by
  unfold g_;simp only[gh e];show R.c (br d)=_;rw[f]
 exact#[h 0 _ rfl<|nj<|eU _,h 1 _ rfl<|nj<|kh _,h 2 _ rfl<|nj<|dD _,h 3 _ rfl<|nj<|mK _,h 4 _ rfl<|nj<|cV _]
def K1(ks):br (.a W<|bV ks)=.a W (bV ks):=by show D.a W (aD _)=_;rw[kg]
noncomputable abbrev uk(ks:B<|Str×Str):B Key:=ks.map λp=>.inr p.1
noncomputable abbrev uv(ks:B<|Str×Str):B D:=ks.map λp=>.c p.2
theorem Z7:∀{ks:B<|Str×Str},(C (·.1) ks).Nodup->∀(j:Nat) (p),ks[j]?=M p->gq (uk ks) (uv ks) (.inr p.1)=M (.c p.2)
|[],_,j,p,h=>by simp at h
|x::ks,nd,j,p,h=>by
 let#[h1,h2]:=b9.mp (show(x.1::C (·.1) ks).Nodup from nd);show(if(dg x.1:Key)=.inr p.1 then M (D.c x.2)else gq (uk ks) (uv ks) (.inr p.1))=_;cases j with
 |zero=>
  simp at h;rw[h,aH rfl]
 |succ j=>
  have h':ks[j]?=M p:=by simpa using h
  have hm:p.1∈C (·.1) ks:=bF.mpr #[p,dz h',rfl];rw[aG λz=>h1 (by rw[zK z];exact hm)];exact Z7 h2 j p h'
theorem Vp:∀{ks:B<|Str×Str}{a:Str},a∉C (·.1) ks->gq (uk ks) (uv ks) (.inr a)=S
|[],a,_=>rfl
|x::ks,a,h=>by
 have h:a∉x.1::C (·.1) ks:=h;show(if(dg x.1:Key)=.inr a then M (D.c x.2)else gq (uk ks) (uv ks) (.inr a))=_;rw[aG λz=>h (by rw[zK z];exact aB)];exact Vp λz=>h<|aq _ z
theorem Qm:∀ks:B<|Str×Str,o8 (bV ks)=M (ks.map λp=>((dg p.1:Key),D.c p.2))
|[]=>rfl
|p::ks=>by
 show(TJ<|z7 p).bind _=_;have:TJ (z7 p)=M ((dg p.1:Key),D.c p.2):=rfl;rw[this];rw[Qm ks];rfl
def K4{l:B Str}(h:l.Nodup):(C (dg:Str->Key) l).Nodup:=kc.mpr<|h.imp λhne z=>hne<|zK z
def aeJ{ks:B<|Str×Str}(nd:(C (·.1) ks).Nodup)(o):h_ .b [.a o<|bV ks]=.c (.g L (uk ks)<|uv ks):=by
 show(R.ab<|o8<|bV ks).bind _=_;rw[Qm];show R.cA (decide (C (·.1) (ks.map λp=>((dg p.1:Key),D.c p.2))).Nodup) _=_;have e:C (·.1) (ks.map λp=>((dg p.1:Key),D.c p.2))=C dg (ks.map (·.1)):=by simp
 rw[aU (by rw[e];exact K4 nd)];rw[bG,bG];show R.c (D.g L (uk ks)<|aD<|uv ks)=_;rw[dj _ λ_=>rfl]
theorem Vq:∀(l) (a),a∉C (·.1) l->fh l a=[a]
|[],a,_=>rfl
|p::r,a,h=>by
 rw[show fh (p::r) a=fh r a from aG λz=>h (by rw[<-z.1];exact aB)];exact Vq r a λz=>h<|aq _ z
def ab6(ks)(hk:vF ks)(x y):∀(RJ skip) (pre) (a) (fuel),ks.reverse=skip++RJ->RJ.length<fuel->zl pre+RJ.length<=12->(a∈ks.map (·.1)->a∈RJ.map (·.1))->
  tR (pT [] ZT) (bK [] 1000 jB) fuel [x,y,M<|.g L (uk ks)<|uv ks,M<|.a L<|(pre++[a]).map D.c]=.a [x,y,M<|.g L (uk ks)<|uv ks,M<|.a L<|(pre++fh RJ a).map D.c]:=by
 have hs:=szl;have WK:aD (uv ks)=uv ks:=dj _ (λ_=>rfl) _;have stop:∀(pre:B Str) (a:Str) (f:Nat),uU .b (.g W (uk ks)<|uv ks) [.c a,.c ""]=.c (.c "")->tR (pT [] ZT) (bK [] 1000 jB) (f+1) [x,y,M<|.g L (uk ks)<|uv ks,M<|.a L<|(pre++[a]).map D.c]=.a [x,y,M<|.g L (uk ks)<|uv ks,M<|.a L<|(pre++[a]).map D.c]:=λpre a f eg=>by
  have ea:bL ((pre++[a]).map D.c) (-1)=M (.c a):=by rw[bl];exact xw (pre.map D.c)<|.c a
  have e:(nA ""==nA "")=L:=by simp
  show(pT _ _ _).bH _=_;simp_arith[WK,bQ,ea,eg,e,dR]
 have eg:∀{a u:Str},gq (uk ks) (uv ks) (.inr a)=M (.c u)->uU .b (.g W (uk ks)<|uv ks) [.c a,.c ""]=.c (.c u):=λ{a u} h=>by
  show R.c (br<|(gq (uk ks) (uv ks)<|.inr a).getD<|.c "")=_;rw[h];rfl
 intro RJ;induction RJ with
 |nil=>
  intro skip pre a fuel _ hf _ hm;obtain⟨f,rfl⟩:∃f,fuel=f+1:=#[fuel-1,by lia];exact stop pre a f (by
   show R.c (br<|(gq (uk ks) (uv ks)<|.inr a).getD<|.c "")=_;rw[Vp λz=>aI (hm z) aF];rfl)
 |cons p r ih=>
  intro skip pre a fuel e hf hl hm;have e':ks.reverse=(skip++[p])++r:=by rw[e,bE];rfl
  have ek:ks=r.reverse++p::skip.reverse:=by simp_all
  have hp:ks[zl r]?=M p:=by simp_all
  have tk:(ks.map (·.1)).take (zl r)=r.reverse.map (·.1):=by rw[ek,bl,List.take_left'<|by simp]
  by_cases c:p.1=a
  .subst c;have gu:=Z7 hk.nd (zl r) p hp;have gd:=hk.gd (zl r) p hp;rw[tk,nU,sA]at gd;obtain⟨f,rfl⟩:∃f,fuel=f+1:=#[fuel-1,by lia];by_cases hu:p.2=""
   .rw[hu]at gu;rw[show fh (p::r) p.1=fh r p.1 from aG λz=>z.2 hu,Vq r p.1 λz=>by
     have nd:=hk.nd;rw[ek,bl,cL]at nd;exact nd.2.2 p.1 (by rw[nU,sA];exact z) p.1 aB rfl]
    exact stop pre p.1 f<|eg gu
   .have e0:(p.2==nA "")=W:=by rw[dM];exact hu
    rw[show fh (p::r) p.1=p.1::fh r p.2 from aH #[rfl,hu]];have r2:=ih (skip++[p]) (pre++[p.1]) p.2 f e' (by simp_all) (by simp at hl ⊢;lia) λ_=>gd.resolve_left hu;rw[bE pre,bE pre]at r2;refine pY ?_ r2;rw[<-bE];have ei:g_ (.g W (uk ks)<|uv ks) (.c p.1)=.c (.c p.2):=by
     have:=FJ (o:=W) (ks:=uk ks) (xs:=uv ks) (k:=.inr p.1);rw[gu]at this;exact this
    have eg:=eg gu;have ea:bL ((pre++[p.1]).map D.c) (-1)=M (.c p.1):=by rw[bl];exact xw (pre.map D.c)<|.c p.1
    have hl2:zl ((pre++[p.1]).map D.c)<aj:=by simp at hl ⊢;lia
    rw[bl (l₁:=pre++[p.1])];generalize p.1=a at *;generalize p.2=u at *;show(pT _ _ _).bH _=_;simp_arith[WK,bQ,ea,eg,e0,eu];show(match bK [] 1000 jB _ with|.a σ3=>_|.d σ3=>_|.e σ3=>_|.c d=>_|.b=>_)=_;unfold jB;simp_arith[WK,bQ,ea,ei];rw[iu (xs:=(pre++[a]).map D.c) rfl hl2 rfl];simp_arith[]
  .rw[show fh (p::r) a=fh r a from aG λz=>c z.1];refine ih (skip++[p]) pre a fuel e' (by simp at hf;lia) (by simp at hl;lia) λz=>?_;rcases aO.mp (hm z)with q|q
   .exact aI q.symm c
   .exact q
def σ6(ks):bq (uv ks)=L:=oM (λ_=>rfl) ks
def OY(ks)(hk:vF ks)(a):qW [.a W<|bV ks,.c a]=.c (.a L<|C D.c (fh ks.reverse a)):=by
 have hs:=szl;have l8:=hk.l8;have q:=ab6 ks hk (M<|.a W<|bV ks) (M<|.c a) ks.reverse [] [] a 1000 rfl (by simp;lia) (by simp;lia) (λh=>by rw[nU,sA];exact h);have hd:=aeJ hk.nd W;have q':tR (pT [] ZT) (bK [] 1000 jB) 1000 [M<|.a W<|bV ks,M<|.c a,M<|.g L (uk ks)<|uv ks,M<|.a L [.c a]]=_:=q;unfold qW zu;generalize jB=QJ at q' ⊢;rw[show EN=[]from rfl];simp_arith[hd,kg,σ6,q',lY]
def aeK{Y:B PG}(js:B<|B Key):dK (pG<|.a 0) (λ_=>.c L) (pE Y<|.f #v[.a 0,.c<|.c L]) (C tK js) [S]=.c (js.map λk=>.d [tK k,.e L]):=by
 have hs:=szl;refine eK tK (λO=>∃o,O=[o]) (λk=>D.d [tK k,.e L]) js _ #[_,rfl] ?_;rintro k _ O ⟨o,rfl⟩;have f:=(qD _ 0<|Jp k 0).1;refine#[[M<|tK k],rfl,#[_,rfl],?_];simp_arith[f]
def ab7(js:B<|B Key):qR (js.map λk=>.d [tK k,.e L])=M (js.map λk=>(k,.e L)):=by
 induction js with
 |nil=>rfl
 |cons k r ih=>
  show(DO<|.d [tK k,.e L]).bind _=_;have e:DO (.d [tK k,.e L])=M (k,.e L):=by
   show(iD<|tK k).map _=_;rw[ab0];rfl
  rw[e];rw[ih];rfl
def NR{ks:B<|B Key}{q:B Key}:gw ks q=L↔q∈ks:=by
 unfold gw;simp
theorem FT:∀(ps) (ks:B<|B Key) (xs),zl ks=zl xs->
 (fW ks xs ps).1.length=(fW ks xs ps).2.length/\(fW ks xs ps).1.length<=zl ks+zl ps/\(∀k,k∈(fW ks xs ps).1↔k∈ks\/k∈C (·.1) ps)/\∀d∈(fW ks xs ps).2,d∈xs\/d∈C (·.2) ps
|[],ks,xs,h=>#[h,by simp[fW],λk=>by simp[fW],λd hd=>.inl hd]
|p::r,ks,xs,h=>by
 unfold fW;by_cases c:gw ks p.1=L
 .rw[aH c];let#[a1,a2,a3,a4]:=FT r ks (jA ks xs p.1 p.2) (FO h).symm;refine#[a1,by simp;lia,λk=>?_,λd hd=>?_]
  .rw[a3,bB,aO];exact#[λh=>h.imp id .inr,λh=>h.elim .inl λh=>h.imp (λe=>by rw[e];exact NR.mp c) id]
  .rcases a4 d hd with q|q
   .rcases FP q with z|z
    .exact .inr (by simp[z])
    .exact .inl z
   .exact .inr (by simp at q ⊢;exact .inr q)
 .rw[aG c];let#[a1,a2,a3,a4]:=FT r (ks++[p.1]) (xs++[p.2]) (by simp[h]);refine#[a1,by simp at a2 ⊢;lia,λk=>?_,λd hd=>?_]
  .rw[a3,bB,aO,bh,aK,or_assoc]
  .rcases a4 d hd with q|q
   .rcases bh.mp q with z|z
    .exact .inl z
    .exact .inr (by simp at z;simp[z])
   .exact .inr (by simp at q ⊢;exact .inr q)
def XW(k:B Key):Prop:=∃(s w:Str) (i:J),k=[.inr s,.inr w,.inl i]
structure K5 (N:Nat) (R4 mk:B (B Key)) (mv:B D):Prop where
 l:zl mk=zl mv
 b:zl mk<=N
 k:∀q∈mk,XW q
 v:∀d∈mv,d=.e L
 m:∀q,q∈mk↔q∈R4
def K5.put{N:Nat}{R4 mk:B<|B Key}{mv:B D}(h:K5 N R4 mk mv)(hN:N<100)(s w)(i):∃mk' eZ,K5 (N+1) (R4++[[.inr s,.inr w,.inl i]]) mk' eZ/\S6 (.f L mk mv) (.e L) (.d [.c s,.c w,.b i])=M (.f L mk' eZ):=by
 have hs:=szl;have hb:=h.b;let#[R0,R1,Sn,g1,g2,g3,g4]:=LS (d:=.e L) (j:=.d [.c s,.c w,.b i]) h.l (by lia) rfl rfl;refine#[R0,R1,#[g1,by lia,λq hq=>?_,λy hy=>?_,λq=>by rw[g3,h.m,bh,aK,or_comm]],Sn]
 .rcases(g3 q).mp hq with z|z
  .exact#[s,w,i,z]
  .exact h.k q z
 .rcases g4 y hy with z|z
  .exact z
  .exact h.v y z
noncomputable abbrev Vr(js:B J3):B (B Key):=js.flatMap λj=>[[.inr "from",.inr j.1,.inl j.2.1],[.inr "to",.inr j.1,.inl j.2.2]]
abbrev NS(js:B J3)(st:B<|Str×J):B (B Key):=Vr js++st.map λs=>[.inr "then",.inr s.1,.inl s.2]
noncomputable abbrev mS(a b:D)(mk:B<|B Key)(mv:B D)(x y z:LD D):bw:=[M a,M b,M<|.f L mk mv,x,y,z]
def Qn(js)(st)(hj:zl js<=20)(hst:zl st<=20):∃mk mv,K5 60 (NS js st) mk mv/\nJ [.a W<|js.map jD,.a W<|st.map sD]=.c (.f L mk mv):=by
 have hs:=szl;let#[σ',h1,mk,mv,x,y,z,l1,rfl]:=K2.lW (g:=pG<|.b #v[.a 3,.a 4,.a 5]) (b:=bK [] 1000 rN) jD js
  (λpre O=>∃(mk:B<|B Key) (mv:B D) (x y z:LD D),K5 (2*zl pre) (Vr pre) mk mv/\O=mS (.a W<|js.map jD) (.a W<|st.map sD) mk mv x y z) (by
  rintro pre ⟨s,i,j⟩ post e O ⟨mk,mv,x,y,z,l1,rfl⟩;have hpre:zl pre<20:=by rw[e]at hj;simp at hj;lia
  let#[mk1,Wt,l2,q1]:=l1.put (by lia) "from" s i;let#[mk2,V9,l3,q2]:=l2.put (by lia) "to" s j;refine#[mS (.a W<|js.map jD) (.a W<|st.map sD) mk mv (M<|.c s) (M<|.b i)<|M<|.b j,mS (.a W<|js.map jD) (.a W<|st.map sD) mk2 V9 (M<|.c s) (M<|.b i)<|M<|.b j,rfl,?_,mk2,V9,_,_,_,#[l3.l,by have:=l3.b;simp;omega,l3.k,l3.v,λq=>by rw[l3.m,bE,show Vr (pre++[(s,i,j)])=Vr pre++Vr [(s,i,j)]from BP];rfl],rfl];unfold rN mS;simp_arith[];rw[iw rfl rfl q1];simp_arith[];rw[iw rfl rfl q2];simp_arith[]) (mS (.a W<|js.map jD) (.a W<|st.map sD) [] [] S S S) #[[],[],_,_,_,#[rfl,by simp,λ_ h=>aI h aF,λ_ h=>aI h aF,λ_=>.rfl],rfl]
 let#[σ2,h2,mk2,V9,x2,y2,l2,rfl]:=K2.lW (g:=pG<|.b #v[.a 3,.a 4]) (b:=bK [] 1000 rM) sD st
  (λpre O=>∃(mk:B<|B Key) (mv:B D) (x y:LD D),K5 (40+zl pre) (NS js pre) mk mv/\O=mS (.a W<|js.map jD) (.a W<|st.map sD) mk mv x y z) (by
  rintro pre ⟨s,i⟩ post e O ⟨mk,mv,x,y,l1,rfl⟩;have hpre:zl pre<20:=by rw[e]at hst;simp at hst;lia
  let#[mk1,Wt,l2,q1]:=l1.put (by lia) "then" s i;refine#[mS (.a W<|js.map jD) (.a W<|st.map sD) mk mv (M<|.c s) (M<|.b i) z,mS (.a W<|js.map jD) (.a W<|st.map sD) mk1 Wt (M<|.c s) (M<|.b i) z,rfl,?_,mk1,Wt,_,_,#[l2.l,by have:=l2.b;simp;omega,l2.k,l2.v,λq=>by rw[l2.m];simp],rfl];unfold rM mS;simp_arith[];rw[iw rfl rfl q1];simp_arith[]) (mS (.a W<|js.map jD) (.a W<|st.map sD) mk mv x y z) #[mk,mv,x,y,#[l1.l,by have:=l1.b;lia,l1.k,l1.v,by simpa[NS]using l1.m],rfl]
 refine#[mk2,V9,#[l2.l,by have:=l2.b;lia,l2.k,l2.v,l2.m],?_];unfold nJ AV;generalize rM=B1 at h2 ⊢;generalize rN=B2 at h1 ⊢;rw[show Ho=[]from rfl];simp_arith[dD];rw[h1];simp_arith[cV];rw[h2];simp_arith[]
structure Ry where
 sz:B (B WN)
 up:B (B Str)
 jk:B (B Key)
 jv:B D
 st:B (Str×J)
 km:B (B Key)
 vm:B D
noncomputable abbrev nE:B Str:=["sizes","uppers","joins","steps","marks"]
abbrev j9(o:Bool)(l:B WN):D:=.g o (wk l)<|wv l
noncomputable abbrev vJ(o:Bool)(l:B Str):D:=.a o<|C D.c l
abbrev eT(r:Ry):D:=.i W 36 nE [.a W<|r.sz.map<|j9 W,.a W<|r.up.map<|vJ W,.f W r.jk r.jv,.a W<|C sD r.st,.f W r.km r.vm]
structure nN (ks:B (Str×Str)) (t:Th) (r:Ry):Prop where
 sz:r.sz=C (·.2) t.ps
 up:r.up=t.ps.map λp=>fh ks.reverse p.1
 st:r.st=t.st
 l7:zl t.ps<=15
 s:zl t.st<=11
 jk:∀k,k∈r.jk↔k∈C jK t.js
 jv:∀d∈r.jv,d=.e L
 m:K5 60 (NS t.js t.st) r.km r.vm
abbrev Z8:B PG:=[.b 36 nE,.a nJ [],.a qW []]
theorem Qo:∀l:B WN,o8 (C jN l)=M (l.map λp=>((dg p.1:Key),D.b p.2))
|[]=>rfl
|p::l=>by
 show(TJ<|jN p).bind _=_;have:TJ (jN p)=M ((dg p.1:Key),D.b p.2):=rfl;rw[this];rw[Qo l];rfl
def Vs{l:B WN}(nd:vH l)(o):h_ .b [.a o<|C jN l]=.c (j9 L l):=by
 show(R.ab<|o8<|C jN l).bind _=_;rw[Qo];show R.cA (decide (C (·.1) (l.map λp=>((dg p.1:Key),D.b p.2))).Nodup) _=_;have e:C (·.1) (l.map λp=>((dg p.1:Key),D.b p.2))=C dg (l.map (·.1)):=by simp
 rw[aU (by rw[e];exact K4 nd)];rw[bG,bG];show R.c (D.g L (wk l)<|aD<|wv l)=_;rw[HM]
def ab8(ks)(ps:B Pt)(h:∀p∈ps,mj ks p):dK (pG<|.b #v[.a 0,.a 1]) (λ_=>.c L) (pE Z8<|.h .b #v[.a 1]) (ps.map<|cF W) [S,S]=.c ((C (·.2) ps).map<|j9 L):=by
 rw[bG];refine eK (cF W) (λO=>∃a b,O=[a,b]) (λp=>j9 L p.2) ps _ #[_,_,rfl] ?_;rintro⟨x,l⟩ hm O ⟨a,b,rfl⟩;refine#[[M<|.c x,M<|.a W<|C jN l],rfl,#[_,_,rfl],?_];have q:=Vs (h (x,l) hm).2.1 W;have f:aD (C jN l)=C jN l:=dj jN (λ_=>rfl) _;simp_arith[f,q]
def ab9(ks)(hk:vF ks)(ps:B Pt):dK (pG<|.b #v[.a 0,.a 1]) (λ_=>.c L) (pE Z8<|.e 2 #v[.a 2,.a 0]) (ps.map<|cF W) [S,S,M<|.a W<|bV ks]=.c ((ps.map λp=>fh ks.reverse p.1).map<|vJ L):=by
 rw[bG];refine eK (cF W) (λO=>∃a b,O=[a,b,M<|.a W<|bV ks]) (λp=>vJ L<|fh ks.reverse p.1) ps _ #[_,_,rfl] ?_;rintro⟨x,l⟩ hm O ⟨a,b,rfl⟩;have qr:=OY ks hk x;refine#[[M<|.c x,M<|.a W<|C jN l,M<|.a W<|bV ks],rfl,#[_,_,rfl],?_];simp_arith[kg,qr]
def sf{O:bw}{f:Str}{n:B Str}{xs:B D}{d:D}(h:O[0]?=M (M<|.i L 36 n xs))(hf:f∈nE/\f∉n/\zl n<1000):DU (M<|.b 36 nE) 0 f O d=.a (O.set 0<|M<|.i L 36 (n++[f])<|xs++[d]):=by
 unfold DU;rw[h];show(if _ then _ else _)=_;rw[aH #[hf.1,rfl,hf.2]]
def YF(l):bq (wv l)=L:=oM (λ_=>rfl) l
def zk'(l:B<|B WN):bq (l.map<|j9 L)=L:=oM (λx=>by show(L&&bq (wv x))=L;rw[YF];rfl) l
def σ0(l:B<|B Str):bq (l.map<|vJ L)=L:=oM (λx=>by show(L&&bq (C D.c x))=L;rw[j8];rfl) l
def HU(o)(l:B<|B WN):aD (l.map<|j9 o)=C (j9 W) l:=Qg (λx=>by show D.g W (wk x) (aD<|wv x)=_;rw[HM]) l
def Aa(o)(l:B<|B Str):aD (l.map<|vJ o)=C (vJ W) l:=Qg (λx=>by show D.a W (aD _)=_;rw[bQ]) l
def sO{l:B D}(h:∀d∈l,d=.e L):aD l=l:=by
 induction l with
 |nil=>rfl
 |cons x r ih=>
  show br x::aD r=_;rw[ih λd hd=>h d<|aq _ hd,h x aB];rfl
def NU{l:B D}(h:∀d∈l,d=.e L):bq l=L:=by
 induction l with
 |nil=>rfl
 |cons x r ih=>
  show(aX x&&bq r)=L;rw[ih λd hd=>h d<|aq _ hd,h x aB];rfl
theorem th_a(x y z:D):bL [x,y,z] 0=M x:=rfl
def ab_(ks)(hk:vF ks)(t)(ht:xU ks t):∃(d:D) (r:Ry),nN ks t r/\xd [.a W<|bV ks,fR t]=.c d/\br d=eT r:=by
 have hs:=szl;have qs:=ab8 ks t.ps ht.p;have qu:=ab9 ks hk t.ps;have j6:=ht.j6;have s10:=ht.s10;let#[mk,mv,hm,qm]:=Qn t.js t.st (by lia) (by lia);have qj:=aeK (Y:=Z8)<|C jK t.js;rw[z9]at qj;have pj:=ab7<|C jK t.js;have mi:=FT ((C jK t.js).map λk=>(k,D.e L)) [] [] rfl;generalize hM:fW [] [] ((C jK t.js).map λk=>(k,D.e L))=R4 at mi;let#[jk,jv]:=R4;let#[m1,m2,m3,m4]:=mi;have Wf:∀d∈jv,d=.e L:=λd hd=>by
  rcases m4 d hd with z|z
  .simp_all
  .simp_all
 have Yj:=sO Wf;have ojv:=NU Wf;have VH:=NU hm.v;have qd:h_ .j [.a L<|(C jK t.js).map λk=>D.d [tK k,.e L]]=.c (.f L jk jv):=by
  rw[ED pj,hM];rw[Yj]
 have oj:bq ((C jK t.js).map λk=>D.d [tK k,.e L])=L:=by
  induction t.js with
  |nil=>rfl
  |cons x r ih=>exact ih
 refine#[.i L 36 nE [.a L ((C (·.2) t.ps).map<|j9 L),.a L<|(t.ps.map λp=>fh ks.reverse p.1).map<|vJ L,.f L jk jv,.a W<|C sD t.st,.f L mk mv],#[C (·.2) t.ps,t.ps.map λp=>fh ks.reverse p.1,jk,jv,t.st,mk,mv],#[rfl,rfl,rfl,ht.p7,s10,λk=>by rw[m3,bG];simp,Wf,hm],?_,?_]
 .have op_rep':aX (.a W<|C sD t.st)=W:=rfl;have UJ:=th_a;unfold xd Jg Qd;show RG (bK Z8 1000 _ [M<|.i L 36 [] [],M<|.a W<|bV ks,M<|fR t])=_;simp_arith[e_,dD,cV,HJ,qs,zk'];rw[sf rfl<|by decide];simp_arith[e_,dD,cV,HJ,kg,qu,σ0];rw[sf rfl<|by decide];simp_arith[e_,dD,cV,HK,qj,oj,qd,ojv];rw[sf rfl<|by decide];simp_arith[e_,dD,cV,HL,nq];rw[sf rfl<|by decide];simp_arith[e_,dD,cV,HK,HL,qm,VH];rw[sf rfl<|by decide];rfl
 .show D.i W 36 nE [.a W<|aD _,.a W<|aD _,.f W jk<|aD jv,.a W<|aD _,.f W mk<|aD mv]=_;rw[HU,Aa,Yj,cV,sO hm.v]
theorem Vf{α:Type}(f:α->D):∀(l:B α) (n),iW n (C f l)=(l.zipIdx n).map λp=>D.d [.b (p.2:J),f p.1]
|[],_=>rfl
|x::l,n=>by
 show D.d [.b (n:J),f x]::iW (n+1) (C f l)=_;rw[Vf f l<|n+1];rfl
def oF{β:Type}{g:D->bw->R bw}{b:bw->Fl}(enc:β->D)(T:D->Prop)(xs)(I:B β->bw->Prop)(h:∀pre x,(∃post,xs=pre++x::post)->∀O,I pre O->∃σ2,g (enc x) O=.c σ2/\((∃σ3,b σ2=.a σ3/\I (pre++[x]) σ3)\/∃d,b σ2=.c d/\T d))(O:bw)(h0:I [] O):(∃σ',QS g b (C enc xs) O=.a σ'/\I xs σ')\/∃d,QS g b (C enc xs) O=.c d/\T d:=by
 have go:∀(post pre:B β) (O:bw),xs=pre++post->I pre O->(∃σ',QS g b (C enc post) O=.a σ'/\I xs σ')\/∃d,QS g b (C enc post) O=.c d/\T d:=by
  intro post;induction post with
  |nil=>intro pre O e hi;rw[e,ee];exact .inl #[O,rfl,hi]
  |cons x r ih=>
   intro pre O e hi;let#[σ2,h1,h2]:=h pre x #[r,e] O hi;have e2:QS g b (C enc (x::r)) O=(match b σ2 with
    |.a σ3=>QS g b (C enc r) σ3
    |.d σ3=>QS g b (C enc r) σ3
    |.e σ3=>.a σ3
    |.c d=>.c d
    |.b=>.b):=by
    show(g (enc x) O).bH _=_;rw[h1];rfl
   rw[e2];rcases h2 with⟨σ3,h3,h4⟩|⟨d,h3,h4⟩
   .rw[h3];exact ih (pre++[x]) σ3 (by rw[e,bE];rfl) h4
   .rw[h3];exact .inr #[d,rfl,h4]
 exact go xs [] O rfl h0
def qZ{β:Type}{xs pre:B β}{x:β}(h:∃post,xs=pre++x::post):x∈xs:=by grind
def Ab(l:B J):jw (C D.b l)=L:=vE D.b 12 l λ_=>rfl
def D5{β:Type}{f:β->D}{x:β}(h:∀y,gJ (f y) (f x)=L↔y=x)(l:B β):acM (f x) (C f l)=L↔x∈l:=by
 unfold acM;rw[pZ,fm];exact#[λqq=>by let#[y,hy,e]:=qq;exact((h y).mp e)▸hy,λhx=>#[x,hx,(h x).mpr rfl]]
def LX(a)(l:B Str):acM (.c a) (C D.c l)=L↔a∈l:=D5 (λy=>by show(y==a)=L↔_;exact gX) l
def D6(a)(l:B J):acM (.b a) (C D.b l)=L↔a∈l:=D5 (λy=>by show(y==a)=L↔_;exact gX) l
def pQ(up:B<|B Str)(told:B Str)(i:J):Prop:=∃(j:Nat) (row:B Str),i=(j:J)/\up[j]?=M row/\∃s∈row,s∈told
def Ac{β:Type}(p:β->Bool)(l:B β):(l.map λx=>D.e<|p x).any vf=l.any p/\(l.map λx=>D.e<|p x).all rH=L/\(l.map λx=>D.e<|p x).all vf=l.all p:=by
 induction l with
 |nil=>simp
 |cons x r ih=>
  simp only[bB,rQ,wo,ih.1,ih.2.1,ih.2.2];cases p x<;>exact#[rfl,rfl,rfl]
def aeM(told)(row:B Str):dK (pG<|.a 0) (λ_=>.c L) (pE []<|.d .In (.a 0)<|.a 1) (C D.c row) [S,M<|tS told]=.c (row.map λs=>.e<|acM (.c s)<|C D.c told):=by
 refine eK D.c (λO=>∃o,O=[o,M<|tS told]) _ row _ #[_,rfl] ?_;rintro s hs O ⟨o,rfl⟩;refine#[[M<|.c s,M<|tS told],rfl,#[_,rfl],?_];have nn:=DZ told;simp_arith[bQ];rw[Nj rfl nn]
def Qp(up)(hu:zl up<=15)(told):∃l:B J,(∀i,i∈l↔pQ up told i)/\zl l<=zl up/\l.Pairwise (·<·)/\jV [.a W<|up.map<|vJ W,tS told]=.c (.a L<|l.map D.b):=by
 have hs:=szl;have y1:=pq (g:=pG<|.b #v[.a 0,.a 1]) (c:=pT []<|.h .c #v[.j ["kind"] [2] (.d .In (.a 0)<|.a 1) (.a 0) (.a<|.a 1) .none]) (e:=pE []<|.a 0) (λp:B Str×Nat=>D.d [.b (p.2:J),vJ W p.1]) (λO=>∃a b,O=[a,b,M<|tS told]) (λp=>p.1.any λs=>acM (.c s)<|told.map D.c) (λp=>D.b (p.2:J)) up.zipIdx [S,S,M<|tS told] #[_,_,rfl] (by
  rintro⟨row,i⟩ hm O ⟨a,b,rfl⟩;have y1:=aeM told row;let#[e1,e2,_]:=Ac (λs=>acM (.c s)<|told.map D.c) row;refine#[[M<|.b (i:J),M<|vJ W row,M<|tS told],rfl,#[_,_,rfl],?_,?_]
  .simp_arith[bQ,y1,e1,e2]
  .simp_arith[])
 have hp:up.zipIdx.Pairwise λa b=>a.2<b.2:=(kc).mp (by rw[List.zipIdx_map_snd];exact List.pairwise_lt_range');refine#[(up.zipIdx.filter λp=>p.1.any λs=>acM (.c s)<|told.map D.c).map λp=>(p.2:J),λi=>?_,?_,kc.mpr<|(hp.filter _).imp λh=>Ox.mpr h,?_]
 .rw[bF];constructor
  .intro z0;let#[#[row,j],h,rfl]:=z0;let#[h1,h2]:=i9.mp h;let#[s,hs1,hs2]:=fm.mp h2;exact#[j,row,rfl,sY.mp h1,s,hs1,(LX _ _).mp hs2]
  .intro z0;let#[j,row,rfl,h1,s,hs1,hs2]:=z0;exact#[(row,j),i9.mpr #[sY.mpr h1,fm.mpr #[s,hs1,(LX _ _).mpr hs2]],rfl]
 .rw[aa];exact cu (sX _ _)<|by simp
 .rw[<-Vf,show(λp:B Str×Nat=>D.b (p.2:J))=D.b∘(λp=>(p.2:J))from rfl,<-bG]at y1;unfold jV vZ;rw[show Bs=[]from rfl];simp_arith[Aa,y1,gT]
abbrev gK(o:Bool)(c:B J×B J):D:=.d [tI c.1,.a o<|C D.b c.2]
def pR(o)(l:B<|B J×B J):aD (l.map<|gK o)=C (gK W) l:=Qg (λx=>by show D.d [.d<|aD _,.a W<|aD _]=_;rw[bP,bP]) l
def aeN(iG l:B J):dK (pG<|.a 0) (pT []<|.d .NotIn (.a 0)<|.a 1) (pE []<|.a 0) (C D.b l) [S,M<|.a W<|C D.b iG]=.c (C D.b (l.filter λi=>!acM (.b i) (iG.map D.b))):=by
 refine pq D.b (λO=>∃o,O=[o,M<|.a W<|C D.b iG]) (λi=>!acM (.b i) (C D.b iG)) D.b l _ #[_,rfl] ?_;rintro i _ O ⟨o,rfl⟩;have nn:=Ab iG;refine#[[M<|.b i,M<|.a W<|C D.b iG],rfl,#[_,rfl],?_,?_]
 .have e:dO .NotIn (.b i) (.a W<|C D.b iG)=.c (.e<|!acM (.b i) (C D.b iG)):=mh rfl nn;simp_arith[bP,e]
 .simp_arith[]
def aeO(cl:B<|B J×B J)(l)(i):∃(o:Bool) (l':B J),l'.Sublist l/\(∀x,x∈l'↔x∈l/\∀c∈cl,i∉c.1->x∉c.2)/\t9 [.a W<|cl.map<|gK W,.a W<|C D.b l,.b i]=.c (.a o<|C D.b l'):=by
 have hs:=szl;let#[σ',h1,o,l',a,b,g1,g2,rfl]:=K2.lW (g:=pG<|.b #v[.a 3,.a 4]) (b:=bK [] 1000 rO) (gK W) cl
  (λpre O=>∃(o:Bool) (l':B J) (a b:LD D),l'.Sublist l/\(∀x,x∈l'↔x∈l/\∀c∈pre,i∉c.1->x∉c.2)/\O=[M<|.a W<|cl.map<|gK W,M<|.a o<|C D.b l',M<|.b i,a,b]) (by
  rintro pre ⟨nums,iG⟩ post e O ⟨o,l',a,b,g1,g2,rfl⟩;have nn:=Ab nums;have e1:dO .NotIn (.b i) (tI nums)=.c (.e<|!acM (.b i) (C D.b nums)):=EC rfl nn;have qc:=aeN iG l';refine#[[M<|.a W<|cl.map<|gK W,M<|.a o<|C D.b l',M<|.b i,M<|tI nums,M<|.a W<|C D.b iG],?_];unfold rO;cases c:acM (.b i) (C D.b nums)with
  |true=>
   refine#[[M<|.a W<|cl.map<|gK W,M<|.a o<|C D.b l',M<|.b i,M<|tI nums,M<|.a W<|C D.b iG],rfl,?_,o,l',_,_,g1,λx=>?_,rfl]
   .rw[c]at e1;simp_arith[bP,e1,dR]
   .rw[g2,zN,w9];exact#[λh=>#[h.1,h.2,λz=>aI ((D6 _ _).mp c) z],λh=>#[h.1,h.2.1]]
  |false=>
   refine#[[M<|.a W<|cl.map<|gK W,M<|.a L<|C D.b (l'.filter λi=>!acM (.b i) (iG.map D.b)),M<|.b i,M<|tI nums,M<|.a W<|C D.b iG],rfl,?_,L,_,_,_,List.filter_sublist.trans g1,λx=>?_,rfl]
   .rw[c]at e1;simp_arith[bP,e1,eu,qc,gT]
   .rw[i9,g2,zN,w9,mQ,wJ,ne_eq,D6];rw[wJ,ne_eq,D6]at c;exact#[λh=>#[h.1.1,h.1.2,λ_=>h.2],λh=>#[#[h.1,h.2.1],h.2.2 c]]) [M<|.a W<|cl.map<|gK W,M<|.a W<|C D.b l,M<|.b i,S,S] #[W,l,_,_,.refl _,λx=>by simp,rfl]
 refine#[o,l',g1,g2,?_];unfold t9 AW;generalize rO=QJ at h1 ⊢;rw[show Hl=[]from rfl];simp_arith[pR];rw[h1];simp_arith[]
abbrev GO:B PG:=[.b 36 nE]
def ua{ks:B<|Str×Str}{t:Th}{r:Ry}(h:nN ks t r):br (eT r)=eT r:=by
 show D.i W 36 nE [.a W<|aD _,.a W<|aD _,.f W r.jk<|aD r.jv,.a W<|aD _,.f W r.km<|aD r.vm]=_;rw[HU,Aa,sO h.jv,cV,sO h.m.v]
def Z9{Y:B PG}{g:Nat}(hg:Y[g]?=M (.b 36 nE))(r):rW Y g "sizes" (eT r)=.c (.a W<|r.sz.map<|j9 W):=by
 unfold rW;rw[hg];show R.cA (decide ((36:Addr)=36)&&decide (("sizes":Str)∈nE)) (R.c<|br<|.a W<|r.sz.map<|j9 W)=_;rw[show(decide ((36:Addr)=36)&&decide (("sizes":Str)∈nE))=L from by decide];show R.c (D.a W<|aD _)=_;rw[HU]
def Z_{Y:B PG}{g:Nat}(hg:Y[g]?=M (.b 36 nE))(r):rW Y g "uppers" (eT r)=.c (.a W<|r.up.map<|vJ W):=by
 unfold rW;rw[hg];show R.cA (decide ((36:Addr)=36)&&decide (("uppers":Str)∈nE)) (R.c<|br<|.a W<|r.up.map<|vJ W)=_;rw[show(decide ((36:Addr)=36)&&decide (("uppers":Str)∈nE))=L from by decide];show R.c (D.a W<|aD _)=_;rw[Aa]
def age{Y:B PG}{g:Nat}(hg:Y[g]?=M (.b 36 nE)){ks:B<|Str×Str}{t:Th}{r:Ry}(h:nN ks t r):rW Y g "joins" (eT r)=.c (.f W r.jk r.jv):=by
 unfold rW;rw[hg];show R.cA (decide ((36:Addr)=36)&&decide (("joins":Str)∈nE)) (R.c<|br<|.f W r.jk r.jv)=_;rw[show(decide ((36:Addr)=36)&&decide (("joins":Str)∈nE))=L from by decide];show R.c (D.f W r.jk<|aD _)=_;rw[sO h.jv]
def agf{Y:B PG}{g:Nat}(hg:Y[g]?=M (.b 36 nE))(r):rW Y g "steps" (eT r)=.c (.a W<|r.st.map sD):=by
 unfold rW;rw[hg];show R.cA (decide ((36:Addr)=36)&&decide (("steps":Str)∈nE)) (R.c<|br<|.a W<|r.st.map sD)=_;rw[show(decide ((36:Addr)=36)&&decide (("steps":Str)∈nE))=L from by decide];show R.c (D.a W<|aD _)=_;rw[cV]
def agg{Y:B PG}{g:Nat}(hg:Y[g]?=M (.b 36 nE)){ks:B<|Str×Str}{t:Th}{r:Ry}(h:nN ks t r):rW Y g "marks" (eT r)=.c (.f W r.km r.vm):=by
 unfold rW;rw[hg];show R.cA (decide ((36:Addr)=36)&&decide (("marks":Str)∈nE)) (R.c<|br<|.f W r.km r.vm)=_;rw[show(decide ((36:Addr)=36)&&decide (("marks":Str)∈nE))=L from by decide];show R.c (D.f W r.km<|aD _)=_;rw[sO h.m.v]
theorem R_:∀(l) (w),gq (wk l) (wv l) (.inr w)=S\/∃n,gq (wk l) (wv l) (.inr w)=M (.b n)
|[],w=>.inl rfl
|p::l,w=>by
 show(if(dg p.1:Key)=.inr w then M (D.b p.2)else gq (wk l) (wv l) (.inr w))=S\/∃n,(if(dg p.1:Key)=.inr w then M (D.b p.2)else gq (wk l) (wv l) (.inr w))=M (.b n);by_cases c:(dg p.1:Key)=.inr w
 .rw[aH c];exact .inr #[_,rfl]
 .rw[aG c];exact R_ l w
def wA(l:B WN)(bs:B B3):Prop:=∀b∈bs,∃n,gq (wk l) (wv l) (.inr b.1)=M (.b n)/\(∀lo,b.2.1=M lo->lo<=n)/\∀hi,b.2.2=M hi->n<=hi
def wA.ad{l:B WN}{bs:B B3}{b:B3}{n:J}(h:wA l bs)(g:gq (wk l) (wv l) (.inr b.1)=M (.b n))(h1:∀lo,b.2.1=M lo->lo<=n)(h2:∀hi,b.2.2=M hi->n<=hi):wA l (bs++[b]):=λx hx=>by
 rcases bh.mp hx with z|z
 .exact h x z
 .rw[aK.mp z];exact#[n,g,h1,h2]
def Vt{l:B WN}{w:Str}{n m:J}(h:gq (wk l) (wv l) (.inr w)=M (.b n))(g:gq (wk l) (wv l) (.inr w)=M (.b m)):m=n:=by rw[h]at g;cases g;rfl
def acd{ks:B<|Str×Str}{t:Th}(r)(hr:nN ks t r)(p:Nat)(l)(hp:r.sz[p]?=M l)(bs):∃b:Bool,(b=L↔wA l bs)/\qV [eT r,.b<|p,.a W<|bs.map bD]=.c (.e b):=by
 have hs:=szl;have ea:bL (r.sz.map<|j9 W) (p:J)=M (j9 W l):=gh (by rw[aJ,hp];rfl);generalize(p:J)=p at ea ⊢;have q:=oF (g:=pG<|.b #v[.a 3,.a 4,.a 5]) (b:=bK GO 1000 mX) bD (λd=>d=.e W/\¬wA l bs) bs (λpre O=>wA l pre/\∃a b c d,O=[M<|eT r,M<|.b p,M<|.a W<|bs.map bD,a,b,c,d]) (by
  rintro pre ⟨w,lo,hi⟩ hbm O ⟨hZ,a,b,c,d,rfl⟩;refine#[[M<|eT r,M<|.b p,M<|.a W<|bs.map bD,M<|.c w,M<|oD lo,M<|oD hi,d],rfl,?_];have QM:=ua hr;have SG:=Z9 (Y:=GO) (g:=0) rfl r;have ix:g_ (.a W<|r.sz.map<|j9 W) (.b p)=.c (j9 W l):=by
   unfold g_;simp only[ea];show R.c (D.g W (wk l)<|aD<|wv l)=_;rw[HM]
  generalize hS:D.a W (r.sz.map<|j9 W)=sz at SG ix;generalize hR:eT r=ry at QM SG;generalize D.a W (bs.map bD)=bn;have one:∀v:D,aX v=L->(pE GO (.l .b (.b (.o 0 (.a 0) "sizes")<|.a 1) #v[.a 3]) [M ry,M<|.b p,M bn,M<|.c w,M<|oD lo,M<|oD hi,d])=.c v->pS GO 1000 (.d (.a 6)<|.l .b (.b (.o 0 (.a 0) "sizes")<|.a 1) #v[.a 3]) [M ry,M<|.b p,M bn,M<|.c w,M<|oD lo,M<|oD hi,d]=.a [M ry,M<|.b p,M bn,M<|.c w,M<|oD lo,M<|oD hi,M v]:=λv ov e=>by
   rw[Nl,e];show Fl.a _=_;rw[ov];rfl
  have hbm:=qZ hbm;rcases R_ l w with g0|⟨n,g0⟩
  .refine .inr #[.e W,?_,rfl,λz=>by let#[n,q,_]:=z _ hbm;rw[show gq (wk l) (wv l) (.inr w)=M (.b n)from q]at g0;cases g0];have eg:uU .b (j9 W l) [.c w]=.c .h:=by
    show R.c (br<|(gq (wk l) (wv l)<|.inr w).getD .h)=_;rw[g0];rfl
   have s1:=one .h rfl (by simp_arith[QM,SG,ix,eg]);unfold mX;rw[cJ,s1];show bK GO 1000 _ _=_;simp_arith[d7]
  .have eg:uU .b (j9 W l) [.c w]=.c (.b n):=by
    show R.c (br<|(gq (wk l) (wv l)<|.inr w).getD .h)=_;rw[g0];rfl
   have s1:=one (.b n) rfl (by simp_arith[QM,SG,ix,eg]);unfold mX;rw[cJ,s1];have dec:∃cc:Bool,(cc=W↔(∀x,lo=M x->x<=n)/\∀x,hi=M x->n<=x)/\bK GO 1000 #v[.b (.n (.d .Is (.a 6)<|.c .d)<|.n (.k (.d .IsNot (.a 4)<|.c .d)<|.d .Lt (.a 6)<|.a 4)<|.k (.d .IsNot (.a 5)<|.c .d)<|.d .Gt (.a 6)<|.a 5) #v[.a<|.c<|.c W] .nil] [M ry,M<|.b p,M bn,M<|.c w,M<|oD lo,M<|oD hi,M<|.b n]=if cc=L then .c (.e W)else .a [M ry,M<|.b p,M bn,M<|.c w,M<|oD lo,M<|oD hi,M<|.b n]:=by
    cases lo with
    |none=>
     cases hi with
     |none=>
      refine#[W,by simp,?_];unfold oD;simp_arith[d7]
     |some h=>
      refine#[decide<|h<n,by simp,?_];unfold oD;cases e:decide (h<n)<;>simp_arith[d7,e]
    |some lo=>
     cases hi with
     |none=>
      refine#[decide<|n<lo,by simp,?_];unfold oD;cases e:decide (n<lo)<;>simp_arith[d7,e]
     |some h=>
      refine#[decide (n<lo)||decide (h<n),by simp,?_];unfold oD;cases e:decide (n<lo)<;>cases e2:decide (h<n)<;>simp_arith[d7,e,e2,Oz,wg,Df]
   let#[cc,hd,hcc]:=dec;cases cc with
   |true=>exact .inr #[_,hcc,rfl,λz=>by let#[m,q,h]:=z _ hbm;rw[Vt g0 q]at h;cases hd.mpr h]
   |false=>exact .inl #[_,hcc,hZ.ad g0 (hd.mp rfl).1 (hd.mp rfl).2,_,_,_,_,rfl]) [M<|eT r,M<|.b p,M<|.a W<|bs.map bD,S,S,S,S] #[λ_ h=>aI h aF,_,_,_,_,rfl]
 unfold qV zw;generalize mX=QJ at q ⊢;rw[show EM=GO from rfl];rcases q with⟨σ',h1,hS,a,b,c,d,rfl⟩|⟨d,h1,rfl,hS⟩
 .refine#[L,by simpa,?_];generalize eT r=ry at h1 ⊢;simp_arith[HN];rw[h1];simp_arith[]
 .refine#[W,by simpa,?_];generalize eT r=ry at h1 ⊢;simp_arith[HN];rw[h1];simp_arith[]
noncomputable abbrev uc(p:Str×Str):D:=.d [.c p.1,.c p.2]
def lsZ{ks:B<|Str×Str}{t:Th}(r)(hr:nN ks t r)(p)(ws:B<|Str×Str):∃b:Bool,(b=L↔∀w∈ws,([.inr w.1,.inr w.2,.inl p]:B Key)∈r.km)/\qU [eT r,.b p,.a W<|ws.map uc]=.c (.e b):=by
 have hs:=szl;have Vj:=agg (Y:=GO) (g:=0) rfl hr;have QM:=ua hr;have y1:=eK (g:=pG<|.b #v[.a 0,.a 1]) (e:=pE GO<|.d .In (.f #v[.a 0,.a 1,.a 3])<|.o 0 (.a 2) "marks") uc (λO=>∃a b,O=[a,b,M<|eT r,M<|.b p]) (λw=>D.e<|gw r.km ([.inr w.1,.inr w.2,.inl p]:B Key)) ws [S,S,M<|eT r,M<|.b p] #[_,_,rfl] (by
  rintro⟨s,w⟩ _ O ⟨a,b,rfl⟩;refine#[[M<|.c s,M<|.c w,M<|eT r,M<|.b p],rfl,#[_,_,rfl],?_];have e:dO .In (.d [.c s,.c w,.b p]) (.f W r.km r.vm)=.c (.e<|gw r.km [.inr s,.inr w,.inl p]):=rfl;generalize D.f W r.km r.vm=mm at Vj e;generalize eT r=ry at Vj QM ⊢;simp_arith[QM,Vj,e])
 let#[_,ya,yb]:=Ac (λw:Str×Str=>gw r.km ([.inr w.1,.inr w.2,.inl p]:B Key)) ws;refine#[ws.all λw=>gw r.km [.inr w.1,.inr w.2,.inl p],by simp only[bC,NR],?_];unfold qU zx;rw[show EL=GO from rfl];have fw:aD (ws.map uc)=ws.map uc:=dj uc (λ_=>rfl) _;generalize eT r=ry at y1 ⊢;simp_arith[fw,y1,ya,yb]
def NV{β:Type}{g:D->bw->R bw}{b:bw->Fl}(enc:β->D)(T:D->Prop)(xs)(I:B β->bw->Prop)(h:∀pre x post,xs=pre++x::post->∀O,I pre O->∃σ2,g (.d [.b (zl pre:J),enc x]) O=.c σ2/\((∃σ3,b σ2=.a σ3/\I (pre++[x]) σ3)\/∃d,b σ2=.c d/\T d))(O:bw)(h0:I [] O):(∃σ',QS g b (iW 0<|C enc xs) O=.a σ'/\I xs σ')\/∃d,QS g b (iW 0<|C enc xs) O=.c d/\T d:=by
 rw[Vf];rcases oF (λp:β×Nat=>D.d [.b (p.2:J),enc p.1]) T xs.zipIdx (λpre O=>I (C (·.1) pre) O) (by
  rintro pre ⟨x,i⟩ ⟨post,e⟩ O hi;have e1:xs=C (·.1) pre++x::C (·.1) post:=by
   have:=fY (List.map (·.1)) e;simpa using this
  have e2:i=zl pre:=by
   have:=fY (λl=>(l[zl pre]?).map (·.2)) e;simp at this
   lia
  subst e2;have:=h _ x _ e1 O hi;rw[aa]at this;rw[bl];exact this) O h0 with⟨σ',q1,q2⟩|q
 .exact .inl #[σ',q1,by simpa using q2]
 .exact .inr q
theorem Vu(i):∀{mk:B<|B Key},(∀k∈mk,XW k)->∃ws:B<|Str×Str,IU i mk=C uc ws/\∀s w,(s,w)∈ws↔([.inr s,.inr w,.inl i]:B Key)∈mk
|[],_=>#[[],rfl,λ_ _=>by simp]
|k::mk,h=>by
 let#[ws,e,hw]:=Vu i λq hq=>h q<|aq _ hq;let#[s,w,j,rfl]:=h k aB;unfold IU at e ⊢;by_cases c:(u_ j:Key)=.inl i
 .rw[yj (show tH i [.inr s,.inr w,.inl j]=M [.inr s,.inr w]from aH c),bB,e];exact#[(s,w)::ws,rfl,λa b=>by rw[c];simp[hw]]
 .rw[yk (show tH i [.inr s,.inr w,.inl j]=S from aG c),e];exact#[ws,rfl,λa b=>by rw[hw,aO];exact#[.inr,λh=>h.resolve_left λz=>c (by cases z;rfl)]]
abbrev uz:B PG:=[.a qU [],.a qV [],.a t9 [],.a jV [],.b 36 nE,.a nJ []]
noncomputable abbrev b_(o:Bool)(c:B J):D:=.a o<|C D.b c
def LY(l:B<|B J):bq (l.map<|b_ L)=L:=oM (λx=>by show(L&&bq (C D.b x))=L;rw[gT];rfl) l
def jy(o)(l:B<|B J):aD (l.map<|b_ o)=C (b_ W) l:=Qg (λx=>by show D.a W (aD _)=_;rw[bP]) l
def rt1(zs:B Z4)(i):dK (pG<|.b #v[.a 0,.a 1,.a 2,.a 3]) (pT uz<|.d .Eq (.a 0)<|.a 4) (pE uz<|.f #v[.a 1,.a 2,.a 3]) (C zD zs) [S,S,S,S,M<|.b i]=.c (C bD ((zs.filter λz=>z.1==i).map λz=>(z.2.1,z.2.2.1,z.2.2.2))):=by
 have hs:=szl;rw[bG];refine pq zD (λO=>∃a b c d,O=[a,b,c,d,M<|.b i]) (λz=>z.1==i) (λz=>bD (z.2.1,z.2.2.1,z.2.2.2)) zs _ #[_,_,_,_,rfl] ?_;rintro⟨n,w,lo,hi⟩ _ O ⟨a,b,c,d,rfl⟩;refine#[[M<|.b n,M<|.c w,M<|oD lo,M<|oD hi,M<|.b i],rfl,#[_,_,_,_,rfl],?_,?_]
 .simp_arith[]
 .simp_arith[nL]
def aeP{ks:B<|Str×Str}{t:Th}(y)(hy:nN ks t y)(bs)(ws:B<|Str×Str)(l)(hl:∀i∈l,∃(j:Nat) (s:B WN),i=(j:J)/\y.sz[j]?=M s):∃c:B J,c.Sublist l/\(∀i,i∈c↔i∈l/\(∃(j:Nat) (s:B WN),i=(j:J)/\y.sz[j]?=M s/\wA s bs)/\∀w∈ws,([.inr w.1,.inr w.2,.inl i]:B Key)∈y.km)/\dK (pG<|.a 0) (pT uz ZU) (pE uz<|.a 0) (C D.b l) [S,M<|eT y,M<|.a L<|C bD bs,M<|.a L<|C uc ws]=.c (C D.b c):=by
 have QM:=ua hy;have fw:aD (C uc ws)=C uc ws:=dj uc (λ_=>rfl) _;let#[ys,y1,y2,y3,y4]:=wY (g:=pG<|.a 0) (c:=pT uz ZU) (e:=pE uz<|.a 0) D.b (λO=>∃o,O=[o,M<|eT y,M<|.a L<|C bD bs,M<|.a L<|C uc ws]) (λi b=>b=L↔(∃(j:Nat) (s:B WN),i=(j:J)/\y.sz[j]?=M s/\wA s bs)/\∀w∈ws,([.inr w.1,.inr w.2,.inl i]:B Key)∈y.km) D.b l [S,M<|eT y,M<|.a L<|C bD bs,M<|.a L<|C uc ws] #[_,rfl] (by
  rintro i hi O ⟨o,rfl⟩;let#[j,s,rfl,hj]:=hl i hi;let#[b1,hb,q1]:=acd y hy j s hj bs;let#[b2,hb2,q2]:=lsZ y hy j ws;refine#[[M<|.b j,M<|eT y,M<|.a L<|C bD bs,M<|.a L<|C uc ws],b1&&b2,rfl,#[_,rfl],?_,?_,?_]
  .generalize eT y=ry at QM q1 q2 ⊢;generalize(j:J)=j at q1 q2 ⊢;cases b1<;>simp_arith[QM,HN,q1,fw,q2,wu,nB]
  .rw[cG,hb,hb2];exact and_congr_left' #[λh=>#[j,s,rfl,hj,h],λ⟨j',s',e,e2,h⟩=>by rw[<-BG.mp e,hj]at e2;cases e2;exact h]
  .simp_arith[])
 exact#[ys,y2,λi=>#[λh=>#[y2.subset h,(y3 i h).mp rfl],λh=>y4 i h.1 λb hb=>hb.mpr h.2],y1]
noncomputable abbrev bnd(r:k9)(k:Nat):B B3:=(r.zs.filter λz=>z.1==(k:J)).map λz=>(z.2.1,z.2.2.1,z.2.2.2)
structure NW (y:Ry) (r:k9) (cl:B (B J×B J)) (told:B Str) (k:Nat) (i:J):Prop where
 und:pQ y.up told i
 opn:∀c∈cl,(k:J)∉c.1->i∉c.2
 siz:∃(j:Nat) (s:B WN),i=(j:J)/\y.sz[j]?=M s/\wA s (bnd r k)
 mks:∀s w:Str,([.inr s,.inr w,.inl (k:J)]:B Key)∈NS r.js r.st->([.inr s,.inr w,.inl i]:B Key)∈y.km
def Vv(c:B J):dO .Eq (.a W<|C D.b c) (.a L [])=.c (.e c.isEmpty):=by
 have h:dS (.a W<|C D.b c)=L:=by
  induction c with
  |nil=>rfl
  |cons x r ih=>exact ih
 rw[Je h rfl];cases c<;>rfl
abbrev cS(rd ry cl:D)(mk:B<|B Key)(mv:B D)(ch:B<|B J)(a b c d e:LD D):bw:=[M rd,M ry,M cl,M<|.f L mk mv,M<|.a L<|ch.map<|b_ L,a,b,c,d,e]
def ruG{ks:B<|Str×Str}{th:Th}(r)(y)(hy:nN ks th y)(cl)(mk)(mv)(hm:K5 60 (NS r.js r.st) mk mv)(t)(k)(ch)(hch:zl ch<=5)(c d e):∃(nc:B J) (c' d' e':LD D),(∀i,i∈nc↔NW y r cl t k i)/\nc.Pairwise (·<·)/\bK uz 1000 lR (cS (cB W r) (eT y) (.a W<|cl.map<|gK W) mk mv ch (M<|.b k) (M<|tS t) c d e)=
   if nc.isEmpty=L then .c .h else .a (cS (cB W r) (eT y) (.a W<|cl.map<|gK W) mk mv (ch++[nc]) (M<|.b k) (M<|tS t) c' d' e'):=by
 have hs:=szl;have QM:=ua hy;have Ur:=Z_ (Y:=uz) (g:=4) rfl y;let#[l,l1,_,lp,qu]:=Qp y.up (by rw[hy.up,aa];exact hy.l7) t;let#[o,l',gs,g1,qo]:=aeO cl l (k:J);have qb:=rt1 r.zs (k:J);let#[ws,ew,hw]:=Vu (k:J) hm.k;let#[nc,ns,n1,qn]:=aeP y hy (bnd r k) ws l' (λi hi=>by
  let#[j,row,e,hj,_]:=(l1 i).mp ((g1 i).mp hi).1;have hj':j<zl th.ps:=by
   have:=(aW.mp hj).1;rw[hy.up,aa]at this;exact this
  exact#[j,_,e,by rw[hy.sz,aJ,ai hj'];rfl])
 have n1:∀i,i∈nc↔NW y r cl t k i:=λi=>by
  rw[n1,g1,l1];exact#[λh=>#[h.1.1,h.1.2,h.2.1,λs w z=>h.2.2 (s,w)<|(hw s w).mpr<|(hm.m _).mpr z],λh=>#[#[h.und,h.opn],h.siz,λw z=>h.mks _ _<|(hm.m _).mp<|(hw _ _).mp z]]
 have np:=lp.sublist<|ns.trans gs;have qb:_=R.c ((bnd r k).map bD):=qb;generalize bnd r k=bs at qb qn;have k3:(decide ((["mark","word","number"]:B Str).length=3)&&mk.all λk=>decide<|zl k=3)=L:=by
  rw[show decide ((["mark","word","number"]:B Str).length=3)=L from rfl,wu];exact bC.mpr λq hq=>by let#[s,w,i,rfl]:=hm.k q hq;rfl
 have qd:∀(O:bw),Ja 9 ["mark","word","number"] O (M<|M<|.b (k:J)) (M<|M<|.f L mk mv)=.a (O.set 9<|M<|.a L<|ws.map uc):=λO=>by rw[<-ew];exact aH k3
 have cp:=Vv nc;have RK:=jy L<|ch++[nc];have la:bL ((ch++[nc]).map<|b_ W) (-1)=M (b_ W nc):=by rw[bl];exact xw _ _
 have fup:=Aa W y.up;refine#[nc,M<|.a o<|l'.map D.b,M<|.a L<|bs.map bD,M<|.a L<|ws.map uc,n1,np,?_];have RN:=nj<|pR W cl;have fu:br (.a W<|y.up.map<|vJ W)=.a W (y.up.map<|vJ W):=by show D.a W (aD _)=_;rw[fup]
 generalize hC:D.a W (cl.map<|gK W)=cld at qo RN ⊢;generalize hU:D.a W (y.up.map<|vJ W)=upd at Ur qu fu;generalize hY:eT y=ry at QM Ur qn ⊢;have hT:∀VP:bw,VP=cS (cB W r) ry cld mk mv (ch++[nc]) (M<|.b k) (M<|tS t) (M<|.a o<|l'.map D.b) (M<|.a L<|bs.map bD) (M<|.a L<|ws.map uc)->bK uz 1000 #v[.b (.d .Eq (.b (.a 4)<|.p<|.c<|.b 1)<|.i .nil) #v[.a<|.c .d] .nil] VP=if nc.isEmpty=L then .c .h else .a VP:=by
  rintro VP rfl;unfold cS;cases e0:nc.isEmpty with
  |true=>
   rw[e0]at cp;simp_arith[RK,la,bP,cp]
  |false=>
   rw[e0]at cp;simp_arith[RK,la,bP,cp]
 unfold lR;have S1:pS uz 1000 (.d (.a 7)<|.e 2 #v[.a 2,.e 3 #v[.o 4 (.a 1) "uppers",.a 6],.a 5]) (cS (cB W r) ry cld mk mv ch (M<|.b k) (M<|tS t) c d e)=.a (cS (cB W r) ry cld mk mv ch (M<|.b k) (M<|tS t) (M<|.a o<|l'.map D.b) d e):=by
  unfold cS;cases o with
  |true=>simp_arith[RN,QM,Ur,fu,bQ,qu,bP,qo,gT]
  |false=>simp_arith[RN,QM,Ur,fu,bQ,qu,bP,qo,nq]
 rw[cJ,S1];show bK uz 1000 _ _=_;have acp:pS uz 1000 (.d (.a 8)<|.j ["number","word","lo","hi"] [5] (.f #v[.a 1,.a 2,.a 3]) (.b #v[.a 0,.a 1,.a 2,.a 3]) (.a<|.b (.a 0)<|.c<|.b 3)<|.some<|.d .Eq (.a 0)<|.a 4) (cS (cB W r) ry cld mk mv ch (M<|.b k) (M<|tS t) (M<|.a o<|l'.map D.b) d e)=.a (cS (cB W r) ry cld mk mv ch (M<|.b k) (M<|tS t) (M<|.a o<|l'.map D.b) (M<|.a L<|bs.map bD) e):=by
  unfold cS;simp_arith[eU,kh,dD,mK,cV,R9,qb,YE]
 rw[cJ,acp];show bK uz 1000 _ _=_;rw[cJ,Nn];rw[show Ja 9 ["mark","word","number"] (cS (cB W r) ry cld mk mv ch (M<|.b k) (M<|tS t) (M<|.a o<|l'.map D.b) (M<|.a L<|bs.map bD) e) (cS (cB W r) ry cld mk mv ch (M<|.b k) (M<|tS t) (M<|.a o<|l'.map D.b) (M<|.a L<|bs.map bD) e)[5]? (cS (cB W r) ry cld mk mv ch (M<|.b k) (M<|tS t) (M<|.a o<|l'.map D.b) (M<|.a L<|bs.map bD) e)[3]?=.a (cS (cB W r) ry cld mk mv ch (M<|.b k) (M<|tS t) (M<|.a o<|l'.map D.b) (M<|.a L<|bs.map bD)<|M<|.a L<|ws.map uc)from qd _];show bK uz 1000 _ _=_;have acw:pS uz 1000 (.e<|.l .a (.a 4) #v[(.j ["part"] [1,8,9] (.a 0) (.a 0) (.a<|.a 7)<|.some ZU)]) (cS (cB W r) ry cld mk mv ch (M<|.b k) (M<|tS t) (M<|.a o<|l'.map D.b) (M<|.a L<|bs.map bD)<|M<|.a L<|ws.map uc)=.a (cS (cB W r) ry cld mk mv (ch++[nc]) (M<|.b k) (M<|tS t) (M<|.a o<|l'.map D.b) (M<|.a L<|bs.map bD)<|M<|.a L<|ws.map uc):=by
  unfold cS;simp_arith[bP,qn];rw[iu rfl (by rw[hs,aa];omega) (by show((L&&bq _)||_)=L;rw[gT];rfl)];simp_arith[gT,bl,bB,dZ]
 rw[cJ,acw];show bK uz 1000 _ _=_;exact hT _ rfl
def Sa(y:Ry)(r:k9)(cl:B<|B J×B J)(UK:B<|B J):Prop:=∀(k:Nat) (c:B J),UK[k]?=M c->c.Pairwise (·<·)/\∃t,r.ps[k]?=M t/\∀i,i∈c↔NW y r cl t k i
def fsc(ks)(r)(hr:vG ks r){th:Th}(y)(hy:nN ks th y)(cl):((∃(k:Nat) (t:B Str),r.ps[k]?=M t/\∀i,¬NW y r cl t k i)/\m9 [cB W r,eT y,.a W<|cl.map<|gK W]=.c .h)\/∃UK:B<|B J,zl UK=zl r.ps/\Sa y r cl UK/\m9 [cB W r,eT y,.a W<|cl.map<|gK W]=.c (.a L<|UK.map<|b_ L):=by
 have hs:=szl;have j4:=hr.j4;have s8:=hr.s8;have p4:=hr.p.1;let#[mk,mv,hm,qm]:=Qn r.js r.st (by omega) (by omega);have VH:=NU hm.v;have q:=NV (g:=pG<|.b #v[.a 5,.a 6]) (b:=bK uz 1000 lR) tS (λd=>d=.h/\∃(k:Nat) (t:B Str),r.ps[k]?=M t/\∀i,¬NW y r cl t k i) r.ps
  (λpre O=>∃(ch:B<|B J) (a b c d e:LD D),zl ch=zl pre/\Sa y r cl ch/\O=cS (cB W r) (eT y) (.a W<|cl.map<|gK W) mk mv ch a b c d e) (by
  intro pre t post e O z0;let#[ch,a,b,c,d,e',g1,g2,rfl]:=z0;have hpre:zl pre<5:=by rw[e]at p4;simp at p4;omega
  have et:r.ps[zl pre]?=M t:=by rw[e];simp
  let#[nc,c',d',e2,n1,np,qb]:=ruG r y hy cl mk mv hm t (zl pre) ch (by omega) c d e';refine#[cS (cB W r) (eT y) (.a W<|cl.map<|gK W) mk mv ch (M<|.b (zl pre:J)) (M<|tS t) c d e',rfl,?_];rw[qb];cases h0:nc.isEmpty with
  |true=>exact .inr #[.h,rfl,rfl,_,t,et,λi z=>by rw[List.isEmpty_iff.mp h0]at n1;exact aI ((n1 i).mpr z) aF]
  |false=>
   refine .inl #[_,rfl,ch++[nc],_,_,_,_,_,by simp[g1],λk c hc=>?_,rfl];by_cases hk:k<zl ch
   .rw[bJ hk]at hc;exact g2 k c hc
   .have hk2:k=zl ch:=by
     have:=(aW.mp hc).1;simp at this;omega
    subst hk2;rw[eG<|aM _]at hc;simp at hc;subst hc;rw[g1];exact#[np,t,et,n1]) (cS (cB W r) (eT y) (.a W<|cl.map<|gK W) mk mv [] S S S S S) #[[],_,_,_,_,_,rfl,λk c h=>(by simp at h),rfl]
 unfold m9 xM;generalize lR=QJ at q ⊢;rw[show CP=uz from rfl];unfold cS at q;generalize Za:eT y=ry at q ⊢;generalize D.a W (cl.map<|gK W)=cld at q ⊢;rw[dZ]at q;rcases q with⟨σ',h1,ch,a,b,c,d,e,g1,g2,rfl⟩|⟨d,h1,rfl,hd⟩
 .refine .inr #[ch,g1,g2,?_];simp_arith[eU,kh,dD,mK,cV,HQ,HR,A3,qm,VH];rw[h1];simp_arith[]
 .refine .inl #[hd,?_];simp_arith[eU,kh,dD,mK,cV,HQ,HR,A3,qm,VH];rw[h1];simp_arith[]
def jO(l:B<|LD J):aD (C oD l)=C oD l:=dj oD nL l
def LZ(l:B<|LD J):bq (C oD l)=L:=oM FQ l
def Vx(l:B<|LD J):jw (C oD l)=L:=vE oD 12 l λx=>by cases x<;>rfl
def Sb(a)(l:B<|LD J):acM (.b a) (C oD l)=L↔M a∈l:=D5 (x:=M a) (λy=>by
 cases y with
 |none=>exact#[λh=>(by cases h),λh=>(by cases h)]
 |some b=>show(b==a)=L↔_;rw[gX,exD]) l
def L0{n:Nat}{l:B<|LD J}(h:zl l=n){i:J}(hi:jE n i):∃v,bL l i=M v/\bL (C oD l) i=M (oD v):=by
 let#[j,hj,rfl,ea]:=jx l i hi.1 (by rw[h];exact hi.2);exact#[_,ea,gh (by rw[aJ,ai hj];rfl)]
def JH(js:B J3)(jk:B<|B Key)(fo:B<|LD J):Prop:=∀j∈js,∀v1 v2,bL fo j.2.1=M (M v1)->bL fo j.2.2=M (M v2)->gw jk [.inr j.1,.inl v1,.inl v2]=L
def qE{β:Type}{P:β->Prop}{l:B β}{x:β}(h:∀y∈l,P y)(hx:P x):∀y∈l++[x],P y:=λy hy=>by
 rcases bh.mp hy with z|z
 .exact h y z
 .simp_all
def ace(n)(js)(hj:∀j∈js,Qj n j)(jk)(jv)(hv:∀d∈jv,d=.e L)(fo)(hf:zl fo=n):∃b:Bool,(b=L↔JH js jk fo)/\pL [.a W<|C jD js,.f W jk jv,.a W<|C oD fo]=.c (.e b):=by
 have hs:=szl;have q:=oF (g:=pG<|.b #v[.a 3,.a 4,.a 5]) (b:=bK [] 1000 oW) jD (λd=>d=.e W/\¬JH js jk fo) js (λpre O=>JH pre jk fo/\∃a b c,O=[M<|.a W<|C jD js,M<|.f W jk jv,M<|.a W<|C oD fo,a,b,c]) (by
  rintro pre ⟨w,i,j⟩ hm O ⟨hJ,a,b,c,rfl⟩;let#[h1,h2]:=hj (w,i,j)<|qZ hm;let#[v1,g1,e1]:=L0 hf h1;let#[v2,g2,e2]:=L0 hf h2;have ok:(∀x1 x2,v1=M x1->v2=M x2->gw jk [.inr w,.inl x1,.inl x2]=L)->JH (pre++[(w,i,j)]) jk fo:=λh=>qE hJ λx1 x2 z1 z2=>h x1 x2 (cE<|g1.symm.trans z1)<|cE<|g2.symm.trans z2;refine#[[M<|.a W<|C jD js,M<|.f W jk jv,M<|.a W<|C oD fo,M<|.c w,M<|.b i,M<|.b j],rfl,?_];have fj:=sO hv;generalize D.a W (C jD js)=jd;unfold oW;cases v1 with
  |none=>
   refine .inl #[[M jd,M<|.f W jk jv,M<|.a W<|C oD fo,M<|.c w,M<|.b i,M<|.b j],?_,ok λ_ _ z=>(by cases z),_,_,_,rfl];have e1:bL (C oD fo) i=M .h:=e1;simp_arith[jO,e1,d7,dR]
  |some v1=>
   have e1:bL (C oD fo) i=M (.b v1):=e1;cases v2 with
   |none=>
    refine .inl #[[M jd,M<|.f W jk jv,M<|.a W<|C oD fo,M<|.c w,M<|.b i,M<|.b j],?_,ok λ_ _ _ z=>(by cases z),_,_,_,rfl];have e2:bL (C oD fo) j=M .h:=e2;simp_arith[jO,e1,e2,d7,dR,eu]
   |some v2=>
    have e2:bL (C oD fo) j=M (.b v2):=e2;have e:dO .NotIn (.d [.c w,.b v1,.b v2]) (.f W jk jv)=.c (.e<|!gw jk [.inr w,.inl v1,.inl v2]):=rfl;have W5:br (.f W jk jv)=.f W jk jv:=by show D.f W jk (aD jv)=_;rw[fj]
    generalize D.f W jk jv=jj at e W5 ⊢;cases c:gw jk [.inr w,.inl v1,.inl v2]with
    |true=>
     refine .inl #[[M jd,M jj,M<|.a W<|C oD fo,M<|.c w,M<|.b i,M<|.b j],?_,ok λ_ _ z1 z2=>(by simp_all),_,_,_,rfl];rw[c]at e;simp_arith[jO,e1,e2,d7,dR,eu,W5,e]
    |false=>
     refine .inr #[.e W,?_,rfl,λz=>by rw[show gw jk [.inr w,.inl v1,.inl v2]=L from z _ (qZ hm) v1 v2 g1 g2]at c;cases c];rw[c]at e;simp_arith[jO,e1,e2,d7,dR,eu,W5,e]) [M<|.a W<|C jD js,M<|.f W jk jv,M<|.a W<|C oD fo,S,S,S] #[λ_ h=>aI h aF,_,_,_,rfl]
 unfold pL xO;generalize oW=QJ at q ⊢;rw[show CN=[]from rfl];generalize D.f W jk jv=jj at q ⊢;rcases q with⟨σ',h1,hJ,a,b,c,rfl⟩|⟨d,h1,rfl,hJ⟩
 .refine#[L,by simpa,?_];simp_arith[dD];rw[h1];simp_arith[]
 .refine#[W,by simpa,?_];simp_arith[dD];rw[h1];simp_arith[]
def aeQ(pf:B<|LD J)(iG:B J):dK (pG<|.a 0) (λ_=>.c L) (pE []<|.d .NotIn (.a 0)<|.a 1) (C D.b iG) [S,M<|.a L<|C oD pf]=.c (iG.map λs=>.e<|!acM (.b s) (C oD pf)):=by
 refine eK D.b (λO=>∃o,O=[o,M<|.a L<|C oD pf]) _ iG _ #[_,rfl] ?_;rintro s hs O ⟨o,rfl⟩;refine#[[M<|.b s,M<|.a L<|C oD pf],rfl,#[_,rfl],?_];have nn:=Vx pf;have e:dO .NotIn (.b s) (.a W<|C oD pf)=.c (.e<|!acM (.b s) (C oD pf)):=mh rfl nn;simp_arith[jO,e]
def aeR(n)(fo)(hf:zl fo=n)(nums:B J)(hn:∀i∈nums,jE n i):dK (pG<|.a 0) (λ_=>.c L) (pE []<|.b (.a 1)<|.a 0) (C D.b nums) [S,M<|.a W<|C oD fo]=.c (C oD (nums.map λi=>(bL fo i).getD S)):=by
 rw[bG];refine eK D.b (λO=>∃o,O=[o,M<|.a W<|C oD fo]) _ nums _ #[_,rfl] ?_;rintro i hi O ⟨o,rfl⟩;let#[v,e0,e]:=L0 hf<|hn i hi;refine#[[M<|.b i,M<|.a W<|C oD fo],rfl,#[_,rfl],?_];show _=R.c (oD<|(bL fo i).getD S);rw[e0];simp_arith[jO,e,nL,Gp]
def Qq(cl:B<|B J×B J)(fo:B<|LD J):Prop:=∀c∈cl,∀p∈c.2,∃i∈c.1,(bL fo i).getD S=M p
def aeS(n)(cl)(hc:∀c∈cl,∀i∈c.1,jE n i)(fo)(hf:zl fo=n):∃b:Bool,(b=L↔Qq cl fo)/\kP [.a W<|cl.map<|gK W,.a W<|C oD fo]=.c (.e b):=by
 have hs:=szl;have q:=oF (g:=pG<|.b #v[.a 2,.a 3]) (b:=bK [] 1000 kW) (gK W) (λd=>d=.e W/\¬Qq cl fo) cl (λpre O=>Qq pre fo/\∃a b c,O=[M<|.a W<|cl.map<|gK W,M<|.a W<|C oD fo,a,b,c]) (by
  rintro pre ⟨nums,iG⟩ hm O ⟨hS,a,b,c,rfl⟩;have q1:=aeR n fo hf nums<|hc _<|qZ hm;have q2:=aeQ (nums.map λi=>(bL fo i).getD S) iG;let#[ay,ya,_]:=Ac (λs=>!acM (.b s) (C oD (nums.map λi=>(bL fo i).getD S))) iG;refine#[[M<|.a W<|cl.map<|gK W,M<|.a W<|C oD fo,M<|tI nums,M<|.a W<|C D.b iG,c],rfl,?_];generalize D.a W (cl.map<|gK W)=cld;have hk:(iG.any λs=>!acM (.b s) (C oD (nums.map λi=>(bL fo i).getD S)))=W↔∀p∈iG,∃i∈nums,(bL fo i).getD S=M p:=by
   rw[qL];exact wx λp=>wx λhp=>by rw[fq,Bool.not_eq_false',Sb,bF]
  generalize(nums.map λi=>(bL fo i).getD S)=pf at q1 q2 ay ya hk;have hmem:=qZ hm;generalize(iG.map λs=>D.e<|!acM (.b s) (C oD pf))=ys at q2 ay ya;unfold kW;cases cy:iG.any λs=>!acM (.b s) (C oD pf)with
  |true=>
   refine .inr #[.e W,?_,rfl,λz=>by rw[hk.mpr<|z _ hmem]at cy;cases cy];rw[cy]at ay;simp_arith[bP,q1,LZ,q2,ya,ay]
  |false=>
   refine .inl #[[M cld,M<|.a W<|C oD fo,M<|tI nums,M<|.a W<|C D.b iG,M<|.a L<|C oD pf],?_,qE hS<|hk.mp cy,_,_,_,rfl];rw[cy]at ay;simp_arith[bP,q1,LZ,q2,ya,ay]) [M<|.a W<|cl.map<|gK W,M<|.a W<|C oD fo,S,S,S] #[λ_ h=>aI h aF,_,_,_,rfl]
 unfold kP r9;generalize kW=QJ at q ⊢;rw[show xR=[]from rfl];rcases q with⟨σ',h1,hS,a,b,c,rfl⟩|⟨d,h1,rfl,hS⟩
 .refine#[L,by simpa,?_];simp_arith[pR];rw[h1];simp_arith[]
 .refine#[W,by simpa,?_];simp_arith[pR];rw[h1];simp_arith[]
abbrev uA(a:D)(st:B<|Str×J)(fo:B<|LD J)(p:J)(w i:LD D):bw:=[M a,M<|.a W<|C sD st,M<|.a W<|C oD fo,M<|.b p,w,i]
def gU(st:B<|Str×J)(x:Str×J)(p:Nat):Nat:=p+(st.drop p).findIdx λy=>gJ (sD y)<|sD x
def CZ{st:B<|Str×J}{x:Str×J}{p:Nat}(h:p<=zl st):gU st x p<=zl st:=by
 have:=List.findIdx_le_length (xs:=st.drop p) (p:=λy=>gJ (sD y)<|sD x);rw[cR]at this;unfold gU
 lia
def NX{st:B<|Str×J}{x:Str×J}{p:Nat}(hp:p<zl st):gU st x p=bif gJ (sD st[p]) (sD x)then p else gU st x (p+1):=by
 unfold gU;rw[iT hp,List.findIdx_cons];cases gJ (sD st[p]) (sD x)
 .show p+(_+1)=p+1+_;lia
 .rfl
theorem NY{st:B<|Str×J}{x:Str×J}:∀(m p),p+m<=zl st->gU st x p<=gU st x (p+m)
|0,_,_=>aM _
|m+1,p,h=>by
 have i:=NY (st:=st) (x:=x) m (p+1) (by lia);have g:p+1<=gU st x (p+1):=kU _ _;rw[NX<|by omega,show p+(m+1)=p+1+m by lia];cases gJ (sD st[p]) (sD x)
 .exact i
 .show p<=_;lia
def acf(a)(st)(hst:zl st<=11)(fo)(w)(i v)(ev:bL (C oD fo) i=M (.b v)):∀(m) (p:Nat) (fuel),zl st=p+m->m<fuel->
  tR (pT [] ZW) (bK [] 1000 tY) fuel (uA a st fo p (M<|.c w)<|M<|.b i)=.a (uA a st fo (gU st (w,v) p) (M<|.c w)<|M<|.b i):=by
 have hs:=szl;intro m;induction m with
 |zero=>
  intro p fuel h1 h2;cases fuel with
  |zero=>omega
  |succ f=>
   rw[show gU st (w,v) p=p by unfold gU;rw[jG<|by lia];rfl];have e:decide ((p:J)<(zl st:J))=W:=bM (by lia);show(pT _ _ _).bH _=_;simp_arith[cV,e]
 |succ m ih=>
  intro p fuel h1 h2;cases fuel with
  |zero=>lia
  |succ f=>
   have hp:p<zl st:=by lia
   have e:decide ((p:J)<(zl st:J))=L:=aU (by lia);have ed:=NX (x:=(w,v)) hp;have ea:bL (C sD st) (p:J)=M (sD st[p]):=gh (by rw[aJ,ai hp];rfl);generalize st[p]=sp at ea ed;let#[s,k]:=sp;have ea:bL (C sD st) (p:J)=M (.d [.c s,.b k]):=ea;have ec:dO .NotEq (.d [.c s,.b k]) (.d [.c w,.b v])=.c (.e<|!gJ (.d [.c s,.b k]) (.d [.c w,.b v])):=rfl;have ed:gU st (w,v) p=bif gJ (.d [.c s,.b k]) (.d [.c w,.b v])then p else gU st (w,v) (p+1):=ed;cases c:gJ (.d [.c s,.b k]) (.d [.c w,.b v])with
   |true=>
    rw[c]at ec ed;rw[show gU st (w,v) p=p from ed];unfold uA;show(pT _ _ _).bH _=_;simp_arith[cV,e,ea,jO,ev,ec,dR]
   |false=>
    have g2:=ih (p+1) f (by lia) (by lia);rw[c]at ec ed;rw[show gU st (w,v) p=gU st (w,v) (p+1)from ed];unfold uA at g2 ⊢;show(pT _ _ _).bH _=_;simp_arith[cV,e,ea,jO,ev,ec,eu];have hb:bK [] 1000 tY [M a,M<|.a W<|C sD st,M<|.a W<|C oD fo,M<|.b (p:J),M<|.c w,M<|.b i]=.a [M a,M<|.a W<|C sD st,M<|.a W<|C oD fo,M<|.b ((p+1:Nat):J),M<|.c w,M<|.b i]:=by rfl
    rw[hb];exact g2
def stp(st:B<|Str×J)(fo:B<|LD J):B (Str×J)->Nat->LD Nat
|[],p=>M p
|x::r,p=>match (bL fo x.2).getD S with
 |some v=>if gU st (x.1,v) p=zl st then S else stp st fo r (gU st (x.1,v) p+1)
 |none=>stp st fo r p
def Xj{Y:B PG}{n:Nat}{c:CE}{A QJ:cC}{O:bw}{b:Bool}(h:pT Y c O=.c b):bK Y n #v[.b c A QJ] O=if b=L then bK Y n A O else bK Y n QJ O:=by
 rw[cJ,xJ,h];cases b with
 |true=>cases bK Y n A O<;>rfl
 |false=>cases bK Y n QJ O<;>rfl
def Xl(a)(st)(hst:zl st<=11)(fo)(w)(i v)(ev:bL (C oD fo) i=M (.b v))(p:Nat)(hp:p<=zl st):bK [] 1000 mY (uA a st fo p (M<|.c w)<|M<|.b i)=if gU st (w,v) p=zl st then .c (.e W)else .a (uA a st fo (gU st (w,v) p+1:Nat) (M<|.c w)<|M<|.b i):=by
 have hs:=szl;have g2:tR (pT [] ZW) (bK [] 1000 uY) _ _=_:=acf a st hst fo w i v ev (zl st-p) p 1000 (by lia) (by omega);generalize gU st (w,v) p=p' at g2 ⊢;unfold mY;generalize uY=QJ at g2 ⊢;by_cases c:p'=zl st
 .have c':((p':J)==(zl st:J))=L:=by rw[c];simp
  rw[aH c];simp_arith[g2,cV,c']
 .have c':((p':J)==(zl st:J))=W:=by rw[dM];lia
  have ep:((p'+1:Nat):J)=(p':J)+1:=by lia
  rw[aG c];simp_arith[g2,cV,c',ep];rfl
def acg(n)(rs)(hr:∀s∈rs,jE n s.2)(st)(hst:zl st<=11)(fo)(hf:zl fo=n):∃b:Bool,(b=L↔(stp st fo rs 0).isSome=L)/\pK [.a W<|C sD rs,.a W<|C sD st,.a W<|C oD fo]=.c (.e b):=by
 have hs:=szl;have q:=oF (g:=pG<|.b #v[.a 4,.a 5]) (b:=bK [] 1000 oX) sD (λd=>d=.e W/\stp st fo rs 0=S) rs (λpre O=>∃(p:Nat) (a b:LD D),p<=zl st/\(∀post,rs=pre++post->stp st fo rs 0=stp st fo post p)/\O=uA (.a W<|C sD rs) st fo p a b) (by
  rintro pre ⟨w,i⟩ hm O ⟨p,a,b,hp,hS,rfl⟩;let#[v,Uu,ev]:=L0 hf<|hr (w,i)<|qZ hm;have Yv:∀post,rs=(pre++[(w,i)])++post->stp st fo rs 0=stp st fo ((w,i)::post) p:=λpost e=>hS _ (by simp_all);refine#[uA (.a W<|C sD rs) st fo p (M<|.c w)<|M<|.b i,rfl,?_];generalize D.a W (C sD rs)=rd;unfold oX;cases v with
  |none=>
   refine .inl #[uA rd st fo p (M<|.c w)<|M<|.b i,?_,p,_,_,hp,λpost e=>?_,rfl]
   .have ev:bL (C oD fo) i=M .h:=ev;unfold uA;simp_arith[jO,ev,d7,dR]
   .rw[Yv post e];show(match (bL fo i).getD S with|some v=>_|none=>stp st fo post p)=_;rw[Uu];rfl
  |some v=>
   have ev:bL (C oD fo) i=M (.b v):=ev;have g:=Xl rd st hst fo w i v ev p hp;have hT:pT [] (.d .IsNot (.b (.a 2)<|.a 5)<|.c .d) (uA rd st fo p (M<|.c w)<|M<|.b i)=.c L:=by
    unfold uA;simp_arith[jO,ev,d7,eu]
   have hI:=Xj (n:=1000) (A:=mY) (QJ:=.nil) hT;rw[aH rfl,g]at hI;have UT:∀post,rs=(pre++[(w,i)])++post->stp st fo rs 0=if gU st (w,v) p=zl st then S else stp st fo post (gU st (w,v) p+1):=λpost e=>by
    rw[Yv post e];show(match (bL fo i).getD S with|some v=>(if gU st (w,v) p=zl st then S else stp st fo post (gU st (w,v) p+1))|none=>stp st fo post p)=_;rw[Uu];rfl
   have hl:=CZ (x:=(w,v)) hp;by_cases c:gU st (w,v) p=zl st
   .rw[aH c]at hI;let#[post,e]:=hm;exact .inr #[_,hI,rfl,by rw[UT post (by rw[e,bE];rfl),aH c]]
   .rw[aG c]at hI;exact .inl #[_,hI,_,_,_,by lia,λpost e=>by rw[UT post e,aG c],rfl]) (uA (.a W<|C sD rs) st fo 0 S S) #[0,_,_,cN _,λpost e=>by rw[e];rfl,rfl]
 unfold pK xP;unfold uA at q;generalize oX=QJ at q ⊢;rw[show CM=[]from rfl];rcases q with⟨σ',h1,p,a,b,_,hS,rfl⟩|⟨d,h1,rfl,hS⟩
 .refine#[L,by rw[hS []<|by simp];simp[stp],?_];simp_arith[cV];rw[h1];simp_arith[]
 .refine#[W,by rw[hS];simp,?_];simp_arith[cV];rw[h1];simp_arith[]
theorem FU(st)(fo)(x)(r)(p):stp st fo (x::r) p=match (bL fo x.2).getD S with
  |some v=>if gU st (x.1,v) p=zl st then S else stp st fo r (gU st (x.1,v) p+1)
  |none=>stp st fo r p:=rfl
theorem A5{st:B<|Str×J}{f g:B<|LD J}(h:∀i v,(bL f i).getD S=M v->(bL g i).getD S=M v):∀(rs) (q p),q<=p->p<=zl st->(stp st g rs p).isSome=L->(stp st f rs q).isSome=L
|[],_,_,_,_,_=>rfl
|x::r,q,p,h1,h2,h3=>by
 rw[FU]at h3 ⊢;have gt:∀v,(if gU st (x.1,v) p=zl st then S else stp st g r (gU st (x.1,v) p+1)).isSome=L->gU st (x.1,v) p+1<=zl st/\(stp st g r<|gU st (x.1,v) p+1).isSome=L:=λv z=>by
  by_cases c:gU st (x.1,v) p=zl st
  .simp_all
  .rw[aG c]at z;have:=CZ (x:=(x.1,v)) h2;exact#[by lia,z]
 cases e:(bL f x.2).getD S with
 |some v=>
  rw[h _ _ e]at h3;let#[a,b]:=gt v h3;let#[m,rfl]:=Nat.exists_eq_add_of_le h1;have:=NY (x:=(x.1,v)) m q h2;show(if _ then _ else _:LD Nat).isSome=L;rw[aG<|by lia];exact A5 h r _ _ (by lia) a b
 |none=>
  cases e2:(bL g x.2).getD S with
  |none=>
   rw[e2]at h3;exact A5 h r q p h1 h2 h3
  |some v=>
   rw[e2]at h3;let#[a,b]:=gt v h3;have:p<=gU st (x.1,v) p:=kU _ _;exact A5 h r q _ (by lia) a b
def ach{st:B<|Str×J}{x:Str×J}{p:Nat}(hp:p<=zl st)(h:gU st x p≠zl st):x∈st:=by
 have:(st.drop p).findIdx (λz=>gJ (sD z)<|sD x)<zl (st.drop p):=by
  have:=CZ (x:=x) hp;rw[cR];unfold gU at h this
  lia
 let#[z,hz,e]:=List.findIdx_lt_length.mp this;have e:(z.1==x.1&&(z.2==x.2&&L))=L:=e;have:z=x:=by simp at e;exact Prod.ext e.1 e.2
 exact this▸uu hz
theorem Jv{st:B<|Str×J}{f:B<|LD J}:∀(rs) (p),p<=zl st->(stp st f rs p).isSome=L->∀x∈rs,∀v,(bL f x.2).getD S=M v->(x.1,v)∈st
|x::r,p,hp,h,y,hy,v,e=>by
 rw[FU]at h;have nl:∀w,(bL f x.2).getD S=M w->gU st (x.1,w) p≠zl st/\(stp st f r<|gU st (x.1,w) p+1).isSome=L:=λw e=>by
  rw[e]at h;have h:(if gU st (x.1,w) p=zl st then S else stp st f r (gU st (x.1,w) p+1)).isSome=L:=h;by_cases c:gU st (x.1,w) p=zl st
  .rw[aH c]at h;cases h
  .rw[aG c]at h;exact#[c,h]
 rcases aO.mp hy with rfl|hy
 .exact ach hp (nl v e).1
 .cases e2:(bL f x.2).getD S with
  |none=>rw[e2]at h;exact Jv r p hp h y hy v e
  |some w=>
   let#[a,b]:=nl w e2;have:=CZ (x:=(x.1,w)) hp;exact Jv r _ (by lia) b y hy v e
def u7(P:B J->Prop)(x:R D):Prop:=(x=.c .h/\∀l,¬P l)\/∃l:B J,P l/\x=.c (.a W<|C D.b l)
def u7.one{P:B J->Prop}{x:R D}(h:u7 P x):∃v,x=.c v/\∀y,y=R.c v->u7 P y:=by
 rcases h with⟨e,n⟩|⟨l,l1,e⟩
 .exact#[_,e,λy h=>.inl #[h,n]]
 .exact#[_,e,λy h=>.inr #[l,l1,h]]
structure Gd (y:Ry) (r:k9) (cl:B (B J×B J)) (ch:B (B J)) (l:B J):Prop where
 len:zl l=zl r.ps
 fit:∀(k:Nat) (v:J),l[k]?=M v->∃c,ch[k]?=M c/\v∈c
 nd:l.Nodup
 jh:JH r.js y.jk (C M l)
 sp:(stp y.st (C M l) r.st 0).isSome=L
 sh:Qq cl (C M l)
def Ag(fo:B<|LD J)(l:B J):Prop:=∀(k:Nat) (v:J),fo[k]?=M (M v)->l[k]?=M v
structure E1 (y:Ry) (r:k9) (ch:B (B J)) (od:B J) (fo:B (LD J)):Prop where
 len:zl fo=zl r.ps
 fil:∀j:Nat,j<zl r.ps->(j:J)∉od->∃v,fo[j]?=M (M v)
 emp:∀j:Nat,(j:J)∈od->fo[j]?=M S
 fit:∀(k:Nat) (v:J),fo[k]?=M (M v)->∃c,ch[k]?=M c/\v∈c
 un:∀(j k:Nat) (v:J),fo[j]?=M (M v)->fo[k]?=M (M v)->j=k
 jh:JH r.js y.jk fo
 sp:(stp y.st fo r.st 0).isSome=L
def Jw(l:B J):C oD (l.map M)=C D.b l:=by rw[bG];rfl
def xf{l:B J}{k:Nat}{v:J}(e:l[k]?=M v):(C M l)[k]?=M (M v):=by rw[aJ,e];rfl
def Ag.at_{fo:B<|LD J}{l:B J}(h:Ag fo l)(hl:zl fo=zl l){i v:J}(e:bL fo i=M (M v)):bL (C M l) i=M (M v):=by
 unfold bL at e ⊢;rw[aa,<-hl];cases z:kq (zl fo) i with
 |none=>rw[z]at e;cases e
 |some j=>
  rw[z]at e;exact xf<|h j v e
def Ag.jh{fo:B<|LD J}{l:B J}{js:B J3}{jk:B<|B Key}(h:Ag fo l)(hl:zl fo=zl l)(g:JH js jk<|C M l):JH js jk fo:=λj hj v1 v2 e1 e2=>g j hj v1 v2 (h.at_ hl e1)<|h.at_ hl e2
def Ag.sp{fo:B<|LD J}{l:B J}{st rs:B<|Str×J}(h:Ag fo l)(hl:zl fo=zl l)(g:(stp st (C M l) rs 0).isSome=L):(stp st fo rs 0).isSome=L:=A5 (λi v e=>by
 cases z:bL fo i with
 |none=>simp_all
 |some o=>
  rw[z]at e;rw[h.at_ hl<|z.trans<|fY M e];rfl) rs 0 0 (aM _) (cN _) g
def Ag.set{fo:B<|LD J}{l:B J}{o:Nat}{p:J}(h:fo[o]?=M S):Ag (fo.set o<|M p) l↔Ag fo l/\l[o]?=M p:=by
 have ho:=(aW.mp h).1;constructor
 .exact λg=>#[λk v e=>g k v (by rw[dw λz=>by rw[<-z,h]at e;cases e];exact e),g o p<|mw ho]
 .rintro⟨g,e⟩ k v z;by_cases c:o=k
  .simp_all
  .rw[dw c]at z;exact g k v z
def Ag.eq{l l':B J}(h:Ag (C M l) l')(e:zl l'=zl l):l'=l:=by
 refine Er λk=>?_;by_cases c:k<zl l
 .rw[ai c];exact h k _ (xf<|ai c)
 .simp_all
def E1.all{y:Ry}{r:k9}{cl:B<|B J×B J}{ch:B<|B J}{fo:B<|LD J}(h:E1 y r ch [] fo):∃l:B J,fo=C M l/\zl l=zl r.ps/\(Qq cl (C M l)->Gd y r cl ch l):=by
 have e:fo=C M (fo.map λo=>o.getD 0):=by
  rw[bG];refine(List.map_id' fo).symm.trans (fT λo ho=>?_);let#[j,hj,e]:=eF ho;let#[v,hv]:=h.fil j (by rw[<-h.len];exact hj) aF;rw[ai hj,e]at hv;rw[cE hv];rfl
 generalize C (λo=>o.getD 0) fo=l at e;subst e;have hl:zl l=zl r.ps:=by simpa using h.len
 exact#[l,rfl,hl,λhs=>#[hl,λk v e=>h.fit k v<|xf e,List.pairwise_iff_getElem.mpr λi j hi hj hij e=>by
  have:=h.un i j l[i] (xf<|ai hi) (xf<|by simp_all)
  lia,h.jh,h.sp,hs]]
def E1.set{y:Ry}{r:k9}{ch:B<|B J}{o:Nat}{tl:B J}{fo:B<|LD J}(h:E1 y r ch ((o)::tl) fo)(ht:(o:J)∉tl)(p)(hp:∃c,ch[o]?=M c/\p∈c)(hn:M p∉fo)(jh:JH r.js y.jk<|fo.set o<|M p)(sp:(stp y.st (fo.set o<|M p) r.st 0).isSome=L):E1 y r ch tl (fo.set o<|M p):=by
 have ho:=h.emp o aB;have hl:=(aW.mp ho).1;have at_:∀(k:Nat) (v:J),(fo.set o<|M p)[k]?=M (M v)->(k=o/\v=p)\/fo[k]?=M (M v):=λk v e=>by
  by_cases c:o=k
  .simp_all
  .simp_all
 refine#[by rw[jf];exact h.len,λj hj hn=>?_,λj hj=>?_,λk v e=>?_,λj k v e1 e2=>?_,jh,sp]
 .by_cases c:o=j
  .subst c;exact#[p,mw hl]
  .rw[dw c];exact h.fil j hj λz=>(aO.mp z).elim (λz=>c<|by lia) hn
 .rw[dw λz=>ht (by rw[z];exact hj)];exact h.emp j<|aq _ hj
 .rcases at_ k v e with⟨rfl,rfl⟩|q
  .exact hp
  .exact h.fit k v q
 .rcases at_ j v e1 with⟨rfl,rfl⟩|q1<;>rcases at_ k v e2 with⟨rfl,e3⟩|q2
  .rfl
  .exact aI (dz q2) hn
  .subst e3;exact aI (dz q1) hn
  .exact h.un j k v q1 q2
abbrev GF(m:B D->R D):B PG:=[.a pK [],.b 36 nE,.a pL [],.a m [],.a kP []]
noncomputable abbrev fS(rd ry cl ch od:D)(fo:B<|LD J)(a b c:LD D):bw:=[M rd,M ry,M cl,M ch,M od,M<|.a W<|C oD fo,a,b,c]
section
variable(ks:B (Str×Str)) (r:k9) (hr:vG ks r) (th:Th) (y:Ry) (hy:nN ks th y) (cl:B (B J×B J)) (ch:B (B J))
include hr hy
theorem ruS(m:B D->R D)(o:Nat)(ho:o<zl r.ps)(tl:B J)(hlong:zl tl<=6)(hot:(o:J)∉tl)(hm:∀fo,E1 y r ch tl fo->u7 (λl=>Gd y r cl ch l/\Ag fo l) (m [cB W r,eT y,.a W<|cl.map<|gK W,.a W<|ch.map<|b_ W,.a W<|C D.b tl,.a W<|C oD fo]))(fo:B<|LD J)(hf:E1 y r ch ((o:J)::tl) fo)(p:J)(hp:∃c,ch[o]?=M c/\p∈c)(b c:LD D):(∃b' c',(∀l,Gd y r cl ch l->Ag fo l->l[o]?≠M p)/\bK (GF m) 1000 ia (fS (cB W r) (eT y) (.a W<|cl.map<|gK W) (.a W<|ch.map<|b_ W) (.a W<|C D.b ((o:J)::tl)) fo (M<|.b p) b c)=.a (fS (cB W r) (eT y) (.a W<|cl.map<|gK W) (.a W<|ch.map<|b_ W) (.a W<|C D.b ((o:J)::tl)) fo (M<|.b p) b' c'))
   \/ ∃l:B J,(Gd y r cl ch l/\Ag fo l)/\bK (GF m) 1000 ia (fS (cB W r) (eT y) (.a W<|cl.map<|gK W) (.a W<|ch.map<|b_ W) (.a W<|C D.b ((o:J)::tl)) fo (M<|.b p) b c)=.c (.a W<|C D.b l):=by
 have hs:=szl;have QM:=ua hy;have U4:=age (Y:=GF m) (g:=1) rfl hy;have ast:=agf (Y:=GF m) (g:=1) rfl y;have hf2:zl (fo.set o<|M p)=zl r.ps:=by rw[jf];exact hf.len
 let#[b1,hb1,q1]:=ace (zl r.ps) r.js hr.j y.jk y.jv hy.jv (fo.set o<|M p) hf2;let#[b2,hb2,q2]:=acg (zl r.ps) r.st hr.s y.st (by rw[hy.st];exact hy.s) (fo.set o<|M p) hf2;have he:=hf.emp o aB;have hm2:acM (.b p) (C oD fo)=W->b1=L->b2=L->u7 (λl=>Gd y r cl ch l/\Ag (fo.set o<|M p) l) (m [cB W r,eT y,.a W<|cl.map<|gK W,.a W<|ch.map<|b_ W,.a W<|C D.b tl,.a W<|C oD (fo.set o<|M p)]):=λz z1 z2=>hm _ (hf.set hot p hp (λh=>by rw[(Sb _ _).mpr h]at z;cases z) (hb1.mp z1)<|hb2.mp z2);have no:(acM (.b p) (C oD fo)=L\/b1=W\/b2=W)->∀l,Gd y r cl ch l->Ag fo l->l[o]?≠M p:=λh l g a e=>by
  have a2:=Ag.set he |>.mpr ⟨a,e⟩;have hl:=hf2.trans g.len.symm;rcases h with z|z|z
  .let#[k,hk,e2]:=eF<|(Sb _ _).mp z;have e2:=(ai hk).trans<|fY M e2;have e3:=a k p e2;have:=(wK (aW.mp e).1 g.nd).mp<|e.trans e3.symm;rw[<-this,he]at e2;cases e2
  .rw[hb1.mpr<|a2.jh hl g.jh]at z;cases z
  .rw[hb2.mpr<|a2.sp hl g.sp]at z;cases z
 clear hb1 hb2 hm hp;have UO:br (.f W y.jk y.jv)=.f W y.jk y.jv:=by show D.f W y.jk (aD _)=_;rw[sO hy.jv]
 have ff:=nM W r;have i2:=(v7 r).2.2.1;have i4:=(v7 r).2.2.2.2;have fj:=nj<|dD r.js;have fs:=nj<|cV r.st;have Ux:=nj<|cV y.st;have RN:=nj<|pR W cl;have RK:=nj<|jy W ch;have VF:dO .NotIn (.b p) (.a W<|C oD fo)=.c (.e<|!acM (.b p) (C oD fo)):=mh rfl<|Vx fo;have o0:bL (C D.b ((o:J)::tl)) 0=M (.b (o:J)):=gh (j:=0) rfl;have put:S6 (.a L<|C oD fo) (.b p) (.b (o:J))=M (.a L<|C oD (fo.set o<|M p)):=by
  show(kq (zl<|C oD fo) (o:J)).map _=_;rw[Jr (by rw[aa,hf.len];exact ho),Dv];rfl
 have ct:cut (D.b (o:J)::C D.b tl) (M 1) S=C D.b tl:=r_ (C D.b ((o:J)::tl)) 1;generalize D.f W y.jk y.jv=jj at U4 q1 UO;generalize D.a W (C sD y.st)=ys at ast q2 Ux;generalize D.a W (C jD r.js)=rj at i2 q1 fj;generalize D.a W (C sD r.st)=rs at i4 q2 fs;generalize D.a W (cl.map<|gK W)=cld at hm2 RN ⊢;generalize D.a W (ch.map<|b_ W)=S8 at hm2 RK ⊢;generalize eT y=ry at QM U4 ast hm2 ⊢;generalize cB W r=rd at ff i2 i4 hm2 ⊢;cases c0:acM (.b p) (C oD fo)with
 |true=>
  rw[c0]at VF;refine .inl #[b,c,no<|.inl c0,?_];unfold ia fS;simp_arith[jO,VF,dR]
 |false=>
  rw[c0]at VF;have UJ:∀(x:D) (l:B D),bL (x::l) 0=M x:=λx l=>gh (j:=0) rfl;have hP:∀(rr:cC),bK (GF m) 1000 (.cons (.d (.a 7)<|.h .g #v[.a 5])<|.cons (.d (.c (.a 7)<|.b (.a 4)<|.c<|.b 0)<|.a 6) rr) (fS rd ry cld S8 (.a W<|C D.b ((o:J)::tl)) fo (M<|.b p) b c)=bK (GF m) 1000 rr (fS rd ry cld S8 (.a W<|C D.b ((o:J)::tl)) fo (M<|.b p) (M<|.a L<|C oD (fo.set o<|M p)) c):=λrr=>by
   unfold fS;simp_arith[jO,LZ,bP,UJ];rw[iw rfl rfl put];simp_arith[]
  have hT:pT (GF m) (.d .NotIn (.a 6)<|.a 5) (fS rd ry cld S8 (.a W<|C D.b ((o:J)::tl)) fo (M<|.b p) b c)=.c L:=by
   unfold fS;simp_arith[jO,VF,eu]
  have hI:bK (GF m) 1000 ia (fS rd ry cld S8 (.a W<|C D.b ((o:J)::tl)) fo (M<|.b p) b c)=bK (GF m) 1000 ZV (fS rd ry cld S8 (.a W<|C D.b ((o:J)::tl)) fo (M<|.b p) (M<|.a L<|C oD (fo.set o<|M p)) c):=(Xj (n:=1000) (QJ:=.nil) hT).trans<|hP ZV;rw[hI];have f7:aD (C oD (fo.set o<|M p))=C oD (fo.set o<|M p):=jO _;generalize(fo.set o<|M p).map oD=m7 at q1 q2 hm2 f7 ⊢;unfold ZV fS;cases b1 with
  |false=>
   refine .inl #[M<|.a L m7,c,no<|.inr<|.inl rfl,?_];simp_arith[ff,i2,fj,QM,U4,UO,f7,q1]
  |true=>
   cases b2 with
   |false=>
    refine .inl #[M<|.a L m7,c,no<|.inr<|.inr rfl,?_];simp_arith[ff,i2,i4,fj,fs,Ux,QM,U4,ast,UO,f7,q1,q2]
   |true=>
    rcases hm2 c0 rfl rfl with⟨h0,hno⟩|⟨l,⟨l1,l2⟩,h0⟩
    .refine .inl #[M<|.a L m7,M .h,λl g a e=>hno l #[g,(Ag.set he).mpr #[a,e]],?_];simp_arith[ff,i2,i4,fj,fs,Ux,QM,U4,ast,UO,f7,q1,q2,RN,RK,bP,ct,h0,d7,dR]
    .refine .inr #[l,#[l1,((Ag.set he).mp l2).1],?_];simp_arith[ff,i2,i4,fj,fs,Ux,QM,U4,ast,UO,f7,q1,q2,RN,RK,bP,ct,h0,nq,d7,eu]
end
section
variable(ks:B (Str×Str)) (r:k9) (hr:vG ks r) (th:Th) (y:Ry) (hy:nN ks th y) (cl:B (B J×B J)) (hcl:∀c∈cl,∀i∈c.1,jE (zl r.ps) i) (ch:B (B J)) (hch:zl ch=zl r.ps)
include hr hy hcl hch
theorem Vy:∀(k:Nat) (od:B J),zl od<k->(∀i∈od,jE (zl r.ps) i)->zl od<=6->od.Nodup->∀fo:B<|LD J,E1 y r ch od fo->
 u7 (λl=>Gd y r cl ch l/\Ag fo l) (d8 k [cB W r,eT y,.a W<|cl.map<|gK W,.a W<|ch.map<|b_ W,.a W<|C D.b od,.a W<|C oD fo])
|0,od,h,_,_,_,_,_=>aI h<|lX _
|k+1,[],_,_,_,_,fo,hf=>by
 let#[l,rfl,hl,hg]:=hf.all (cl:=cl);let#[b,hb,q]:=aeS (zl r.ps) cl hcl (C M l) hf.len;have RN:=nj<|pR W cl;show u7 _<|eX (m6<|d8 k) 1000 qe 6 kC _;unfold kC m6;have ce:dO .Eq (.a W []) (.a L [])=.c (.e L):=rfl;generalize D.a W (cl.map<|gK W)=cld at q RN ⊢;generalize D.a W (ch.map<|b_ W)=S8;generalize eT y=ry;generalize cB W r=rd;generalize d8 k=m;rw[dZ];cases b with
 |true=>
  refine .inr #[l,#[hg<|hb.mp rfl,λk v e=>by rw[aJ]at e;let#[x,e1,e2]:=jF.mp e;cases e2;exact e1],?_];rw[<-Jw];simp_arith[ce,RN,jO,q]
 |false=>
  refine .inl #[?_,λl' h=>by rw[h.2.eq<|h.1.len.trans hl.symm]at h;cases hb.mpr h.1.sh];simp_arith[ce,RN,jO,q]
|k+1,o::tl,h,ho,h6,hnd,fo,hf=>by
 let#[o0,o1]:=ho o aB;let#[o,rfl]:=lG o0;have o1:o<zl r.ps:=by simp_all
 let#[SH,Tw]:=b9.mp hnd;have hm:∀fo,E1 y r ch tl fo->u7 (λl=>Gd y r cl ch l/\Ag fo l) (d8 k [cB W r,eT y,.a W<|cl.map<|gK W,.a W<|ch.map<|b_ W,.a W<|C D.b tl,.a W<|C oD fo]):=λfo hf=>Vy k tl (by simp_all) (λi hi=>ho i<|aq _ hi) (by simp at h6;omega) Tw fo hf;have SR:o<zl ch:=by lia
 have ea:bL (ch.map<|b_ W) (o:J)=M (b_ W ch[o]):=gh (by rw[aJ,ai SR];rfl);have hfit:=ai SR;generalize ch[o]=c at ea hfit;have ix:g_ (.a W<|ch.map<|b_ W) (.b (o:J))=.c (.a W<|C D.b c):=by
  unfold g_;simp only[ea];show R.c (D.a W<|aD _)=_;rw[bP]
 have q:=oF (g:=pG<|.a 6) (b:=bK (GF<|d8 k) 1000 ia) D.b (λd=>∃l:B J,(Gd y r cl ch l/\Ag fo l)/\d=.a W (C D.b l)) c (λpre O=>(∀p∈pre,∀l,Gd y r cl ch l->Ag fo l->l[o]?≠M p)/\∃a b c,O=fS (cB W r) (eT y) (.a W<|cl.map<|gK W) (.a W<|ch.map<|b_ W) (.a W<|C D.b ((o:J)::tl)) fo a b c) (by
  intro pre p hpm O z0;let#[hpr,a,b,c',rfl]:=z0;refine#[fS (cB W r) (eT y) (.a W<|cl.map<|gK W) (.a W<|ch.map<|b_ W) (.a W<|C D.b ((o:J)::tl)) fo (M<|.b p) b c',rfl,?_];rcases ruS ks r hr th y hy cl ch (d8 k) o o1 tl (by simp at h6;omega) SH hm fo hf p #[c,hfit,qZ hpm] b c' with⟨b',c2,no,e⟩|⟨l,l1,e⟩
  .exact .inl #[_,e,qE hpr no,_,_,_,rfl]
  .exact .inr #[_,e,l,l1,rfl]) (fS (cB W r) (eT y) (.a W<|cl.map<|gK W) (.a W<|ch.map<|b_ W) (.a W<|C D.b ((o:J)::tl)) fo S S S) #[λ_ h=>aI h aF,_,_,_,rfl]
 show u7 _<|eX (m6<|d8 k) 1000 qe 6 kC _;unfold kC;rw[show m6 (d8 k)=GF (d8 k)from rfl];have RK:=nj<|jy W ch;have ce:dO .Eq (.a W (D.b (o:J)::C D.b tl)) (.a L [])=.c (.e W):=Vv ((o:J)::tl);have UJ:∀(x:D) (l:B D),bL (x::l) 0=M x:=λx l=>gh (j:=0) rfl;unfold fS at q;rw[bB]at q;show u7 _<|eX _ _ _ _ _ [cB W r,eT y,.a W<|cl.map<|gK W,.a W<|ch.map<|b_ W,.a W (D.b (o:J)::C D.b tl),.a W<|C oD fo];generalize ia=QJ at q ⊢;generalize D.a W (cl.map<|gK W)=cld at q ⊢;generalize D.a W (ch.map<|b_ W)=S8 at q RK ix ⊢;generalize eT y=ry at q ⊢;generalize cB W r=rd at q ⊢;generalize d8 k=m at q ⊢;rcases q with⟨σ',h1,hno,a,b,c',rfl⟩|⟨d,h1,l,l1,rfl⟩
 .refine .inl #[?_,λl h=>by
   have e:=ai (show o<zl l by rw[h.1.len];exact o1);let#[c2,e2,hv]:=h.1.fit o _ e;rw[hfit]at e2;cases e2;exact hno _ hv l h.1 h.2 e]
  simp_arith[bP,ce,RK,UJ,ix];rw[h1];simp_arith[]
 .refine .inr #[l,l1,?_];simp_arith[bP,ce,RK,UJ,ix];rw[h1];simp_arith[]
end
def NZ{O:bw}{k j:Nat}{i:J}{n:Nat}{ws:B J}(h1:O[k]?=M (M<|.a L<|C D.b ws))(h2:O[j]?=M (M<|.b i))(hl:zl ws=n)(hi:jE n i):∃SE:B J,zl SE=n/\I_ k 1 O O[k]? O[j]?=.a (O.set k<|M<|.a L<|C D.b SE):=by
 let#[p,rfl]:=lG hi.1;have hp:p<zl ws:=by have:(p:J)<(n:J):=hi.2;lia
 refine#[ws.set p<|ws[p]+1,by rw[jf];exact hl,?_];rw[h1,h2];unfold I_;simp only[Jr (show p<zl (C D.b ws) by rw[aa];exact hp),aJ,ai hp,Ir,Dv]
abbrev C0:B PG:=[.c,.a qv []]
noncomputable abbrev sS(rd ry cl ch:D)(ws:B J)(a b c d:LD D):bw:=[M rd,M ry,M cl,M ch,M<|.a L<|C D.b ws,a,b,c,d]
def so_1(n)(js:B J3)(hj:∀j∈js,Qj n j)(rd ry cl ch)(ws)(hw:zl ws=n):∃(SE:B J) (a b c:LD D),zl SE=n /\
  QS (pG<|.b #v[.a 5,.a 6,.a 7]) (bK C0 1000 j5) (C jD js) (sS rd ry cl ch ws S S S S)=.a (sS rd ry cl ch SE a b c S):=by
 let#[σ',h1,SE,a,b,c,l1,rfl]:=K2.lW (g:=pG<|.b #v[.a 5,.a 6,.a 7]) (b:=bK C0 1000 j5) jD js
  (λpre O=>∃(ws:B J) (a b c:LD D),zl ws=n/\O=sS rd ry cl ch ws a b c S) (by
  rintro pre ⟨s,i,j⟩ post e O ⟨ws,a,b,c,l1,rfl⟩;let#[h1,h2]:=hj (s,i,j) (by rw[e];simp);let#[w1,l2,q1]:=NZ (O:=sS rd ry cl ch ws (M<|.c s) (M<|.b i) (M<|.b j) S) (k:=4) (j:=6) rfl rfl l1 h1;let#[w2,l3,q2]:=NZ (O:=sS rd ry cl ch w1 (M<|.c s) (M<|.b i) (M<|.b j) S) (k:=4) (j:=7) rfl rfl l2 h2;refine#[sS rd ry cl ch ws (M<|.c s) (M<|.b i) (M<|.b j) S,sS rd ry cl ch w2 (M<|.c s) (M<|.b i) (M<|.b j) S,rfl,?_,w2,_,_,_,l3,rfl];unfold j5;rw[cJ,AU,q1];show bK C0 1000 _ (sS rd ry cl ch w1 (M<|.c s) (M<|.b i) (M<|.b j) S)=_;rw[cJ,AU,q2];rfl) _ #[ws,_,_,_,hw,rfl]
 exact#[SE,a,b,c,l1,h1]
def so_2(n)(st:B<|Str×J)(hs:∀s∈st,jE n s.2)(rd ry cl ch)(ws)(hw:zl ws=n)(a b c):∃(SE:B J) (a' b':LD D),zl SE=n /\
  QS (pG<|.b #v[.a 5,.a 6]) (bK C0 1000 j0) (C sD st) (sS rd ry cl ch ws a b c S)=.a (sS rd ry cl ch SE a' b' c S):=by
 let#[σ',h1,SE,a',b',l1,rfl]:=K2.lW (g:=pG<|.b #v[.a 5,.a 6]) (b:=bK C0 1000 j0) sD st
  (λpre O=>∃(ws:B J) (a b:LD D),zl ws=n/\O=sS rd ry cl ch ws a b c S) (by
  rintro pre ⟨s,i⟩ post e O ⟨ws,a,b,l1,rfl⟩;have h1:=hs (s,i) (by rw[e];simp);let#[w1,l2,q1]:=NZ (O:=sS rd ry cl ch ws (M<|.c s) (M<|.b i) c S) (k:=4) (j:=6) rfl rfl l1 h1;refine#[sS rd ry cl ch ws (M<|.c s) (M<|.b i) c S,sS rd ry cl ch w1 (M<|.c s) (M<|.b i) c S,rfl,?_,w1,_,_,l2,rfl];unfold j0;rw[cJ,AU,q1];rfl) _ #[ws,_,_,hw,rfl]
 exact#[SE,a',b',l1,h1]
theorem Qs{m:bw->R D}{cs:bw}{n:Nat}(h:∀i:Nat,i<n->∃a b:J,m (M (.b<|i)::cs)=.c (.d [.b a,.b b])):∀(k i),i+k=n->∃kss:B<|B Key,zl kss=k/\(∀q∈kss,∃a b:J,q=[.inl a,.inl b])/\yI m cs k i=.c kss
|0,i,_=>#[[],rfl,λ_ h=>aI h aF,rfl]
|k+1,i,e=>by
 let#[a,b,q]:=h i (by lia);let#[kss,g1,g2,g3]:=Qs h k (i+1) (by lia);refine#[[.inl a,.inl b]::kss,by simp[g1],λx hx=>?_,?_]
 .rcases aO.mp hx with z|z
  .exact#[a,b,z]
  .exact g2 x z
 .show(m _).bind _=_;rw[q,ph,(show L3.iD (.d [.b a,.b b])=M [.inl a,.inl b]from rfl),zq,ph,g3,ph]
def aeT{kss:B<|B Key}:Od (zl kss) ((dX kss).map λ(i:Nat)=>(i))/\((dX kss).map λ(i:Nat)=>(i:J)).Nodup:=by
 have hp:=NN (zl kss)<|wy kss;refine#[#[by rw[aa];exact oA _ _,λi hi=>?_,λk hk=>?_],kc.mpr<|(hp.nodup_iff.mpr Gn).imp λh z=>h<|BG.mp z]
 .let#[j,hj,rfl]:=bF.mp hi;have:=Jt j hj;exact#[by lia,by lia]
 .exact bF.mpr #[k,(hp.mem_iff).mpr<|fJ.mpr hk,rfl]
def Qt{n:Nat}{i:J}{v:J}:(bL (aL n<|S) i).getD S≠M v:=by
 unfold bL;cases kq (zl<|aL n (S:LD J)) i with
 |none=>simp
 |some j=>
  show((aL n S)[j]?).getD S≠_;rw[gj];split<;>exact λh=>by cases h
theorem N1(st)(n):∀(rs) (p),stp st (aL n S) rs p=M p
|[],_=>rfl
|x::r,p=>by
 show(match (bL (aL n (S:LD J)) x.2).getD S with|some v=>(if gU st (x.1,v) p=zl st then S else stp st (aL n S) r (gU st (x.1,v) p+1))|none=>stp st (aL n S) r p)=_;cases e:(bL (aL n (S:LD J)) x.2).getD S with
 |some v=>exact aI e Qt
 |none=>exact N1 st n r p
def agh(y)(r)(ch)(ol)(n)(hn:n=zl r.ps)(h:Od n ol):E1 y r ch ol (aL n<|S):=by
 have no:∀(k:Nat) (v:J),(aL n (S:LD J))[k]?≠M (M v):=λk v e=>by
  rw[gj]at e;split at e<;>cases e
 exact#[by rw[iP];exact hn,λj hj z=>aI (h.has j<|by lia) z,λj hj=>by
  have:=(h.sub _ hj).2;rw[gj,aH<|by lia],λk v e=>aI e<|no k v,λj k v e=>aI e<|no j v,λj _ v1 v2 e=>aI (by rw[e];rfl)<|Qt,by rw[N1];rfl]
section
variable(ks:B (Str×Str)) (r:k9) (hr:vG ks r) (th:Th) (y:Ry) (hy:nN ks th y) (cl:B (B J×B J)) (hcl:∀c∈cl,∀i∈c.1,jE (zl r.ps) i) (ch:B (B J)) (hch:zl ch=zl r.ps)
include hr hy hcl hch
theorem aeU:u7 (Gd y r cl ch) (m8 [cB W r,eT y,.a W<|cl.map<|gK W,.a W<|ch.map<|b_ W]):=by
 have hs:=szl;have p4:=hr.p.1;have q0:dK (pG<|.a 0) (λ_=>.c L) (pE C0<|.c<|.b 0) (ch.map<|b_ W) [S]=.c (C D.b (aL (zl ch) (0:J))):=by
  rw[Dw,<-Iu];exact eK (b_ W) (λO=>∃o,O=[o]) (λ_=>D.b 0) ch _ #[_,rfl] (by
   rintro c _ O ⟨o,rfl⟩;exact#[[M<|b_ W c],rfl,#[_,rfl],rfl])
 have qn:dK (pG<|.a 0) (λ_=>.c L) (pE C0<|.c .d) (ch.map<|b_ W) [S]=.c (C oD (aL (zl ch) (S:LD J))):=by
  rw[Dw,<-Iu];exact eK (b_ W) (λO=>∃o,O=[o]) (λ_=>D.h) ch _ #[_,rfl] (by
   rintro c _ O ⟨o,rfl⟩;exact#[[M<|b_ W c],rfl,#[_,rfl],rfl])
 let#[w1,a1,b1,c1,l1,h1]:=so_1 (zl r.ps) r.js hr.j (cB W r) (eT y) (.a W<|cl.map<|gK W) (.a W<|ch.map<|b_ W) (aL (zl ch) (0:J)) (by rw[iP];exact hch);let#[w2,a2,b2,l2,h2]:=so_2 (zl r.ps) r.st hr.s (cB W r) (eT y) (.a W<|cl.map<|gK W) (.a W<|ch.map<|b_ W) w1 l1 a1 b1 c1;let#[kss,k1,k2,k3]:=Qs (m:=pE C0<|.f #v[.h .h #v[.h .a #v[.b (.a 1)<|.a 0],.c<|.b 2],.p<|.b (.a 2)<|.a 0]) (cs:=[M<|.a W<|ch.map<|b_ W,M<|.a L<|C D.b w2]) (by
  intro i hi;have ea:bL (ch.map<|b_ W) (i:J)=M (b_ W ch[i]):=gh (by rw[aJ,ai hi];rfl);generalize ch[i]=c at ea;let#[v,_,ev]:=D4 l2 (i:=(i:J)) #[by lia,by lia];refine#[if(2:J)<(zl c:J)then 2 else(zl c:J),-v,?_];simp_arith[jy,ea,bP,ev]) (zl ch) 0<|by lia
 have sk:L2.abb kss=L:=vg (by lia) λq hq=>by
  let#[a,b,rfl]:=k2 q hq;exact#[by simp,λq' hq'=>by let#[a',b',rfl]:=k2 q' hq';rfl]
 let#[od,kr]:=aeT (kss:=kss);rw[k1]at od;generalize hO:C (λ(i:Nat)=>(i:J)) (dX kss)=ol at od kr;have ruI:C (λ(i:Nat)=>D.b (i:J)) (L2.dX kss)=C D.b ol:=by rw[<-hO,bG];rfl
 have fil:=agh y r ch ol (zl ch) hch od;have ff:=Vy ks r hr th y hy cl hcl ch hch 7 ol (by rw[od.len];lia) (by rw[<-hch];exact od.sub) (by rw[od.len];lia) kr _ fil;have nat:W7 (.b (zl ch:J))=M (zl ch):=by
  show(if 0<=(zl ch:J)/\(zl ch:J)<64 then M (zl ch:J).toNat else S)=_;rw[aH #[by lia,by lia],eN]
 have XC:∀(n:R D),n=.c (.b (zl ch:J))->IV C0 0 n (pE C0<|.f #v[.h .h #v[.h .a #v[.b (.a 1)<|.a 0],.c<|.b 2],.p<|.b (.a 2)<|.a 0]) [M<|.a W<|ch.map<|b_ W,M<|.a L<|C D.b w2]=.c (.a L<|C D.b ol):=by
  rintro n rfl;unfold IV;rw[ph,nat,zq,ph,k3,Kz,ph,sk,ruI];rfl
 have RK:=nj<|jy W ch;have RN:=nj<|pR W cl;have QM:=ua hy;have Q8:=nM W r;have i2:=(v7 r).2.2.1;have i4:=(v7 r).2.2.2.2;have Tp:=Jl W (b_ W) ch;have src:vY (.a W<|ch.map<|b_ W)=.c (ch.map<|b_ W):=by show R.c (aD _)=_;rw[jy]
 unfold m8 uX;rw[show zY=C0 from rfl];unfold sS at h1 h2;generalize j0=B1 at h2 ⊢;generalize j5=B2 at h1 ⊢;have ff:u7 (Gd y r cl ch) (qv [cB W r,eT y,.a W<|cl.map<|gK W,.a W<|ch.map<|b_ W,.a W<|C D.b ol,.a W<|C oD (aL (zl ch) (S:LD J))]):=by
  rcases ff with⟨e,no⟩|⟨l,h,e⟩
  .exact .inl #[e,λl h=>no l #[h,λk v z=>by rw[gj]at z;split at z<;>cases z]]
  .exact .inr #[l,h.1,e]
 have VI:bq (C D.b (aL (zl ch) (0:J)))=L:=gT _;have absV:bq (C D.b ol)=L:=gT _;have own:bq (C oD (aL (zl ch) (S:LD J)))=L:=LZ _;have Yq:aD (C oD (aL (zl ch) (S:LD J)))=C oD (aL (zl ch) (S:LD J)):=jO _;have s2:vY (.a W<|C jD r.js)=.c (C jD r.js):=by show R.c (aD _)=_;rw[dD]
 have s4:vY (.a W<|C sD r.st)=.c (C sD r.st):=by show R.c (aD _)=_;rw[cV]
 generalize cellu:D.a W (cl.map<|gK W)=cld at h1 h2 RN ff ⊢;generalize hrd:cB W r=rd at h1 h2 Q8 i2 i4 ff ⊢;generalize Za:eT y=ry at h1 h2 QM ff ⊢;generalize cellD:D.a W (ch.map<|b_ W)=S8 at h1 h2 RK Tp src XC ff ⊢;generalize hwn:C oD (aL (zl ch) (S:LD J))=wn at qn own Yq ff;generalize hw0:C D.b (aL (zl ch) (0:J))=w0 at q0 h1 VI;generalize pq_thn_ok':C D.b w2=v2 at h2 XC;generalize range_it':C D.b w1=v1 at h1 h2;let#[v,e,hv]:=ff.one;refine hv _ ?_;simp_arith[RK,Q8,QM,RN,src,q0,i2,i4,Tp,VI,s2,s4,dD,cV];rw[h1];simp_arith[RK,Q8,QM,RN,src,q0,i2,i4,Tp,VI,s2,s4,dD,cV];rw[h2];simp_arith[RK,Q8,QM,RN,src,q0,i2,i4,Tp,VI,s2,s4,dD,cV];rw[XC _ rfl];simp_arith[absV,own,Yq,RK,Q8,QM,RN,src,qn,bP,e]
end
def aci{β:Type}{g:D->bw->R bw}{b:bw->Fl}(enc:β->D)(xs)(I:B β->bw->Prop)(acv:bw->Prop)(hJ:∀O,I xs O->acv O)(h:∀pre x post,xs=pre++x::post->∀O,I pre O->∃σ2 σ3,g (enc x) O=.c σ2/\(b σ2=.a σ3/\I (pre++[x]) σ3\/b σ2=.e σ3/\acv σ3))(O:bw)(h0:I [] O):∃σ',QS g b (C enc xs) O=.a σ'/\acv σ':=by
 have go:∀(post pre:B β) (O:bw),xs=pre++post->I pre O->∃σ',QS g b (C enc post) O=.a σ'/\acv σ':=by
  intro post;induction post with
  |nil=>intro pre O e hi;exact#[O,rfl,hJ O<|by simp_all]
  |cons x r ih=>
   intro pre O e hi;let#[σ2,σ3,h1,h2]:=h pre x r e O hi;have e2:QS g b (C enc (x::r)) O=(match b σ2 with
    |.a σ3=>QS g b (C enc r) σ3
    |.d σ3=>QS g b (C enc r) σ3
    |.e σ3=>.a σ3
    |.c d=>.c d
    |.b=>.b):=by
    show(g (enc x) O).bH _=_;rw[h1];rfl
   rw[e2];rcases h2 with⟨h2,h3⟩|⟨h2,h3⟩
   .rw[h2];exact ih (pre++[x]) σ3 (by rw[e,bE];rfl) h3
   .rw[h2];exact#[_,rfl,h3]
 exact go xs [] O rfl h0
def Lx(i:Nat)(a b:B J):Prop:=∃k,k<i/\(∀j,j<k->a[j]?=b[j]?)/\∃x y,a[k]?=M x/\b[k]?=M y/\x<y
def v8(n:Nat)(P:B J->Prop)(x:R D):Prop:=(x=.c .h/\∀l,¬P l)\/∃l:B J,P l/\(∀l',P l'->¬Lx n l' l)/\x=.c (.a W<|C D.b l)
def v8.one{n:Nat}{P:B J->Prop}{x:R D}(h:v8 n P x):∃v,x=.c v/\∀y,y=R.c v->v8 n P y:=by
 rcases h with⟨e,h⟩|⟨l,h1,h2,e⟩
 .exact#[_,e,λy z=>.inl #[z,h]]
 .exact#[_,e,λy z=>.inr #[l,h1,h2,z]]
noncomputable abbrev N2(ms:B D->R D):B PG:=[.a ms []]
noncomputable abbrev iS(rd ry cl ch:D)(l:B J)(i a p t lo:LD D):bw:=[M rd,M ry,M cl,M ch,M<|.a W<|C D.b l,i,a,p,t,lo]
def z4s:∀{ch:B<|B J},ch≠[]->bq (ch.map<|b_ W)=W
|[],h=>aI rfl h
|_::_,_=>rfl
noncomputable abbrev K6(l:B J)(i:Nat)(p:J)(ch:B<|B J):B (B J):=C (λx=>[x]) (l.take i)++[[p]]++ch.drop (i+1)
def agi{l:B J}{i:Nat}(hi:i<zl l)(p)(ch)(k):(K6 l i p ch)[k]?=if k<i then l[k]?.map (λx=>[x])else if k=i then M [p]else ch[k]?:=by
 have hl:zl ((l.take i).map λx=>[x])=i:=by rw[aa,cM];lia
 by_cases c:k<i
 .rw[aH c,K6,bE,bJ<|by lia,aJ,vR,aH c]
 .rw[aG c,K6,bE,eG<|by lia,hl];by_cases c2:k=i
  .rw[aH c2,c2,yh];rfl
  .rw[aG c2];obtain⟨m,rfl⟩:∃m,k=i+1+m:=#[k-(i+1),by lia];rw[show i+1+m-i=m+1 by lia];show(ch.drop<|i+1)[m]?=_;rw[Dm]
section
variable{y:Ry}{r:k9}{cl:B (B J×B J)}{ch:B (B J)}{l:B J}
def agj(hl:Gd y r cl ch l){i:Nat}(hi:i<zl r.ps){p:J}{c:B J}(hc:ch[i]?=M c)(hp:p∈c)(l'):Gd y r cl (K6 l i p ch) l'↔Gd y r cl ch l'/\(∀j,j<i->l'[j]?=l[j]?)/\l'[i]?=M p:=by
 have ta:=agi (by rw[hl.len];exact hi) p ch;constructor
 .intro h;have fit:=h.fit;simp only[ta]at fit;have lt:∀j,j<i->l'[j]?=l[j]?:=λj hj=>by
   have e:=ai (show j<zl l' by rw[h.len];lia);let#[c2,e2,hv]:=fit j _ e;rw[aH hj]at e2;let#[x,e3,rfl]:=jF.mp e2;rw[e,e3,aK.mp hv]
  have at_:l'[i]?=M p:=by
   have e:=ai (show i<zl l' by rw[h.len];exact hi);let#[c2,e2,hv]:=fit i _ e;rw[aG<|cW i,aH rfl]at e2;cases e2;rw[e,aK.mp hv]
  refine#[#[h.len,λk v e=>?_,h.nd,h.jh,h.sp,h.sh],lt,at_];by_cases c1:k<i
  .exact hl.fit k v (by simp_all)
  .by_cases c2:k=i
   .simp_all
   .have:=fit k v e;rw[aG c1,aG c2]at this;exact this
 .intro z0;let#[h,lt,at_]:=z0;refine#[h.len,λk v e=>?_,h.nd,h.jh,h.sp,h.sh];rw[ta];by_cases c1:k<i
  .simp_all
  .rw[aG c1];by_cases c2:k=i
   .simp_all
   .rw[aG c2];exact h.fit k v e
def acj{i:Nat}(h:∀l',Gd y r cl ch l'->¬Lx i l' l){l2:B J}(h2:∀j,j<i->l2[j]?=l[j]?){b:J}(hb:l2[i]?=M b){c:B J}(hc:ch[i]?=M c)(hz:∀z∈c,z∉l.take i->z<b->∀l',Gd y r cl ch l'->(∀j,j<i->l'[j]?=l[j]?)->l'[i]?≠M z):∀l',Gd y r cl ch l'->¬Lx (i+1) l' l2:=by
 intro l' g z0;let#[k,hk,ag,x,w,e1,e2,lt]:=z0;by_cases c1:k=i
 .subst c1;rw[hb]at e2;cases e2;have ag:=λj hj=>(ag j hj).trans<|h2 j hj;let#[c2,e3,hx]:=g.fit k x e1;rw[hc]at e3;cases e3;refine hz x hx (λz=>?_) lt l' g ag e1;let#[j,hj,e]:=eF z;have e4:=(ai hj).trans<|fY M e;rw[vR]at e4;split at e4
  .rename_i q;rw[<-ag j q]at e4;have:=(wK (aW.mp e1).1 g.nd).mp<|e1.trans e4.symm
   lia
  .cases e4
 .exact h l' g #[k,by lia,λj hj=>(ag j hj).trans (h2 j<|by lia),x,w,e1,by rw[<-h2 k (by lia)];exact e2,lt]
end
section
variable(r:k9) (hn:zl r.ps<=6) (y:Ry) (cl:B (B J×B J)) (rd ry cld:D) (Q8:br rd=rd) (QM:br ry=ry) (RN:br cld=cld) (ch:B (B J)) (hch:zl ch=zl r.ps) (ms:B D->R D) (hcs:∀(k:Nat) (c:B J),ch[k]?=M c->c.Pairwise (·<·)) (hS:∀ch':B (B J),zl ch'=zl r.ps->u7 (Gd y r cl ch') (ms [rd,ry,cld,.a W (ch'.map (b_ W))]))
include hn Q8 QM RN hch hS
theorem agk(i)(hi:i<zl r.ps)(l)(hl:Gd y r cl ch l)(o)(c)(hc:ch[i]?=M c)(p)(hp:p∈c)(t lo):∃(o':Bool) (t' lo':LD D),((bK (N2 ms) 1000 jL (iS rd ry cld (.a W<|ch.map<|b_ W) l (M<|.b<|i) (M<|.a o<|C D.b (l.take i)) (M<|.b p) t lo)=.a (iS rd ry cld (.a W<|ch.map<|b_ W) l (M<|.b<|i) (M<|.a o'<|C D.b (l.take i)) (M<|.b p) t' lo')/\∀l',Gd y r cl ch l'->(∀j,j<i->l'[j]?=l[j]?)->l'[i]?≠M p)
  \/ ∃l2,Gd y r cl ch l2/\(∀j,j<i->l2[j]?=l[j]?)/\l2[i]?=M p/\bK (N2 ms) 1000 jL (iS rd ry cld (.a W<|ch.map<|b_ W) l (M<|.b<|i) (M<|.a o<|C D.b (l.take i)) (M<|.b p) t lo)=.e (iS rd ry cld (.a W<|ch.map<|b_ W) l2 (M<|.b<|i) (M<|.a o'<|C D.b (l.take i)) (M<|.b p) t' lo')):=by
 have hs:=szl;have eqAt':=hl.len;have ha:zl (l.take i)=i:=by rw[cM];omega
 have qc:dK (pG<|.a 0) (λ_=>.c L) (pE (N2 ms)<|.i #v[.a 0]) (C D.b (l.take i)) [S]=.c (((l.take i).map λx=>[x]).map<|b_ L):=by
  rw[bG];exact eK D.b (λO=>∃o,O=[o]) (λx=>b_ L [x]) (l.take i) _ #[_,rfl] (by
   rintro x _ O ⟨o,rfl⟩;exact#[[M<|.b x],rfl,#[_,rfl],rfl])
 have RK:=nj<|jy W ch;have sl:J7 (.a W<|ch.map<|b_ W) (M<|(i:J)+1) S=.c (.a L<|(ch.drop<|i+1).map<|b_ W):=by
  have:=r_ (ch.map<|b_ W)<|i+1;show R.c (D.a L<|aD<|cut _ (M ((i+1:Nat):J)) S)=_;rw[this,<-oq,jy]
 have b1:lq .Add (.a L<|((l.take i).map λx=>[x]).map<|b_ L) (.a L [.a L [.b p]])=.c (.a L<|C (b_ W) ((l.take i).map λx=>[x])++[b_ W [p]]):=by
  rw[nD (by rw[aa,aa];simp;omega),jy];rfl
 have b2:lq .Add (.a L<|C (b_ W) ((l.take i).map λx=>[x])++[b_ W [p]]) (.a L<|(ch.drop<|i+1).map<|b_ W)=.c (.a L<|(K6 l i p ch).map<|b_ W):=by
  rw[nD (by simp;omega),(show(C (b_ W) ((l.take i).map λx=>[x])++[b_ W [p]])=C (b_ W) ((l.take i).map (λx=>[x])++[[p]])by rw[bl];rfl),jy,jy,<-bl]
 have hf:=hS (K6 l i p ch) (by simp;omega);have ow:bq ((K6 l i p ch).map<|b_ W)=W:=z4s (by simp);have ok:=agj hl hi hc hp;generalize K6 l i p ch=tr at hf ow b2 ok;have WJ:aD (tr.map<|b_ W)=C (b_ W) tr:=jy _ _;generalize C (b_ W) tr=td at hf ow b2 WJ;generalize D.a W (ch.map<|b_ W)=S8 at RK sl ⊢;generalize((l.take i).map λx=>[x]).map (b_ L)=t1 at qc b1;generalize((l.take i).map λx=>[x]).map (b_ W)++[b_ W [p]]=t2 at b1 b2;generalize(ch.drop<|i+1).map (b_ W)=t3 at sl b2;generalize band':l.take i=ah at qc ha ⊢;unfold jL;rcases hf with⟨e,no⟩|⟨l',l1,e⟩
 .refine#[W,M<|.a L td,M .h,.inl #[?_,λl' g a b=>no l'<|(ok l').mpr #[g,a,b]]];simp_arith[bP,qc,b1,RK,sl,b2,ow,WJ,Q8,QM,RN,e,d7,dR,nq]
 .let#[g1,g2,g3]:=(ok l').mp l1;refine#[W,M<|.a W td,M<|.a W<|C D.b l',.inr #[l',g1,g2,g3,?_]];simp_arith[bP,qc,b1,RK,sl,b2,ow,WJ,Q8,QM,RN,e,d7,eu,nq,gT]
include hcs
theorem agl(i)(hi:i<zl r.ps)(l)(hl:Gd y r cl ch l)(hx:∀l',Gd y r cl ch l'->¬Lx i l' l)(a p t lo):∃(l':B J) (a' p' t' lo':LD D),Gd y r cl ch l'/\(∀l2,Gd y r cl ch l2->¬Lx (i+1) l2 l')/\bK (N2 ms) 1000 lS (iS rd ry cld (.a W<|ch.map<|b_ W) l (M<|.b<|i) a p t lo)=.a (iS rd ry cld (.a W<|ch.map<|b_ W) l' (M<|.b<|i) a' p' t' lo'):=by
 have hs:=szl;have RK:=nj<|jy W ch;have hco:i<zl ch:=by omega
 have ea:bL (ch.map<|b_ W) (i:J)=M (b_ W ch[i]):=gh (by rw[aJ,ai hco];rfl);have hc:=ai hco;generalize ch[i]=c at ea hc;have ix:g_ (.a W<|ch.map<|b_ W) (.b (i:J))=.c (.a W<|C D.b c):=by
  unfold g_;simp only[ea];show R.c (D.a W<|aD _)=_;rw[bP]
 have sl:cut (C D.b l) S (M (i:J))=C D.b (l.take i):=by
  rw[u6 (C D.b l) i,oh]
 have hil:i<zl l:=by rw[hl.len];exact hi
 have hv:=ai hil;generalize l[i]=v at hv;have ev:bL (C D.b l) (i:J)=M (.b v):=gh (by rw[aJ,hv];rfl);let#[ys,y1,y2,y3,y4]:=wY (g:=pG<|.a 0) (c:=pT (N2 ms)<|.k (.d .Lt (.a 0)<|.b (.a 1)<|.a 2)<|.d .NotIn (.a 0)<|.a 3) (e:=pE (N2 ms)<|.a 0) D.b (λO=>∃o,O=[o,M<|.a W<|C D.b l,M<|.b (i:J),M<|.a L<|C D.b (l.take i)]) (λx b=>b=L↔x<v/\x∉l.take i) D.b c [S,M<|.a W<|C D.b l,M<|.b (i:J),M<|.a L<|C D.b (l.take i)] #[_,rfl] (by
  rintro x _ O ⟨o,rfl⟩;generalize l.take i=ah;have nn:=Ab ah;have e:dO .NotIn (.b x) (.a W<|C D.b ah)=.c (.e<|!acM (.b x) (C D.b ah)):=mh rfl nn;by_cases h:x<v
  .refine#[[M<|.b x,M<|.a W<|C D.b l,M<|.b (i:J),M<|.a L<|C D.b ah],!acM (.b x) (C D.b ah),rfl,#[_,rfl],?_,by rw[mQ,wJ,ne_eq,D6];exact#[λz=>#[h,z],λz=>z.2],?_]
   .simp_arith[bP,ev,h,Pf,eS,e]
   .simp_arith[]
  .refine#[[M<|.b x,M<|.a W<|C D.b l,M<|.b (i:J),M<|.a L<|C D.b ah],W,rfl,#[_,rfl],?_,#[λz=>(by cases z),λz=>aI z.1 h],?_]
   .simp_arith[bP,ev,h,uo]
   .simp_arith[])
 have yp:=(hcs i c hc).sublist y2;have i8:∀(b:J) (l2:B J),(∀j,j<i->l2[j]?=l[j]?)->l2[i]?=M b->(∀z∈ys,z<b->∀l',Gd y r cl ch l'->(∀j,j<i->l'[j]?=l[j]?)->l'[i]?≠M z)->b<=v->∀l',Gd y r cl ch l'->¬Lx (i+1) l' l2:=λb l2 h1 h2 h3 h4=>acj hx h1 h2 hc λz hz hn hlt=>h3 z (y4 z hz λb' hb=>hb.mpr #[by omega,hn]) hlt;let#[σ',h1,l',o',p',t',lo',l1,l2,rfl]:=aci (g:=pG<|.a 7) D.b ys
  (λpre O=>∃(o':Bool) (p' t' lo':LD D),(∀p∈pre,∀l',Gd y r cl ch l'->(∀j,j<i->l'[j]?=l[j]?)->l'[i]?≠M p)/\O=iS rd ry cld (.a W<|ch.map<|b_ W) l (M<|.b (i:J)) (M<|.a o'<|C D.b (l.take i)) p' t' lo')
  (λO=>∃(l':B J) (o':Bool) (p' t' lo':LD D),Gd y r cl ch l'/\(∀l2,Gd y r cl ch l2->¬Lx (i+1) l2 l')/\O=iS rd ry cld (.a W<|ch.map<|b_ W) l' (M<|.b (i:J)) (M<|.a o'<|C D.b (l.take i)) p' t' lo')
  (λO z0=>by let#[o',p',t',lo',g,e]:=z0;exact #[l,o',p',t',lo',hl,i8 v l (λ_ _=>rfl) hv (λz hz _=>g z hz)<|Int.le_refl v,e]) (by
  intro pre x post e O z0;let#[o',p',t',lo',g,rfl]:=z0;have hx:x∈ys:=by rw[e];simp
  let#[o2,t2,lo2,h]:=agk r hn y cl rd ry cld Q8 QM RN ch hch ms hS i hi l hl o' c hc x (y2.subset hx) t' lo';rcases h with⟨h,no⟩|⟨l2,g1,g2,g3,h⟩
  .exact#[_,_,rfl,.inl #[h,o2,_,t2,lo2,qE g no,rfl]]
  .refine#[_,_,rfl,.inr #[h,l2,o2,_,t2,lo2,g1,i8 x l2 g2 g3 (λz hz hlt=>g z ?_)<|Int.le_of_lt ((y3 x hx).mp rfl).1,rfl]];rw[e]at hz yp;rcases bh.mp hz with q|q
   .exact q
   .rcases aO.mp q with q|q
    .omega
    .have:=(vQ.mp (Bk.mp yp).2.1).1 z q;omega) (iS rd ry cld (.a W<|ch.map<|b_ W) l (M<|.b (i:J)) (M<|.a L<|C D.b (l.take i)) p t lo) #[L,p,t,lo,λ_ h=>aI h aF,rfl]
 refine#[l',M<|.a o'<|C D.b (l.take i),p',t',lo',l1,l2,?_];generalize l.take i=ah at *;unfold lS;unfold iS at h1 ⊢;generalize jL=QJ at h1 ⊢;generalize D.a W (ch.map<|b_ W)=S8 at RK ix h1 ⊢;simp_arith[bP,sl,gT,RK,ix,y1];rw[h1];simp_arith[]
theorem aeV:v8 (zl r.ps) (Gd y r cl ch) (eX (N2 ms) 1000 tX 4 oV [rd,ry,cld,.a W<|ch.map<|b_ W]):=by
 have hs:=szl;have RK:=nj<|jy W ch;have Tp:=Jl W (b_ W) ch;have e0:=hS ch hch;unfold oV;rcases e0 with⟨e,no⟩|⟨l,l1,e⟩
 .refine .inl #[?_,no];generalize D.a W (ch.map<|b_ W)=S8 at RK e ⊢;simp_arith[RK,Q8,QM,RN,e,d7]
 .let#[σ',h1,l',i',a',p',t',lo',g1,gx,rfl]:=iY (g:=pG<|.a 5) (zl ch)
   (λk O=>∃(l':B J) (i' a' p' t' lo':LD D),Gd y r cl ch l'/\(∀l2,Gd y r cl ch l2->¬Lx k l2 l')/\O=iS rd ry cld (.a W<|ch.map<|b_ W) l' i' a' p' t' lo') (by
   intro k hk O z0;let#[l',i',a',p',t',lo',g1,gx,rfl]:=z0;let#[l2,a2,p2,t2,lo2,g2,g4,g3]:=agl r hn y cl rd ry cld Q8 QM RN ch hch ms hcs hS k (by lia) l' g1 gx a' p' t' lo';exact#[_,_,rfl,g3,l2,_,a2,p2,t2,lo2,g2,g4,rfl]) (iS rd ry cld (.a W<|ch.map<|b_ W) l S S S S S) #[l,S,S,S,S,S,l1,λ_ _ z0=>by let#[k,h,_]:=z0;exact aI h<|lX k,rfl]
  rw[hch]at gx;refine .inr #[l',g1,gx,?_];generalize lS=QJ at h1 ⊢;generalize D.a W (ch.map<|b_ W)=S8 at RK Tp e h1 ⊢;simp_arith[RK,Q8,QM,RN,e,d7,gT,Tp,eN,bP];rw[h1];simp_arith[bP]
end
def ack(ks)(r)(hr:vG ks r)(th)(y)(hy:nN ks th y)(cl)(hcl:∀c∈cl,∀i∈c.1,jE (zl r.ps) i)(ch)(hch:zl ch=zl r.ps)(hco:Sa y r cl ch):v8 (zl r.ps) (Gd y r cl ch) (lU [cB W r,eT y,.a W<|cl.map<|gK W,.a W<|ch.map<|b_ W]):=by
 have RN:=nj<|pR W cl;exact aeV r (cu hr.p.1<|by omega) y cl _ _ _ (nM W r) (ua hy) RN ch hch m8 (λk c e=>(hco k c e).1) λch' h'=>aeU ks r hr th y hy cl hcl ch' h'
structure Fd (y:Ry) (r:k9) (l:B J):Prop where
 len:zl l=zl r.ps
 fit:∀(k:Nat) (v:J),l[k]?=M v->∃t,r.ps[k]?=M t/\pQ y.up t v
 nd:l.Nodup
 bo:∀z∈r.zs,∃(j:Nat) (s:B WN),bL (C M l) z.1=M (M (j:J))/\y.sz[j]?=M s/\wA s [z.2]
 jh:JH r.js y.jk (C M l)
 sp:(stp y.st (C M l) r.st 0).isSome=L
 sh:∀c∈r.cl,∀v,pQ y.up c.1 v->∃i∈c.2,(bL (C M l) i).getD S=M v
def v9{n:Nat}{l:B J}{k:J}(h:jE n k)(hl:zl l=n):∃(v:J) (j:Nat),k=(j)/\l[j]?=M v/\bL (C M l) k=M (M v)/\bL (C D.b l) k=M (.b v):=by
 let#[j,hj,rfl,_]:=jx l k h.1 (by rw[hl];exact h.2);have e:=ai hj;exact#[_,j,rfl,e,gh (by rw[aJ,e];rfl),gh (by rw[aJ,e];rfl)]
def Qu{r:k9}{k:Nat}{b:B3}:b∈bnd r k↔((k:J),b)∈r.zs:=by simp
def Qv{js:B J3}{st:B<|Str×J}{s w:Str}{i:J}:([.inr s,.inr w,.inl i]:B Key)∈NS js st↔(s="from"/\∃j,(w,i,j)∈js)\/(s="to"/\∃j,(w,j,i)∈js)\/(s="then"/\(w,i)∈st):=by
 rw[bh,yl,bF];constructor
 .rintro(⟨⟨a,b,c⟩,h,h2⟩|⟨⟨a,b⟩,h,h2⟩)
  .rcases aO.mp h2 with z|z
   .cases z;exact .inl #[rfl,_,h]
   .cases aK.mp z;exact .inr (.inl #[rfl,_,h])
  .simp_all
 .rintro(⟨rfl,j,h⟩|⟨rfl,j,h⟩|⟨rfl,h⟩)
  .exact .inl #[_,h,aB]
  .exact .inl #[_,h,aq _ aB]
  .exact .inr #[_,h,rfl]
section
variable{ks:B (Str×Str)}{r:k9} (hr:vG ks r) {th:Th}{y:Ry} (hy:nN ks th y)
include hy in
theorem Vz{told:B Str}{v:J}(h:pQ y.up told v):∃(j:Nat) (s:B WN),v=(j:J)/\j<zl th.ps/\y.sz[j]?=M s:=by
 let#[j,row,e,hj,_]:=h;have hj:=(aW.mp hj).1;rw[hy.up,aa]at hj;exact#[j,_,e,hj,by rw[hy.sz,aJ,ai hj];rfl]
include hy in
theorem Sd{w:Str}{a b:J}:gw y.jk ([.inr w,.inl a,.inl b]:B Key)=L↔(w,a,b)∈th.js:=by
 rw[NR,hy.jk,bF];exact#[λ⟨⟨x,x1,x2⟩,h,e⟩=>by cases e;exact h,λh=>#[_,h,rfl]]
include hr hy in
theorem Xn{RV:B Str->B J}(hU:∀told i,i∈RV told↔pQ y.up told i){l:B J}(h:Fd y r l):Qq (r.cl.map λc=>(c.2,RV c.1)) (C M l):=λc hc p hp=>by
 let#[c',h',rfl]:=bF.mp hc;exact h.sh c' h' p<|(hU _ _).mp hp
include hr hy in
theorem VA{RV:B Str->B J}(hU:∀told i,i∈RV told↔pQ y.up told i){l:B J}(h:Fd y r l){k:Nat}{v:J}(e:l[k]?=M v){t:B Str}(ht:r.ps[k]?=M t):NW y r (r.cl.map λc=>(c.2,RV c.1)) t k v:=by
 have sh:=Xn hr hy hU h;have hk:=(aW.mp e).1;have ek:bL (C M l) (k:J)=M (M v):=gh<|xf e;let#[t',ht',und]:=h.fit k v e;rw[ht]at ht';cases ht';let#[j,s,rfl,_,hj]:=Vz hy und;refine#[und,λc hc hn hv=>?_,#[j,s,rfl,hj,λb hb=>?_],λs w hm=>?_]
 .let#[i,h1,h2]:=sh c hc _ hv;let#[c',h',rfl]:=bF.mp hc;let#[v,m,rfl,e1,e2,_]:=v9 (hr.c c' h' i h1) h.len;rw[e2]at h2;have h2:M v=M (j:J):=h2;cases h2;have:=(wK hk h.nd).mp<|e.trans e1.symm;subst this;exact hn h1
 .let#[j',s',e1,e2,hs]:=h.bo _<|Qu.mp hb;have e1:bL (C M l) (k:J)=M (M (j':J)):=e1;rw[ek]at e1;have:j=j':=by cases e1;rfl
  subst this;rw[hj]at e2;cases e2;exact hs b aB
 .rw[hy.m.m,Qv];rcases Qv.mp hm with⟨a,i,z⟩|⟨a,i,z⟩|⟨a,z⟩
  .let#[v2,_,_,_,e2,_]:=v9 (hr.j _ z).2 h.len;exact .inl #[a,v2,(Sd hy).mp<|h.jh _ z _ v2 ek e2]
  .let#[v2,_,_,_,e2,_]:=v9 (hr.j _ z).1 h.len;exact .inr<|.inl #[a,v2,(Sd hy).mp<|h.jh _ z v2 _ e2 ek]
  .rw[<-hy.st];exact .inr (.inr #[a,Jv r.st 0 (cN _) h.sp _ z _ (by rw[ek];rfl)])
include hr hy
theorem agm{RV:B Str->B J}(hU:∀told i,i∈RV told↔pQ y.up told i){ch:B<|B J}(hch:zl ch=zl r.ps)(hco:Sa y r (r.cl.map λc=>(c.2,RV c.1)) ch)(l):Gd y r (r.cl.map λc=>(c.2,RV c.1)) ch l↔Fd y r l:=by
 constructor
 .intro h;have fit:∀(k:Nat) (v:J),l[k]?=M v->∃t,r.ps[k]?=M t/\NW y r (r.cl.map λc=>(c.2,RV c.1)) t k v:=λk v e=>by
   let#[c,hc,hv]:=h.fit k v e;let#[_,t,ht,hi]:=hco k c hc;exact#[t,ht,(hi v).mp hv]
  refine#[h.len,λk v e=>by let#[t,ht,f]:=fit k v e;exact#[t,ht,f.und],h.nd,λz hz=>?_,h.jh,h.sp,λc hc v hv=>h.sh _ (bF.mpr #[c,hc,rfl]) v<|(hU _ _).mpr hv];let#[i,b]:=z;let#[v,k,e,e1,e2,_]:=v9 (hr.z _ hz).1 h.len;let#[t,_,f]:=fit k v e1;let#[j,s,rfl,hj,hs]:=f.siz;subst e;exact#[j,s,e2,hj,λb' hb=>hs b' (by rw[aK.mp hb];exact Qu.mpr hz)]
 .intro h;refine#[h.len,λk v e=>?_,h.nd,h.jh,h.sp,Xn hr hy hU h];have hk:=(aW.mp e).1;have hkc:k<zl ch:=by rw[hch,<-h.len];exact hk
  let#[_,t,ht,hi]:=hco k _<|ai hkc;exact#[_,ai hkc,(hi v).mpr<|VA hr hy hU h e ht]
end
abbrev VB:B PG:=[.a lU [],.a m9 [],.a jV [],.b 36 nE]
def Se(l:B<|B J×B J):bq (l.map<|gK L)=L:=oM (λx=>by show(bq (C D.b x.1)&&((L&&bq (C D.b x.2))&&L))=L;rw[gT,gT];rfl) l
section
variable(ks:B (Str×Str)) (r:k9) (hr:vG ks r) (th:Th) (y:Ry) (hy:nN ks th y)
include hr hy
theorem agn:∃RV:B Str->B J,(∀told,(∀i,i∈RV told↔pQ y.up told i)/\(RV told).Nodup) /\
  dK (pG<|.b #v[.a 0,.a 1]) (λ_=>.c L) (pE VB<|.f #v[.a 1,.e 2 #v[.o 3 (.a 2) "uppers",.a 0]]) (r.cl.map cD) [S,S,M<|eT y]=.c ((r.cl.map λc=>(c.2,RV c.1)).map<|gK L):=by
 let#[RV,hU]:=OF (Qp y.up (by rw[hy.up,aa];exact hy.l7));refine#[RV,λtold=>#[(hU told).1,(hU told).2.2.1.imp λh=>Int.ne_of_lt h],?_];rw[bG];refine eK cD (λO=>∃a b,O=[a,b,M<|eT y]) _ r.cl _ #[_,_,rfl] ?_;rintro⟨told,nums⟩ hm O ⟨a,b,rfl⟩;have qu:=(hU told).2.2.2;refine#[[M<|tS told,M<|tI nums,M<|eT y],rfl,#[_,_,rfl],?_];have hs:=szl;have au:=Z_ (Y:=VB) (g:=3) rfl y;have fu:aD (y.up.map<|vJ W)=y.up.map (vJ W):=Aa _ _;have QM:=ua hy;show _=R.c (gK L (nums,RV told));generalize eT y=ry at au QM ⊢;simp_arith[QM,au,fu,bQ,bP,qu]
theorem acm:v8 (zl r.ps) (Fd y r) (jR [cB W r,eT y]):=by
 have hs:=szl;let#[RV,hU,q1]:=agn ks r hr th y hy;have ff:=λl h k v e t ht=>VA hr hy (λt=>(hU t).1) (l:=l) h (k:=k) (v:=v) e (t:=t) ht;have gf:=λch=>agm (ch:=ch) hr hy λt=>(hU t).1;have c1:∀c∈r.cl.map λc=>(c.2,RV c.1),∀i∈c.1,jE (zl r.ps) i:=λc hc=>by
  let#[c',h',rfl]:=bF.mp hc;exact hr.c c' h'
 have c2:∀c∈r.cl.map λc=>(c.2,RV c.1),zl c.1<zl c.2->∀l,¬Fd y r l:=λc hc hlt l h=>by
  let#[c',h',rfl]:=bF.mp hc;have:=uw (hU c'.1).2 (l₂:=c'.2.map λi=>((bL (C M l) i).getD S).getD 0) λv hv=>by
   let#[i,h1,h2]:=h.sh c' h' v<|((hU _).1 v).mp hv;exact bF.mpr #[i,h1,by rw[h2];rfl]
  rw[aa]at this;exact aI this<|Nat.not_le.mpr hlt
 have c3:zl th.ps<zl r.ps->∀l,¬Fd y r l:=λhlt l h=>by
  have:=uw h.nd (l₂:=(bW<|zl th.ps).map λ(i:Nat)=>(i:J)) λv hv=>by
   let#[k,hk,e]:=eF hv;let#[t,_,u]:=h.fit k v<|(ai hk).trans<|fY M e;let#[j,_,rfl,hj,_]:=Vz hy u;exact bF.mpr #[j,fJ.mpr hj,rfl]
  rw[aa,ig,h.len]at this
  lia
 have freshH:zl y.sz=zl th.ps:=by rw[hy.sz,aa]
 have hch:=fsc ks r hr y hy<|r.cl.map λc=>(c.2,RV c.1);have U7:=ack ks r hr th y hy (r.cl.map λc=>(c.2,RV c.1)) c1;generalize(r.cl.map λc=>(c.2,RV c.1))=cl at q1 c1 c2 hch U7 gf ff;have b1:=eK (g:=pG<|.b #v[.a 0,.a 1]) (e:=pE VB<|.d .Gt (.h .a #v[.a 1])<|.h .a #v[.a 0]) (gK W) (λO=>∃a b,O=[a,b]) (λc=>D.e<|decide<|(zl c.2:J)>(zl c.1:J)) cl [S,S] #[_,_,rfl] (by
  rintro⟨nums,iG⟩ _ O ⟨a,b,rfl⟩;refine#[[M<|tI nums,M<|.a W<|C D.b iG],rfl,#[_,_,rfl],?_];simp_arith[bP,aa])
 let#[b2,ba,_]:=Ac (λc:B J×B J=>decide<|(zl c.2:J)>(zl c.1:J)) cl;generalize C (λc:B J×B J=>D.e<|decide<|(zl c.2:J)>(zl c.1:J)) cl=bs at b1 b2 ba;have SG:=Z9 (Y:=VB) (g:=3) rfl y;have QM:=ua hy;have Q8:=nM W r;have i0:=(v7 r).1;have i1:=(v7 r).2.1;have UR:=nj<|HU W y.sz;have U_:=Jl W (j9 W) y.sz;unfold jR tW;rw[show yO=VB from rfl];generalize D.a W (y.sz.map<|j9 W)=pe_chain' at SG UR U_;generalize Za:eT y=ry at SG QM q1 hch U7 ⊢;generalize hrd:cB W r=rd at Q8 i0 i1 hch U7 ⊢;by_cases hg:(zl r.ps:J)>(zl y.sz:J)
 .refine .inl #[?_,c3<|by lia];simp_arith[Q8,i0,QM,SG,UR,U_,aa,hg,Pf,eS]
 cases hb:cl.any λc=>decide ((zl c.2:J)>(zl c.1:J))with
 |true=>
  rw[hb]at b2;refine .inl #[?_,by let#[c,hc,e]:=fm.mp hb;exact c2 c hc<|by simp_all];simp_arith[Q8,i0,i1,QM,SG,UR,U_,aa,hg,uo,kh,eU,q1,Se,b1,ba,b2,pR]
 |false=>
  rw[hb]at b2;rcases hch with⟨⟨k,t,ht,no⟩,e⟩|⟨ch,h1,h2,e⟩
  .refine .inl #[?_,λl h=>?_]
   .simp_arith[Q8,i0,i1,QM,SG,UR,U_,aa,hg,uo,kh,eU,q1,Se,b1,ba,b2,pR,e,d7]
   .have hk:=(aW.mp ht).1;exact no _ (ff l h k _ (ai (by rw[h.len];exact hk)) t ht)
  .have gf:=gf ch h1 h2;have U7:v8 (zl r.ps) (Fd y r) (lU [rd,ry,.a W<|cl.map<|gK W,.a W<|ch.map<|b_ W]):=by
    have:=U7 ch h1 h2;rwa[show Gd y r cl ch=Fd y r from funext λl=>propext<|gf l]at this
   let#[v,e2,hv]:=U7.one;refine hv _ ?_;simp_arith[Q8,i0,i1,QM,SG,UR,U_,aa,hg,uo,kh,eU,q1,Se,b1,ba,b2,pR,e,d7,LY,jy,e2]
end
def YG(kd td d)(y)(fk:br kd=kd)(ft:br td=td)(qr:xd [kd,td]=.c d)(fd:br d=eT y)(QM:br (eT y)=eT y)(r)(x)(h:jR [cB W r,eT y]=.c x):iX [kd,cB W r,td]=.c x:=by
 have Q8:=nM W r;unfold iX xK;rw[show CQ=[.a jR [],.a xd []]from rfl];generalize cB W r=rd at Q8 h ⊢;generalize eT y=ry at fd QM h;simp_arith[Q8,fk,ft,qr,fd,QM,h]
def Jx(ks)(hk:vF ks)(a)(told):pN [.a W<|bV ks,.c a,tS told]=.c (.e<|told.any λs=>acM (.c s)<|C D.c (fh ks.reverse a)):=by
 have hs:=szl;have fk:=K1 ks;have qu:=Z1 ks hk.l8 a;have nn:=DZ<|fh ks.reverse a;generalize D.a W (bV ks)=kd at fk qu ⊢;have y1:dK (pG<|.a 0) (λ_=>.c L) (pE [.a iH []]<|.d .In (.a 0)<|.e 0 #v[.a 1,.a 2]) (C D.c told) [S,M kd,M<|.c a]=.c (told.map λs=>.e<|acM (.c s)<|C D.c (fh ks.reverse a)):=by
  refine eK D.c (λO=>∃o,O=[o,M kd,M<|.c a]) _ told _ #[_,rfl] ?_;rintro s _ O ⟨o,rfl⟩;refine#[[M<|.c s,M kd,M<|.c a],rfl,#[_,rfl],?_];have e:∀o,dO .In (.c s) (.a o<|C D.c (fh ks.reverse a))=.c (.e<|acM (.c s)<|C D.c (fh ks.reverse a)):=λo=>xH rfl nn;simp_arith[fk,qu,e]
 let#[e1,e2,_]:=Ac (λs=>acM (.c s)<|C D.c (fh ks.reverse a)) told;unfold pN CJ;rw[show KJ=[.a iH []]from rfl];simp_arith[bQ,y1,e1,e2]
def yU{ks:B<|Str×Str}{a:Str}{told:B Str}:(told.any λs=>acM (.c s)<|C D.c (fh ks.reverse a))=L↔∃s∈fh ks.reverse a,s∈told:=by
 rw[fm];exact#[λqq=>by let#[s,h1,h2]:=qq;exact#[s,(LX _ _).mp h2,h1],λqq=>by let#[s,h1,h2]:=qq;exact#[s,h2,(LX _ _).mpr h1]]
def exH(r)(hr:∀s∈r.st,jE (zl r.ps) s.2)(st)(hst:zl st<=11)(l:B J)(hl:zl l=zl r.ps):∃b:Bool,(b=L↔(stp st (C M l) r.st 0).isSome=L)/\qX [cB W r,.a W<|C sD st,.a W<|C D.b l]=.c (.e b):=by
 have hs:=szl;have q:=oF (g:=pG<|.b #v[.a 4,.a 5]) sD (λd=>d=.e W/\stp st (C M l) r.st 0=S) r.st (λpre O=>∃(p:Nat) (a b:LD D),p<=zl st/\(∀post,r.st=pre++post->stp st (C M l) r.st 0=stp st (C M l) post p)/\O=uA (cB W r) st (C M l) p a b) (by
  rintro pre ⟨w,i⟩ hm O ⟨p,a,b,hp,hS,rfl⟩;let#[v,j,e1,e2,Uu,ev]:=v9 (hr (w,i)<|qZ hm) hl;rw[<-Jw]at ev;have g:=Xl (cB W r) st hst (C M l) w i v ev p hp;refine#[uA (cB W r) st (C M l) p (M<|.c w)<|M<|.b i,rfl,?_];have hl:=CZ (x:=(w,v)) hp;have UT:∀post,r.st=(pre++[(w,i)])++post->stp st (C M l) r.st 0=if gU st (w,v) p=zl st then S else stp st (C M l) post (gU st (w,v) p+1):=λpost e=>by
   rw[hS _ (show r.st=pre++(w,i)::post by rw[e,bE];rfl),FU,show(bL (C M l) (w,i).2).getD S=M v by rw[Uu];rfl]
  by_cases c:gU st (w,v) p=zl st
  .let#[post,e]:=hm;rw[aH c]at g;exact .inr #[_,g,rfl,by rw[UT post (by rw[e,bE];rfl),aH c]]
  .rw[aG c]at g;exact .inl #[_,g,_,_,_,by lia,λpost e=>by rw[UT post e,aG c],rfl]) (uA (cB W r) st (C M l) 0 S S) #[0,_,_,cN _,λpost e=>by rw[e];rfl,rfl]
 have i4:=(v7 r).2.2.2.2;have Q8:=nM W r;unfold qX zA;unfold uA at q;rw[Jw]at q;generalize mY=QJ at q ⊢;rw[show EO=[]from rfl];generalize hrd:cB W r=rd at *;rcases q with⟨σ',h1,p,a,b,_,hS,rfl⟩|⟨d,h1,rfl,hS⟩
 .refine#[L,by rw[hS []<|by simp];simp[stp],?_];simp_arith[Q8,i4,cV];rw[h1];simp_arith[]
 .refine#[W,by rw[hS];simp,?_];simp_arith[Q8,i4,cV];rw[h1];simp_arith[]
theorem VD:∀(l) (w),gw (wk l) (dg w:Key)=(gq (wk l) (wv l)<|.inr w).isSome
|[],_=>rfl
|p::l,w=>by
 show(decide ((dg p.1:Key)=.inr w)||gw (wk l) (dg w:Key))=(if(dg p.1:Key)=.inr w then M (D.b p.2)else gq (wk l) (wv l) (.inr w)).isSome;by_cases c:(dg p.1:Key)=.inr w
 .rw[aU c,aH c];rfl
 .rw[bM c,aG c,BD];exact VD l w
def rt2(a b c p3)(w)(lo hi)(l):∃f:Bool,(f=W↔wA l [(w,lo,hi)]) /\
  bK [] 1000 #v[.b (.n (.d .NotIn (.a 4)<|.a 7)<|.n (.k (.d .IsNot (.a 5)<|.c .d)<|.d .Lt (.b (.a 7)<|.a 4)<|.a 5)<|.k (.d .IsNot (.a 6)<|.c .d)<|.d .Gt (.b (.a 7)<|.a 4)<|.a 6) #v[.a<|.c<|.c W] .nil] [M a,M b,M c,M p3,M<|.c w,M<|oD lo,M<|oD hi,M<|j9 L l]=if f=L then .c (.e W)else .a [M a,M b,M c,M p3,M<|.c w,M<|oD lo,M<|oD hi,M<|j9 L l]:=by
 have fd:br (j9 L l)=j9 W l:=by show D.g W (wk l) (aD _)=_;rw[HM]
 have e1:dO .NotIn (.c w) (j9 W l)=.c (.e<|!gw (wk l) (dg w:Key)):=rfl;rw[VD]at e1;rcases R_ l w with g|⟨n,g⟩
 .refine#[L,by simp[wA,g],?_];have e1:dO .NotIn (.c w) (j9 W l)=.c (.e L):=by rw[e1,g];rfl
  generalize j9 L l=dt at fd ⊢;generalize j9 W l=df at e1 fd;simp_arith[fd,e1]
 .have ei:g_ (j9 W l) (.c w)=.c (.b n):=by
   have:=FJ (o:=W) (ks:=wk l) (xs:=wv l) (k:=.inr w);rw[g]at this;exact this
  have e1:dO .NotIn (.c w) (j9 W l)=.c (.e W):=by rw[e1,g];rfl
  have iff:wA l [(w,lo,hi)]↔(∀x,lo=M x->x<=n)/\∀x,hi=M x->n<=x:=#[λh=>by let#[m,q,h]:=h _ aB;rw[Vt g q]at h;exact h,λh b hb=>by rw[aK.mp hb];exact#[n,g,h]];generalize j9 L l=dt at fd ⊢;generalize j9 W l=df at e1 ei fd;cases lo with
  |none=>
   cases hi with
   |none=>
    refine#[W,by rw[iff];simp,?_];unfold oD;simp_arith[fd,e1,ei,d7]
   |some h=>
    refine#[decide<|h<n,by rw[iff];simp,?_];unfold oD;cases e2:decide (h<n)<;>simp_arith[fd,e1,ei,d7,e2]
  |some lo=>
   cases hi with
   |none=>
    refine#[decide<|n<lo,by rw[iff];simp,?_];unfold oD;cases e3:decide (n<lo)<;>simp_arith[fd,e1,ei,d7,e3]
   |some h=>
    refine#[decide (n<lo)||decide (h<n),by rw[iff];simp,?_];unfold oD;cases e3:decide (n<lo)<;>cases e2:decide (h<n)<;>simp_arith[fd,e1,ei,d7,e3,e2,Oz,wg,Df]
noncomputable abbrev N3(rd pd:D)(l:B J)(a b c d e:LD D):bw:=[M rd,M pd,M<|.a W<|C D.b l,a,b,c,d,e]
def ez4(r)(ks)(t)(ht:xU ks t)(y)(hy:nN ks t y)(l:B J)(h:∀z∈r.zs,∃(j:Nat) (p:Pt),bL (C M l) z.1=M (M (j:J))/\bL (C D.b l) z.1=M (.b (j:J))/\t.ps[j]?=M p):∃b:Bool,(b=L↔∀z∈r.zs,∃(j:Nat) (s:B WN),bL (C M l) z.1=M (M (j:J))/\y.sz[j]?=M s/\wA s [z.2])/\qY [cB W r,.a W<|t.ps.map<|cF W,.a W<|C D.b l]=.c (.e b):=by
 have hs:=szl;have Q8:=nM W r;have q:=oF (g:=pG<|.b #v[.a 3,.a 4,.a 5,.a 6]) zD (λd=>d=.e W/\∃z∈r.zs,¬∃(j:Nat) (s:B WN),bL (C M l) z.1=M (M (j:J))/\y.sz[j]?=M s/\wA s [z.2]) r.zs
  (λpre O=>(∀z∈pre,∃(j:Nat) (s:B WN),bL (C M l) z.1=M (M (j:J))/\y.sz[j]?=M s/\wA s [z.2])/\∃a b c d e:LD D,O=N3 (cB W r) (.a W<|t.ps.map<|cF W) l a b c d e) (by
  rintro pre ⟨i,w,lo,hi⟩ hm O ⟨hpre,a,b,c,d,e',rfl⟩;have hm:=qZ hm;let#[j,p,ej,ea,ep]:=h (i,w,lo,hi) hm;have hsz:y.sz[j]?=M p.2:=by rw[hy.sz,aJ,ep];rfl
  have qd:=Vs (ht.p p<|dz ep).2.1 W;have et:bL (t.ps.map<|cF W) (j:J)=M (cF W p):=gh (by rw[aJ,ep];rfl);have ip:g_ (.a W<|t.ps.map<|cF W) (.b (j:J))=.c (cF W p):=by
   unfold g_;simp only[et];show R.c (D.d [.c p.1,.a W<|aD _])=_;rw[dj jN λ_=>rfl]
  have fp:=nj<|e_ W t.ps;have fw:aD (C jN p.2)=C jN p.2:=dj jN (λ_=>rfl) _;have ow:=YF p.2;let#[f,hf,qf]:=rt2 (cB W r) (.a W<|t.ps.map<|cF W) (.a W<|C D.b l) (.b i) w lo hi p.2;refine#[N3 (cB W r) (.a W<|t.ps.map<|cF W) l (M<|.b i) (M<|.c w) (M<|oD lo) (M<|oD hi) e',rfl,?_];have S1:bK [] 1000 ql (N3 (cB W r) (.a W<|t.ps.map<|cF W) l (M<|.b i) (M<|.c w) (M<|oD lo) (M<|oD hi) e')=if f=L then .c (.e W)else .a (N3 (cB W r) (.a W<|t.ps.map<|cF W) l (M<|.b i) (M<|.c w) (M<|oD lo) (M<|oD hi)<|M<|j9 L p.2):=by
   rw[<-qf];unfold ql N3;rw[cJ];generalize cB W r=rd;generalize D.a W (t.ps.map<|cF W)=pd at ip fp ⊢;have S1:pS [] 1000 (.d (.a 7)<|.h .b #v[.b (.b (.a 1)<|.b (.a 2)<|.a 3)<|.c<|.b 1]) [M rd,M pd,M<|.a W<|C D.b l,M<|.b i,M<|.c w,M<|oD lo,M<|oD hi,e']=.a [M rd,M pd,M<|.a W<|C D.b l,M<|.b i,M<|.c w,M<|oD lo,M<|oD hi,M<|j9 L p.2]:=by
    have b1:∀a b:D,bL [a,b] 1=M b:=λ_ _=>rfl;simp_arith[fp,bP,ea,ip,b1,fw,qd,ow]
   rw[S1];rfl
  cases f with
  |true=>
   refine .inr #[_,S1,rfl,_,hm,λ⟨j',s,e1,e2,e3⟩=>?_];rw[ej]at e1;have:j=j':=by cases e1;rfl
   subst this;rw[hsz]at e2;cases e2;cases hf.mpr e3
  |false=>exact .inl #[_,S1,qE hpre #[j,p.2,ej,hsz,hf.mp rfl],_,_,_,_,_,rfl]) (N3 (cB W r) (.a W<|t.ps.map<|cF W) l S S S S S) #[λ_ h=>aI h aF,_,_,_,_,_,rfl]
 have i3:=(v7 r).2.2.2.1;unfold qY zz;unfold N3 at q;generalize ql=QJ at q ⊢;rw[show ER=[]from rfl];generalize cB W r=rd at *;generalize D.a W (t.ps.map<|cF W)=pd at *;rcases q with⟨σ',h1,hS,a,b,c,d,e,rfl⟩|⟨d,h1,rfl,z,hz,hn⟩
 .refine#[L,by simpa using hS,?_];simp_arith[Q8,i3,mK];rw[h1];simp_arith[]
 .refine#[W,#[λh=>(by cases h),λh=>aI (h z hz) hn],?_];simp_arith[Q8,i3,mK];rw[h1];simp_arith[]
abbrev GI:B PG:=[.a qX [],.a pN [],.a qY []]
noncomputable abbrev q_(kd rd td fd pd jd sd:D)(a b c d e:LD D):bw:=[M kd,M rd,M td,M fd,M pd,M jd,M sd,a,b,c,d,e]
theorem Qw:∀(l acc:B J),(acc++l).Nodup->l.foldl lF acc=acc++l
|[],acc,_=>(ee acc).symm
|x::r,acc,h=>by
 have hx:acc.any (·==x)=W:=qL.mpr λy hy e=>by
  rw[gX]at e;exact(cL.mp h).2.2 y hy x aB e
 have e:lF acc x=acc++[x]:=by
  unfold lF;rw[aG (by rw[hx];decide)]
 rw[y9,e,Qw r (acc++[x]) (by rw[bE];exact h),bE];rfl
structure Rw (y:Ry) (r:k9) (l:B J):Prop where
 fit:∀(k:Nat) (v:J),l[k]?=M v->∃t,r.ps[k]?=M t/\pQ y.up t v
 nd:l.Nodup
abbrev gv(l:B J)(i:J):J:=((bL (C M l) i).getD S).getD 0
section
variable{ks:B (Str×Str)} (hk:vF ks) {r:k9} (hr:vG ks r) {t:Th} (ht:xU ks t) {y:Ry} (hy:nN ks t y) {l:B J} (hl:zl l=zl r.ps) (hg:Rw y r l)
 (kd rd td fd pd jd sd:D) (fk:br kd=kd) (Q8:br rd=rd) (fp:br pd=pd)
 (hkd:kd=.a W (bV ks)) (hrd:rd=cB W r) (hfd:fd=.a W (l.map D.b)) (UY:pd=.a W (t.ps.map (cF W)))
include hy in
theorem xV{told:B Str}{i:J}:pQ y.up told i↔∃(j:Nat) (p:Pt),i=(j:J)/\t.ps[j]?=M p/\∃s∈fh ks.reverse p.1,s∈told:=by
 unfold pQ;rw[hy.up];constructor
 .intro z0;let#[j,row,rfl,e,h]:=z0;rw[aJ]at e;let#[p,e',rfl]:=jF.mp e;exact#[j,p,rfl,e',h]
 .intro z0;let#[j,p,rfl,e,h]:=z0;exact#[j,_,rfl,by rw[aJ,e];rfl,h]
theorem YH(j:Nat)(p)(e:t.ps[j]?=M p):g_ (.a W<|t.ps.map<|cF W) (.b<|j)=.c (cF W p):=by
 have et:bL (t.ps.map<|cF W) (j:J)=M (cF W p):=gh (by rw[aJ,e];rfl);unfold g_;simp only[et];show R.c (D.d [.c p.1,.a W<|aD _])=_;rw[dj jN λ_=>rfl]
include hk hy hg fk Q8 fp hkd hrd hfd UY in
theorem tIf:∃a b:LD D,QS (pG<|.b #v[.a 7,.a 8]) (bK GI 1000 j7) (iW 0<|C D.b l) (q_ kd rd td fd pd jd sd S S S S S)=.a (q_ kd rd td fd pd jd sd a b S S S):=by
 have hs:=szl;let#[σ',h1,a,b,rfl]:=K0 (g:=pG<|.b #v[.a 7,.a 8]) (b:=bK GI 1000 j7) D.b l
  (λ_ O=>∃a b:LD D,O=q_ kd rd td fd pd jd sd a b S S S) (by
  intro pre v post e O z0;let#[a,b,rfl]:=z0;let#[told,e1,u]:=hg.fit (zl pre) v (by rw[e];simp);let#[j,p,rfl,e2,hm]:=(xV hy).mp u;have qm:=Jx ks hk p.1 told;rw[yU.mpr hm,<-hkd]at qm;have ip:=YH j p e2;rw[<-UY]at ip;have i0:g_ rd (.b 0)=.c (.a W<|C tS r.ps):=by
   rw[hrd];unfold g_;simp only[A3];show R.c (D.a W<|aD _)=_;rw[eU]
  have at_:bL (C tS r.ps) (zl pre:J)=M (tS told):=gh (by rw[aJ,e1];rfl);refine#[q_ kd rd td fd pd jd sd (M<|.b (zl pre:J)) (M<|.b (j:J)) S S S,q_ kd rd td fd pd jd sd (M<|.b (zl pre:J)) (M<|.b (j:J)) S S S,rfl,?_,_,_,rfl];have b0:∀a b:D,bL [a,b] 0=M a:=λ_ _=>rfl;unfold j7 q_;simp_arith[fk,Q8,fp,ip,b0,i0,eU,at_,bQ,qm,dR]) (q_ kd rd td fd pd jd sd S S S S S) #[_,_,rfl]
 exact#[a,b,h1]
include hr hy hl hfd in
theorem tOp:∃f:J3->Bool,((r.js.all f)=L↔JH r.js y.jk (C M l))/\dK (pG<|.b #v[.a 0,.a 1,.a 2]) (λ_=>.c L) (pE GI<|.d .In (.f #v[.a 0,.b (.a 3)<|.a 1,.b (.a 3)<|.a 2])<|.a 4) (C jD r.js) [S,S,S,M fd,M<|.a W<|C jD t.js]=.c (r.js.map λj=>.e<|f j):=by
 have hs:=szl;refine#[λj=>acM (jD (j.1,gv l j.2.1,gv l j.2.2))<|C jD t.js,?_,?_]
 .rw[bC];refine wx λj=>wx λhj=>?_;rw[D5 (f:=jD) (λq=>by
   let#[x,x1,x2]:=q;show(x==_&&(x1==_&&(x2==_&&L)))=L↔_;simp),<-Sd hy]
  let#[h1,h2]:=hr.j _ hj;let#[v1,_,_,_,a1,_]:=v9 h1 hl;let#[v2,_,_,_,a2,_]:=v9 h2 hl;rw[show gv l j.2.1=v1 by unfold gv;rw[a1];rfl,show gv l j.2.2=v2 by unfold gv;rw[a2];rfl];exact#[λh x1 x2 e1 e2=>by rw[a1]at e1;rw[a2]at e2;cases e1;cases e2;exact h,λh=>h v1 v2 a1 a2]
 refine eK jD (λO=>∃a b c,O=[a,b,c,M fd,M<|.a W<|C jD t.js]) _ r.js _ #[_,_,_,rfl] ?_;rintro⟨w,i,j⟩ hm O ⟨a,b,c,rfl⟩;let#[h1,h2]:=hr.j _ hm;let#[v1,_,_,_,a1,e1]:=v9 h1 hl;let#[v2,_,_,_,a2,e2]:=v9 h2 hl;have e1:bL (C D.b l) i=M (.b v1):=e1;have e2:bL (C D.b l) j=M (.b v2):=e2;have ec:dO .In (.d [.c w,.b v1,.b v2]) (.a W<|C jD t.js)=.c (.e<|acM (jD (w,gv l i,gv l j))<|C jD t.js):=by
  rw[xH rfl (by show gA _ 12=L;exact vE _ _ _ λx=>by simp[l9,gA]),show gv l i=v1 by unfold gv;rw[show bL (C M l) i=M (M v1)from a1];rfl,show gv l j=v2 by unfold gv;rw[show bL (C M l) j=M (M v2)from a2];rfl]
 refine#[[M<|.c w,M<|.b i,M<|.b j,M fd,M<|.a W<|C jD t.js],rfl,#[_,_,_,rfl],?_];subst hfd;show pE _ _ _=R.c (.e<|acM (jD (w,gv l i,gv l j))<|C jD t.js);generalize acM (jD (w,gv l i,gv l j)) (C jD t.js)=q at ec ⊢;simp_arith[bP,e1,e2,dD,ec]
include hk hr hl fk hkd hfd in
theorem ago(told:B Str)(nums:B J)(hm:(told,nums)∈r.cl)(j:Nat)(p:Pt)(a:LD D):∃b:Bool,(b=L↔((∃s∈fh ks.reverse p.1,s∈told)->∃i∈nums,(bL (C M l) i).getD S=M (j:J))) /\
  bK GI 1000 ji (q_ kd rd td fd pd jd sd a (M<|.b (j:J)) (M<|tS told) (M<|tI nums)<|M<|cF W p)=if b=L then .a (q_ kd rd td fd pd jd sd a (M<|.b (j:J)) (M<|tS told) (M<|tI nums)<|M<|cF W p)else .c (.e W):=by
 have hs:=szl;have qm:=Jx ks hk p.1 told;rw[<-hkd]at qm;have b0:∀a b:D,bL [a,b] 0=M a:=λ_ _=>rfl;have fw:aD (C jN p.2)=C jN p.2:=dj jN (λ_=>rfl) _;cases c:told.any λs=>acM (.c s) (C D.c (fh ks.reverse p.1))with
 |false=>
  rw[c]at qm;refine#[L,#[λ_ z=>(by rw[yU.mpr z]at c;cases c),λ_=>rfl],?_];unfold ji q_;simp_arith[fk,b0,fw,bQ,qm]
 |true=>
  rw[c]at qm;have qc:dK (pG<|.a 0) (λ_=>.c L) (pE GI<|.b (.a 1)<|.a 0) (C D.b nums) [S,M fd]=.c (C D.b (nums.map<|gv l)):=by
   rw[bG,hfd];refine eK D.b (λO=>∃o,O=[o,M<|.a W<|C D.b l]) _ nums _ #[_,rfl] ?_;rintro i hi O ⟨o,rfl⟩;let#[v,k,_,_,e2,e1]:=v9 (hr.c _ hm i hi) hl;refine#[[M<|.b i,M<|.a W<|C D.b l],rfl,#[_,rfl],?_];show _=R.c (D.b<|gv l i);rw[show gv l i=v by unfold gv;rw[e2];rfl];simp_arith[bP,e1]
  have hin:acM (.b (j:J)) (C D.b (nums.map<|gv l))=L↔((∃s∈fh ks.reverse p.1,s∈told)->∃i∈nums,(bL (C M l) i).getD S=M (j:J)):=by
   rw[D6,bF];refine#[λ⟨i,hi,e⟩ _=>#[i,hi,?_],λh=>?_]
   .let#[v,_,_,_,e2,_]:=v9 (hr.c _ hm i hi) hl;unfold gv at e;rw[e2]at e ⊢;exact fY M e
   .let#[i,hi,e]:=h<|yU.mp c;exact#[i,hi,by unfold gv;rw[e];rfl]
  have nn:=Ab<|nums.map<|gv l;have e3:∀o,dO .NotIn (.b (j:J)) (.a o<|C D.b (nums.map<|gv l))=.c (.e<|!acM (.b (j:J)) (C D.b (nums.map<|gv l))):=λo=>mh rfl nn;refine#[_,hin,?_];clear hin nn;generalize C (gv l) nums=ys at qc e3 ⊢;unfold ji q_;cases e:acM (.b (j:J)) (C D.b ys)<;>rw[e]at e3<;>simp_arith[fk,b0,fw,bQ,qm,bP,qc,e3,dR,eu]
include hk hr hy hl fk hkd hfd fp UY in
theorem tOr(a b:LD D):(∃b' c' d' e':LD D,QS (pG<|.b #v[.a 9,.a 10]) (bK GI 1000 jl) (C cD r.cl) (q_ kd rd td fd pd jd sd a b S S S)=.a (q_ kd rd td fd pd jd sd a b' c' d' e')/\∀c∈r.cl,∀v,pQ y.up c.1 v->∃i∈c.2,(bL (C M l) i).getD S=M v)\/(QS (pG<|.b #v[.a 9,.a 10]) (bK GI 1000 jl) (C cD r.cl) (q_ kd rd td fd pd jd sd a b S S S)=.c (.e W)/\∃c∈r.cl,¬∀v,pQ y.up c.1 v->∃i∈c.2,(bL (C M l) i).getD S=M v):=by
 have q:=oF (g:=pG<|.b #v[.a 9,.a 10]) (b:=bK GI 1000 jl) cD (λd=>d=.e W/\∃c∈r.cl,¬∀v,pQ y.up c.1 v->∃i∈c.2,(bL (C M l) i).getD S=M v) r.cl
  (λpre O=>(∀c∈pre,∀v,pQ y.up c.1 v->∃i∈c.2,(bL (C M l) i).getD S=M v)/\∃b c d e:LD D,O=q_ kd rd td fd pd jd sd a b c d e) (by
  rintro pre ⟨told,nums⟩ hm O ⟨hpre,b,c,d,e',rfl⟩;have hm:=qZ hm;have q:=NV (g:=pG<|.b #v[.a 8,.a 11]) (b:=bK GI 1000 ji) (cF W) (λd=>d=.e W/\∃(j:Nat) (p:Pt),t.ps[j]?=M p/\¬((∃s∈fh ks.reverse p.1,s∈told)->∃i∈nums,(bL (C M l) i).getD S=M (j:J))) t.ps
   (λpre O=>(∀(j:Nat) (p:Pt),pre[j]?=M p->(∃s∈fh ks.reverse p.1,s∈told)->∃i∈nums,(bL (C M l) i).getD S=M (j:J))/\∃b e:LD D,O=q_ kd rd td fd pd jd sd a b (M<|tS told) (M<|tI nums) e) (by
   intro pre p post e O z0;let#[hp,b,e',rfl]:=z0;let#[f,hf,qf]:=ago hk hr hl kd rd td fd pd jd sd fk hkd hfd told nums hm (zl pre) p a;refine#[_,rfl,?_];cases f with
   |true=>
    refine .inl #[_,qf,λj q hq=>?_,_,_,rfl];by_cases c:j<zl pre
    .rw[bJ c]at hq;exact hp j q hq
    .have:=(aW.mp hq).1;have ej:j=zl pre:=by simp at this;omega
     subst ej;simp at hq;subst hq;exact hf.mp rfl
   |false=>exact .inr #[_,qf,rfl,zl pre,p,by rw[e];simp,λz=>by cases hf.mpr z]) (q_ kd rd td fd pd jd sd a b (M<|tS told) (M<|tI nums) e') #[λj p h=>(by simp at h),_,_,rfl]
  refine#[q_ kd rd td fd pd jd sd a b (M<|tS told) (M<|tI nums) e',rfl,?_];have en:ZR pd=.c (W,iW 0<|t.ps.map<|cF W):=by
   rw[UY];show R.c (_,iW 0<|aD _)=_;rw[e_];rfl
  unfold jl;unfold q_ at q ⊢;generalize ji=QJ at q ⊢;rcases q with⟨σ',h1,hS,b2,e2,rfl⟩|⟨d,h1,rfl,j,p,ep,hn⟩
  .refine .inl #[[M kd,M rd,M td,M fd,M pd,M jd,M sd,a,b2,M<|tS told,M<|tI nums,e2],?_,qE hpre λv hv=>?_,_,_,_,_,rfl]
   .simp_arith[fp,en];rw[h1];simp_arith[]
   .let#[j,p,rfl,e1,h2]:=(xV hy).mp hv;exact hS j p e1 h2
  .refine .inr #[.e W,?_,rfl,_,hm,λh=>hn λz=>h _<|(xV hy).mpr #[j,p,rfl,ep,z]];simp_arith[fp,en];rw[h1];simp_arith[]) (q_ kd rd td fd pd jd sd a b S S S) #[λ_ h=>aI h aF,_,_,_,_,rfl]
 rcases q with⟨σ',h1,hS,b',c',d',e',rfl⟩|⟨d,h1,rfl,hn⟩
 .exact .inl #[b',c',d',e',h1,hS]
 .exact .inr #[h1,hn]
end
section
variable{ks:B (Str×Str)} (hk:vF ks) {r:k9} (hr:vG ks r) {t:Th} (ht:xU ks t) {y:Ry} (hy:nN ks t y) {l:B J} (hl:zl l=zl r.ps) (hg:Rw y r l)
include hk hr ht hy hl hg in
theorem f1':∃b:Bool,(b=L↔Fd y r l)/\m_ [.a W<|bV ks,cB W r,fR t,.a W<|C D.b l]=.c (.e b):=by
 have hs:=szl;have fk:=K1 ks;have Q8:br (cB W r)=cB W r:=nM W r;have fp:=nj<|e_ W t.ps;let#[a,b,h1]:=tIf hk hy hg (.a W<|bV ks) (cB W r) (fR t) (.a W<|C D.b l) (.a W<|t.ps.map<|cF W) (.a W<|C jD t.js) (.a W<|C sD t.st) fk Q8 fp rfl rfl rfl rfl;let#[f,hj,h4]:=tOp hr hy hl (.a W<|C D.b l) rfl;have h5:=tOr hk hr hy hl (.a W<|bV ks) (cB W r) (fR t) (.a W<|C D.b l) (.a W<|t.ps.map<|cF W) (.a W<|C jD t.js) (.a W<|C sD t.st) fk fp rfl rfl rfl a b;let#[bb,Uz,hb]:=ez4 r ks t ht y hy l λz hz=>by
  let#[v,k,ek,e2,e1,e4]:=v9 (hr.z z hz).1 hl;let#[told,_,u]:=hg.fit _ _ e2;let#[j,p,rfl,e3,_]:=(xV hy).mp u;exact#[j,p,e1,e4,e3]
 let#[bs,WY,hst]:=exH r hr.s t.st ht.s10 l hl;rw[<-hy.st]at WY;have fin:Fd y r l↔bb=L/\r.js.all f=L/\(∀c∈r.cl,∀v,pQ y.up c.1 v->∃i∈c.2,(bL (C M l) i).getD S=M v)/\bs=L:=by
  rw[Uz,hj,WY];exact#[λh=>#[h.bo,h.jh,h.sh,h.sp],λz0=>by let#[h1,h2,h3,h4]:=z0;exact #[hl,hg.fit,hg.nd,h1,h2,h4,h3]]
 clear Uz hj WY;have l4:zl l<4000:=by rw[hl];have:=hr.p.1;omega
 have qn:GX (.a W<|C D.b l)=.c (.b (zl l:J)):=by
  rw[P_ (Ql l) l4,show wQ l=l from Qw l [] hg.nd]
 have lf:h_ .a [.a W<|C D.b l]=.c (.b (zl l:J)):=by show R.c (D.b (zl (C D.b l):J))=_;rw[aa]
 have el:decide ((zl l:J)<(zl l:J))=W:=bM (by omega);let#[_,a2,a3]:=Ac f r.js;have i1:=(v7 r).2.1;have i2:=(v7 r).2.2.1;have ff:br (.a W<|C D.b l)=.a W (C D.b l):=by show D.a W (aD _)=_;rw[bP]
 have en:ZR (.a W<|C D.b l)=.c (W,iW 0<|C D.b l):=by
  show R.c (_,iW 0<|aD _)=_;rw[bP];rfl
 unfold m_ uZ;rw[show zZ=GI from rfl];unfold q_ at h1 h5;have fj:=nj<|dD t.js;have fs:=nj<|cV t.st;have op:aX (.a W<|t.ps.map<|cF W)=W:=rfl;generalize j7=B3 at h1 ⊢;generalize jl=B2 at h5 ⊢;unfold fR at h1 h5 ⊢;generalize D.a W (C D.b l)=fd at *;generalize D.a W (t.ps.map<|cF W)=pd at *;generalize D.a W (C jD t.js)=jd at *;generalize D.a W (C sD t.st)=sd at *;generalize D.a W (bV ks)=kd at *;generalize hrd:cB W r=rd at *;generalize(r.js.map λj=>D.e<|f j)=fs' at *;cases bb with
 |false=>
  refine#[W,by rw[fin];simp,?_];simp_arith[fp,fj,fs,fk,Q8,ff,op,nB,nq,en];rw[h1];simp_arith[ff,Q8,fp,fj,fs,qn,lf,el,hb,eu]
 |true=>
  cases c:r.js.all f with
  |false=>
   rw[c]at a3;refine#[W,by rw[fin,c];simp,?_];simp_arith[fp,fj,fs,fk,Q8,ff,op,nB,nq,en];rw[h1];simp_arith[ff,Q8,fp,fj,fs,qn,lf,el,hb,i2,dD,h4,a2,a3,dR,eu]
  |true=>
   rw[c]at a3;rcases h5 with⟨b',c',d',e',h5,hcl⟩|⟨h5,c',hc,hn⟩
   .refine#[bs,by rw[fin,c];exact#[λh=>#[rfl,rfl,hcl,h],λh=>h.2.2.2],?_];simp_arith[fp,fj,fs,fk,Q8,ff,op,nB,nq,en];rw[h1];simp_arith[ff,Q8,fp,fj,fs,qn,lf,el,hb,i2,dD,h4,a2,a3,dR,i1,kh];rw[h5];simp_arith[ff,Q8,fs,hst]
   .refine#[W,by rw[fin];exact#[λh=>(by cases h),λh=>aI (h.2.2.1 c' hc) hn],?_];simp_arith[fp,fj,fs,fk,Q8,ff,op,nB,nq,en];rw[h1];simp_arith[ff,Q8,fp,fj,fs,qn,lf,el,hb,i2,dD,h4,a2,a3,dR,i1,kh];rw[h5];simp_arith[]
end
def Xo{n:Nat}{a b:B J}(h1:Lx n a b)(h2:Lx n b a):bu:=by
 let#[k,_,e1,x,y,a1,a2,lt]:=h1;let#[m,_,e2,u,v,b1,b2,Rm]:=h2;rcases Ep k m with c|c|c
 .simp_all
 .subst c;rw[a1]at b2;rw[a2]at b1;cases b1;cases b2;lia
 .simp_all
def agp{n:Nat}{a b:B J}(ha:zl a=n)(hb:zl b=n)(h1:¬Lx n a b)(h2:¬Lx n b a):a=b:=by
 have go:∀k,k<=n->∀j,j<k->a[j]?=b[j]?:=by
  intro k;induction k with
  |zero=>simp
  |succ k ih=>
   intro hk j hj;by_cases c:j=k
   .subst c;have i:=ih (by lia);have e1:=ai (show j<zl a by lia);have e2:=ai (show j<zl b by lia);rcases Int.lt_trichotomy a[j] b[j]with z|z|z
    .exact aI #[j,by lia,i,_,_,e1,e2,z] h1
    .rw[e1,e2,z]
    .exact aI #[j,by lia,λq hq=>(i q hq).symm,_,_,e2,e1,z] h2
   .exact ih (by lia) j (by lia)
 refine Er λj=>?_;by_cases c:j<n
 .exact go n (aM n) j c
 .simp_all
def v8.eq{n:Nat}{P:B J->Prop}(hP:∀l,P l->zl l=n){x y:R D}(h1:v8 n P x)(h2:v8 n P y):x=y:=by
 rcases h1 with⟨e1,n1⟩|⟨l,a1,a2,e1⟩<;>rcases h2 with⟨e2,n2⟩|⟨l',b1,b2,e2⟩
 .rw[e1,e2]
 .simp_all
 .simp_all
 .rw[e1,e2,agp (hP l a1) (hP l' b1) (b2 l a1)<|a2 l' b1]
open Classical in
noncomputable def nx(y:Ry)(told:B Str)(m:Nat)(x:B J):B (B J):=((bW m).filter λj:Nat=>decide<|(j:J)∉x/\pQ y.up told (j:J)).map λ(j:Nat)=>x++[(j:J)]
def N4(y)(told)(m)(x):zl (nx y told m x)<=m:=by
 unfold nx;rw[aa];exact cu (sX _ _)<|by simp
theorem N5{α β:Type}{f:α->B β}{m:Nat}(h:∀x,zl (f x)<=m):∀l:B α,zl (l.flatMap f)<=zl l*m
|[]=>cN _
|x::l=>by
 rw[List.flatMap_cons,aZ,cX,Nat.add_one_mul];have:=N5 h l;have:=h x
 lia
structure RI (y:Ry) (r:k9) (k:Nat) (Q9:B (B J)):Prop where
 mem:∀l,l∈Q9↔Rw y r l/\zl l=k
 pw:Q9.Pairwise (Lx k)
 len:zl Q9<=15 ^ k
open Classical in
theorem RI.step{y:Ry}{r:k9}{k:Nat}{Q9:B<|B J}(h:RI y r k Q9){told:B Str}(ht:r.ps[k]?=M told){m:Nat}(hm:zl y.up=m)(h15:m<=15):RI y r (k+1) (Q9.flatMap<|nx y told m):=by
 have mn:∀x l,l∈nx y told m x↔∃j:Nat,(j:J)∉x/\pQ y.up told (j:J)/\x++[(j:J)]=l:=λx l=>by
  unfold nx;rw[bF];constructor
  .intro z0;let#[j,hj,e]:=z0;let#[h1,h2]:=aC (i9.mp hj).2;exact#[j,h1,h2,e]
  .intro z0;let#[j,h1,h2,e]:=z0;refine#[j,i9.mpr #[fJ.mpr ?_,aU #[h1,h2]],e];let#[j',row,e1,e2,_]:=h2;have:=(aW.mp e2).1;omega
 refine#[λl=>?_,List.pairwise_flatMap.mpr #[λx hx=>?_,h.pw.imp λ{a b} hab u hu v hv=>?_],?_]
 .rw[yl];constructor
  .intro z0;let#[x,hx,hl]:=z0;let#[j,h1,h2,rfl]:=(mn x l).mp hl;let#[g,gl]:=(h.mem x).mp hx;refine#[#[λi v e=>?_,cL.mpr #[g.nd,by simp,λa ha b hb=>by rw[aK.mp hb];exact λz=>h1<|z▸ha]],by simp[gl]];by_cases c:i<zl x
   .rw[bJ c]at e;exact g.fit i v e
   .have:=(aW.mp e).1;have ei:i=zl x:=by simp at this;omega
    subst ei;simp at e;subst e;exact#[told,by rw[gl];exact ht,h2]
  .rintro⟨g,gl⟩;have e:=ai (show k<zl l by omega);let#[t',ht',u]:=g.fit k _ e;rw[ht]at ht';cases ht';let#[j,row,ej,_]:=id u;have el:l.take k++[(j:J)]=l:=by
    rw[<-ej,List.take_append_getElem,fP<|by omega]
   refine#[l.take k,(h.mem _).mpr #[#[λi v e=>g.fit i v (by rw[vR]at e;split at e<;>first|exact e|cases e),g.nd.sublist<|Eh _ _],by rw[cM];omega],(mn _ _).mpr #[j,λz=>?_,by rw[<-ej];exact u,el]];have:=g.nd;rw[<-el]at this;exact(cL.mp this).2.2 _ z _ aB rfl
 .let#[g,gl]:=(h.mem x).mp hx;unfold nx;refine kc.mpr ((List.pairwise_lt_range.filter _).imp λ{i j} hij=>#[k,by omega,λq hq=>?_,(i:J),(j:J),?_,?_,by omega])
  .rw[bJ<|by omega,bJ<|by omega]
  .rw[<-gl];simp
  .rw[<-gl];simp
 .let#[i,_,_,rfl]:=(mn a u).mp hu;let#[j,_,_,rfl]:=(mn b v).mp hv;let#[q,hq,e,c,d,e1,e2,lt]:=hab;have l1:=(aW.mp e1).1;have l2:=(aW.mp e2).1;exact#[q,by omega,λp hp=>by rw[bJ<|by omega,bJ<|by omega];exact e p hp,c,d,by rw[bJ l1];exact e1,by rw[bJ l2];exact e2,lt]
 .have:=N5 (f:=nx y told m) (λx=>cu (N4 y told m x) h15) Q9;rw[Nat.pow_succ];exact cu this<|Nat.mul_le_mul_right 15 h.len
abbrev GQ:B PG:=[.a m_ [],.a pN []]
abbrev qS(kd rd td ro:D)(k lg rw pl:LD D):bw:=[M kd,M rd,M td,M ro,k,lg,rw,pl]
abbrev Bx(A:B<|B J):D:=.a L<|A.map<|b_ L
section
variable{ks:B (Str×Str)} (hk:vF ks) {r:k9} (hr:vG ks r) {t:Th} (ht:xU ks t) {y:Ry} (hy:nN ks t y)
include hk hy in
open Classical in
theorem tk2(ro:D)(k:Nat)(told:B Str)(hkt:r.ps[k]?=M told)(j:Nat)(hj:j<zl t.ps)(x:B J)(hx:zl x<=5)(A:B<|B J)(hA:zl A<16000000):bK GQ 1000 pF (qS (.a W<|bV ks) (cB W r) (fR t) ro (M<|.b (k:J)) (M<|Bx A) (M<|b_ W x)<|M<|.b (j:J))=.a (qS (.a W<|bV ks) (cB W r) (fR t) ro (M<|.b (k:J)) (M (Bx (if(j:J)∉x/\pQ y.up told (j:J)then A++[x++[(j:J)]]else A))) (M<|b_ W x)<|M<|.b (j:J)):=by
 have hs:=szl;have fk:=K1 ks;have Q8:br (cB W r)=cB W r:=nM W r;have Td:br (fR t)=fR t:=mL W W W W t;have ep:=ai hj;generalize t.ps[j]=p at ep;have qm:=Jx ks hk p.1 told;have ui:pQ y.up told (j:J)↔(told.any λs=>acM (.c s)<|C D.c (fh ks.reverse p.1))=L:=by
  rw[yU,xV hy];exact#[λ⟨j',p',e,e2,h⟩=>by rw[<-BG.mp e,ep]at e2;cases e2;exact h,λh=>#[j,p,rfl,ep,h]]
 generalize(told.any λs=>acM (.c s)<|C D.c (fh ks.reverse p.1))=ne_e at qm ui;have mi:=D6 (j:J) x;have e1:dO .NotIn (.b (j:J)) (.a W<|C D.b x)=.c (.e<|!acM (.b (j:J)) (C D.b x)):=mh rfl<|Ab x;have i0:=(v7 r).1;have at_:bL (C tS r.ps) (k:J)=M (tS told):=gh (by rw[aJ,hkt];rfl);have t0:g_ (fR t) (.b 0)=.c (.a W<|t.ps.map<|cF W):=by
  show R.c (D.a W<|aD _)=_;rw[e_]
 have ip:=YH j p ep;have fp:=nj<|e_ W t.ps;have b0:∀a b:D,bL [a,b] 0=M a:=λ_ _=>rfl;generalize D.a W (t.ps.map<|cF W)=pd at t0 ip fp;generalize D.a W (bV ks)=kd at *;generalize cB W r=rd at *;generalize fR t=td at *;unfold pF qS;cases c:acM (.b (j:J)) (C D.b x)with
 |true=>
  rw[aG λz=>z.1<|mi.mp c];rw[c]at e1;simp_arith[bP,e1,dR]
 |false=>
  rw[c]at e1;have hn:(j:J)∉x:=λz=>by rw[mi.mpr z]at c;cases c
  cases ne_e with
  |false=>
   rw[aG λz=>by cases ui.mp z.2];simp_arith[bP,e1,eu,fk,Q8,Td,t0,ip,fp,b0,i0,at_,eU,bQ,qm]
  |true=>
   rw[aH #[hn,ui.mpr rfl]];have ea:lq .Add (.a W<|C D.b x) (.a L [.b (j:J)])=.c (.a L<|C D.b (x++[(j:J)])):=by
    rw[nD (by rw[aa];simp;omega),bP,bl];rfl
   generalize x++[(j:J)]=z at ea ⊢;simp_arith[bP,e1,eu,fk,Q8,Td,t0,ip,fp,b0,i0,at_,eU,bQ,qm,ea];rw[iu (xs:=A.map<|b_ L) rfl (by rw[hs,aa];omega) (by show((L&&bq _)||_)=L;rw[gT];rfl)];simp_arith[gT];rw[Bx,bl];rfl
include hk hr ht hy in
open Classical in
theorem tk4(ro:D)(k:Nat)(told:B Str)(hkt:r.ps[k]?=M told)(x:B J)(hx:zl x<=5)(A:B<|B J)(hA:zl A<15000000)(pl:LD D):∃U0:LD D,
  bK GQ 1000 pH (qS (.a W<|bV ks) (cB W r) (fR t) ro (M<|.b (k:J)) (M<|Bx A) (M<|b_ W x) pl)=.a (qS (.a W<|bV ks) (cB W r) (fR t) ro (M<|.b (k:J)) (M<|Bx<|A++nx y told (zl t.ps) x) (M<|b_ W x) U0):=by
 have hs:=szl;have lI:=ht.p7;let#[σ',h1,U0,rfl]:=iY (g:=pG<|.a 7) (b:=bK GQ 1000 pF) (zl t.ps)
  (λn O=>∃U0:LD D,O=qS (.a W<|bV ks) (cB W r) (fR t) ro (M<|.b (k:J)) (M<|Bx<|A++nx y told n x) (M<|b_ W x) U0) (by
  rintro j hj O ⟨U0,rfl⟩;have hl:=N4 y told j x;refine#[_,_,rfl,tk2 hk hy ro k told hkt j hj x hx (A++nx y told j x) (by rw[aZ];omega),M<|.b (j:J),?_];have e:(if(j:J)∉x/\pQ y.up told (j:J)then A++nx y told j x++[x++[(j:J)]]else A++nx y told j x)=A++nx y told (j+1) x:=by
   unfold nx;rw[Im,List.filter_append,bl];by_cases c:(j:J)∉x/\pQ y.up told (j:J)
   .rw[aH c,bE];simp[c.1,c.2]
   .rw[aG c];simp only[List.filter_cons,bM c,gg,iN,List.filter_nil,dZ,ee]
  rw[e]) (qS (.a W<|bV ks) (cB W r) (fR t) ro (M<|.b (k:J)) (M<|Bx A) (M<|b_ W x) pl) #[pl,by rw[show nx y told 0 x=[]from rfl,ee]]
 refine#[U0,?_];have t0:g_ (fR t) (.b 0)=.c (.a W<|t.ps.map<|cF W):=by
  show R.c (D.a W<|aD _)=_;rw[e_]
 have Td:br (fR t)=fR t:=mL W W W W t;have lp:=Jl W (cF W) t.ps;have fp:=nj<|e_ W t.ps;unfold pH;generalize pF=QJ at h1 ⊢;unfold qS at h1 ⊢;generalize UY:D.a W (t.ps.map<|cF W)=pd at t0 lp fp;generalize fR t=td at *;generalize D.a W (bV ks)=kd at *;generalize cB W r=rd at *;generalize Bx A=la at *;generalize Bx (A++nx y told (zl t.ps) x)=lb at *;simp_arith[Td,t0,fp,lp,eN];rw[h1];simp_arith[]
include hk hr ht hy in
theorem tq'(k:Nat)(told:B Str)(hkt:r.ps[k]?=M told)(Q9:B<|B J)(hL:RI y r k Q9)(Yy:k<5)(o:Bool)(a b c:LD D):∃b' c':LD D,
  bK GQ 1000 pJ (qS (.a W<|bV ks) (cB W r) (fR t) (.a o<|Q9.map<|b_ o) (M<|.b (k:J)) a b c)=.a (qS (.a W<|bV ks) (cB W r) (fR t) (.a W<|(Q9.flatMap<|nx y told<|zl t.ps).map<|b_ W) (M<|.b (k:J)) (M<|.a W<|(Q9.flatMap<|nx y told<|zl t.ps).map<|b_ W) b' c'):=by
 have hs:=szl;have lI:=ht.p7;have runD':zl Q9<=15 ^ 4:=cu hL.len (Nat.pow_le_pow_right (by omega)<|by omega);let#[σ',h1,b',c',rfl]:=K2.lW (g:=pG<|.a 6) (b:=bK GQ 1000 pH) (b_ W) Q9
  (λpre O=>∃b' c':LD D,O=qS (.a W<|bV ks) (cB W r) (fR t) (.a W<|Q9.map<|b_ W) (M<|.b (k:J)) (M<|Bx<|pre.flatMap<|nx y told<|zl t.ps) b' c') (by
  intro pre x post e O z0;let#[b',c',rfl]:=z0;have Zb:=((hL.mem x).mp (by rw[e];simp)).2;have hp:zl pre<=zl Q9:=by rw[e];simp
  have:=N5 (f:=nx y told<|zl t.ps) (λx=>cu (N4 y told (zl t.ps) x) lI) pre;let#[U0,q]:=tk4 hk hr ht hy (.a W<|Q9.map<|b_ W) k told hkt x (by omega) (pre.flatMap<|nx y told<|zl t.ps) (by omega) c';exact#[_,_,rfl,q,_,_,by rw[BP,List.flatMap_singleton]]) (qS (.a W<|bV ks) (cB W r) (fR t) (.a W<|Q9.map<|b_ W) (M<|.b (k:J)) (M<|Bx []) b c) #[_,_,rfl]
 refine#[b',c',?_];have fL:∀o,aD (Q9.map<|b_ o)=C (b_ W) Q9:=λo=>jy o Q9;have f2:aD ((Q9.flatMap<|nx y told<|zl t.ps).map<|b_ L)=C (b_ W) (Q9.flatMap<|nx y told<|zl t.ps):=jy _ _;have o2:bq ((Q9.flatMap<|nx y told<|zl t.ps).map<|b_ L)=L:=LY _;unfold pJ;generalize pH=QJ at h1 ⊢;unfold qS Bx at h1;unfold qS;rw[dZ]at h1;generalize fR t=td at *;generalize D.a W (bV ks)=kd at *;generalize cB W r=rd at *;generalize Q9.flatMap (nx y told<|zl t.ps)=R4 at *;have oL:=LY Q9;cases o<;>simp_arith[fL,oL]<;>rw[h1]<;>simp_arith[f2,o2]
theorem ri_0(y)(r):RI y r 0 [[]]:=#[λl=>#[λh=>by rw[aK.mp h];exact#[#[λk v e=>(by simp at e),gZ],rfl],λh=>by rw[List.length_eq_zero_iff.mp h.2];exact List.mem_singleton_self _],List.pairwise_singleton _ _,aM _]
include hk hr ht hy in
theorem f2':v8 (zl r.ps) (Fd y r) (lV [.a W<|bV ks,cB W r,fR t]):=by
 have hs:=szl;have p5:=hr.p.1;have Q8:br (cB W r)=cB W r:=nM W r;have Td:br (fR t)=fR t:=mL W W W W t;have fk:=K1 ks;have i0:=(v7 r).1;have lr:=Jl W tS r.ps;let#[σ',h1,Q9,o,a,b,c,d,hL,rfl]:=iY (g:=pG<|.a 4) (b:=bK GQ 1000 pJ) (zl r.ps)
  (λk O=>∃(Q9:B<|B J) (o:Bool) (a b c d:LD D),RI y r k Q9/\O=qS (.a W<|bV ks) (cB W r) (fR t) (.a o<|Q9.map<|b_ o) a b c d) (by
  intro k Yy O z0;let#[Q9,o,a,b,c,d,hL,rfl]:=z0;have e:=ai Yy;let#[b',c',q]:=tq' hk hr ht hy k _ e Q9 hL (by omega) o b c d;exact#[_,_,rfl,q,_,W,_,_,_,_,hL.step e (by rw[hy.up,aa]) ht.p7,rfl]) (qS (.a W<|bV ks) (cB W r) (fR t) (.a L [.a L []]) S S S S) #[[[]],L,_,_,_,_,ri_0 y r,rfl]
 have q:=oF (g:=pG<|.a 6) (b:=bK GQ 1000 t7) (b_ W) (λd=>∃l:B J,Fd y r l/\(∀l',Fd y r l'->¬Lx (zl r.ps) l' l)/\d=.a W (C D.b l)) Q9 (λpre O=>(∀l∈pre,¬Fd y r l)/\∃c,O=qS (.a W<|bV ks) (cB W r) (fR t) (.a W<|Q9.map<|b_ W) a b c d) (by
  rintro pre x ⟨post,e⟩ O ⟨hp,c,rfl⟩;let#[hw,Zb]:=(hL.mem x).mp (by rw[e];simp);let#[f,hf,qf]:=f1' hk hr ht hy Zb hw;refine#[qS (.a W<|bV ks) (cB W r) (fR t) (.a W<|Q9.map<|b_ W) a b (M<|b_ W x) d,rfl,?_];have pw:=hL.pw;generalize D.a W (Q9.map<|b_ W)=ld;generalize D.a W (bV ks)=kd at *;generalize cB W r=rd at *;generalize fR t=td at *;unfold t7 qS;cases f with
  |true=>
   refine .inr #[.a W<|C D.b x,?_,x,hf.mp rfl,λl' g lx=>?_,rfl]
   .simp_arith[fk,Q8,Td,bP,qf]
   .have hm:=(hL.mem l').mpr #[#[g.fit,g.nd],g.len];rw[e]at hm pw;rcases bh.mp hm with z|z
    .exact hp l' z g
    .rcases aO.mp z with z|z
     .rw[z]at lx;exact Xo lx lx
     .exact Xo lx ((vQ.mp (Bk.mp pw).2.1).1 l' z)
  |false=>
   refine .inl #[_,?_,qE (P:=λl=>¬Fd y r l) hp (λz=>(by cases hf.mpr z)),M<|b_ W x,rfl];simp_arith[fk,Q8,Td,bP,qf]) (qS (.a W<|bV ks) (cB W r) (fR t) (.a W<|Q9.map<|b_ W) a b c d) #[λ_ h=>aI h aF,_,rfl]
 have fL:∀o,aD (Q9.map<|b_ o)=C (b_ W) Q9:=λo=>jy o Q9;have oL:=LY Q9;unfold lV CK;rw[show KL=GQ from rfl];unfold qS at h1 q;generalize t7=B1 at q ⊢;generalize pJ=B4 at h1 ⊢;generalize D.a W (bV ks)=kd at *;generalize hrd:cB W r=rd at *;generalize fR t=td at *;rcases q with⟨σ',h2,hno,c',rfl⟩|⟨d',h2,l,g1,g2,rfl⟩
 .refine .inl #[?_,λl g=>hno l ((hL.mem l).mpr #[#[g.fit,g.nd],g.len]) g];simp_arith[Q8,i0,lr,eN,eU];rw[h1];cases o<;>simp_arith[fL,oL]<;>rw[h2]<;>simp_arith[]
 .refine .inr #[l,g1,g2,?_];simp_arith[Q8,i0,lr,eN,eU];rw[h1];cases o<;>simp_arith[fL,oL]<;>rw[h2]<;>simp_arith[]
end
abbrev vS(sc rd kd:D)(ps:B<|B Str):bw:=[M sc,M rd,M kd,M<|.a L<|C tS ps]
section
variable(ns:B J) (ks:B (Str×Str)) (hk:vF ks)
include hk
theorem rv1(rd)(ps)(hp:zl ps<5):∃q:Str,q∈C (·.1) ks/\bK [.a d9 []] 1000 qT (vS (bz ns) rd (.a W<|bV ks) ps)=.a (vS (bz ns) rd (.a W<|bV ks)<|ps++[[q]]):=by
 have hs:=szl;let#[m,m0,m1,qm]:=kX ns (230+(zl ps:J)) (by lia);have kp:(0:J)<(zl ks:J):=by have:=hk.l3;lia
 have b1:=dm m kp;let#[j,hj,ej,ea]:=jx (bV ks) (m%(zl ks:J)) b1.1 (by rw[aa];exact b1.2);rw[dP]at ea;generalize hq:ks[j]'(by simpa using hj)=q at ea;refine#[q.1,bF.mpr #[q,by rw[<-hq];exact cK _,rfl],?_];have RA:=cQ ns;unfold qT vS;generalize bz ns=sc at *;simp_arith[kg,ea,z7,D3,RA,eU,qm];rw[iu rfl (by rw[hs,aa];lia) rfl];simp_arith[bl,bB,dZ];rfl
theorem YI(rd:D):∀(n:Nat) (ps:B<|B Str) (fuel:Nat),zl ps+n=5->n<fuel->(∀t∈ps,(t≠[]/\zl t<=3)/\∀s∈t,s∈C (·.1) ks)->∃ps':B<|B Str,zl ps'=5/\(∀t∈ps',(t≠[]/\zl t<=3)/\∀s∈t,s∈C (·.1) ks) /\
 tR (pT [.a d9 []]<|.d .Lt (.h .a #v[.a 3])<|.c<|.b 5) (bK [.a d9 []] 1000 qT) fuel (vS (bz ns) rd (.a W<|bV ks) ps)=.a (vS (bz ns) rd (.a W<|bV ks) ps')
|0,ps,f+1,h,_,hp=>by
 refine#[ps,h,hp,?_];have e:decide ((zl ps:J)<5)=W:=bM (by lia);show(pT _ _ _).bH _=_;unfold vS;simp_arith[eU,e]
|n+1,ps,f+1,h,h2,hp=>by
 let#[q,hq,qb]:=rv1 ns ks hk rd ps (by lia);let#[ps',g1,g2,g3]:=YI rd n (ps++[[q]]) f (by simp;lia) (by lia) (qE hp #[#[by simp,by simp],λs hs=>by rw[aK.mp hs];exact hq]);refine#[ps',g1,g2,?_];have e:decide ((zl ps:J)<5)=L:=aU (by lia);show(pT _ _ _).bH _=_;unfold vS at qb g3 ⊢;simp_arith[eU,e];rw[qb];exact g3
theorem aeZ(r)(hr:vG ks r):∃(d:D) (r':k9),vG ks r'/\u0 [bz ns,cB W r,.a W<|bV ks]=.c d/\br d=cB W r':=by
 have hs:=szl;have p5:=hr.p.1;let#[ps',g1,g2,g3]:=YI ns ks hk (cB W r) (5-zl r.ps) r.ps 1000 (by omega) (by omega) hr.p.2;have le:zl r.ps<=zl ps':=by lia
 refine#[cB W #[ps',r.cl,r.js,r.zs,r.st],#[ps',r.cl,r.js,r.zs,r.st],#[#[by show zl ps'<=5;lia,g2],λc hc i hi=>(hr.c c hc i hi).up le,hr.c3,λj hj=>#[(hr.j j hj).1.up le,(hr.j j hj).2.up le],hr.j4,λz hz=>#[(hr.z z hz).1.up le,(hr.z z hz).2],hr.z4,λs hs=>(hr.s s hs).up le,hr.s8],?_,nM _ _]
 .have Q8:=nM W r;unfold u0 FL;rw[show Nv=[.a d9 []]from rfl];generalize qT=QJ at g3 ⊢;have at1:∀a b c d e:D,bL [a,b,c,d,e] 1=M b:=λ_ _ _ _ _=>rfl;simp_arith[eU,kh,dD,mK,cV,A3,NJ];rw[g3];simp_arith[eU,kh,dD,mK,cV,at1,HQ,R9,HR,A4]
theorem acn(at_)(ha:0<=at_/\at_<=900)(wa wb wc)(la:zl wa=3)(lb:zl wb=2)(lc:zl wc=2):∃(d:D) (t:Th),sL [bz ns,.b at_,.a W<|bV ks,wD wa wb wc]=.c d/\br d=fR t/\(∀p∈t.ps,mj ks p)/\zl t.ps=8/\zl t.js=1/\zl t.st=1:=by
 have hs:=szl;have RA:=cQ ns;have fk:=K1 ks;have fw:br (wD wa wb wc)=wD wa wb wc:=by show D.d [.a W<|aD _,.a W<|aD _,.a W<|aD _]=_;rw[bQ,bQ,bQ]
 let#[σ',h1,ps,a,b,hl,hp,rfl]:=iY (g:=pG<|.a 5) (b:=bK [.a gR [],.a d9 []] 1000 t8) 8
  (λk O=>∃(ps:B Pt) (a b:LD D),zl ps=k/\(∀p∈ps,mj ks p)/\O=[M<|bz ns,M<|.b at_,M<|.a W<|bV ks,M<|wD wa wb wc,M<|.a L<|ps.map<|cF L,a,b]) (by
  intro k clsub O z0;let#[ps,a,b,hl,hp,rfl]:=z0;let#[m,m0,m1,qm]:=kX ns (at_+10+(k:J)) (by lia);have kp:(0:J)<(zl ks:J):=by have:=hk.l3;lia
  have b1:=dm m kp;let#[j,hj,ej,ea]:=jx (bV ks) (m%(zl ks:J)) b1.1 (by rw[aa];exact b1.2);rw[dP]at ea;generalize hq:ks[j]'(by simpa using hj)=q at ea;have Wh:q.1∈C (·.1) ks:=bF.mpr #[q,by rw[<-hq];exact cK _,rfl];let#[p,hpp,qp]:=NO ns (at_+(k:J)) (by lia) ks hk wa wb wc la (.a W<|C D.c [q.1]) [q.1] (.inr rfl) (by simp) (λs h=>by rw[aK.mp h];exact Wh) [] (λb h=>aI h aF) (by simp);have qp:gR [bz ns,.b<|at_+(k:J),.a W<|bV ks,.a W [.c q.1],.a W [],wD wa wb wc]=.c (cF L p):=qp;refine#[[M<|bz ns,M<|.b at_,M<|.a W<|bV ks,M<|wD wa wb wc,M<|.a L<|ps.map<|cF L,M<|.b (k:J),b],[M<|bz ns,M<|.b at_,M<|.a W<|bV ks,M<|wD wa wb wc,M<|.a L<|(ps++[p]).map<|cF L,M<|.b (k:J),M<|.c q.1],rfl,?_,ps++[p],_,_,by simp[hl],qE hp hpp,rfl];unfold t8;generalize bz ns=sc at *;generalize wD wa wb wc=wd at *;simp_arith[kg,ea,z7,D3,RA,qm,fw,qp];rw[iu rfl (by rw[hs,aa];lia) (by rw[LW];rfl)];simp_arith[D0,bl,bB,dZ]) [M<|bz ns,M<|.b at_,M<|.a W<|bV ks,M<|wD wa wb wc,M<|.a L [],S,S] #[[],_,_,rfl,λ_ h=>aI h aF,rfl]
 let#[s1,_,e1]:=kE wb 0 (by lia) (by lia);let#[s2,_,e2]:=kE wc 0 (by lia) (by lia);refine#[.d [.a L<|ps.map<|cF L,.a L [jD (s1,0,1)],.a L [sD (s2,0)]],#[ps,[(s1,0,1)],[(s2,0)]],?_,mL L L L L #[ps,[(s1,0,1)],[(s2,0)]],hp,hl,rfl,rfl];have o1:bq (ps.map<|cF L)=L:=by
  clear h1 hl hp;induction ps with
  |nil=>rfl
  |cons p r ih=>
   show(aX (cF L p)&&bq (r.map<|cF L))=L;rw[LW,ih];rfl
 unfold sL CL;rw[show KN=[.a gR [],.a d9 []]from rfl];generalize t8=QJ at h1 ⊢;generalize bz ns=sc at *;generalize D.a W (bV ks)=kd at *;simp_arith[RA,fk];rw[show fX 0 (zh 8)=fX 0 8 from rfl,h1];simp_arith[o1,HK,HL,bQ,e1,e2]
end
def ae0(js:B J3)(h:zl js<64):∃TQ:B J3,zl TQ=zl js/\∀o,h_ .d [.a o<|C jD js]=.c (.a L<|C jD TQ):=by
 refine#[yT jK js,Qk js,λo=>?_];have hk':∀l:B J3,DR (C jD l)=M (C jK l):=λl=>by
  induction l with
  |nil=>rfl
  |cons x r ih=>
   show(L3.iD<|jD x).bind _=_;rw[show L3.iD (jD x)=M (jK x)from rfl];rw[ih];rfl
 have hk:AN (C jD js)=M (C jK js):=by
  cases js with
  |nil=>rfl
  |cons x r=>exact hk' (x::r)
 show(R.ab<|AN<|C jD js).bind _=_;rw[hk];show R.cA (abb<|C jK js) _=_;rw[vg (by rw[aa];exact h) λq hq=>by
  let#[x,_,rfl]:=bF.mp hq;exact#[by simp[jK],λq' h'=>by let#[x',_,rfl]:=bF.mp h';rfl]]
 show R.c (D.a L<|LM (C jK js)<|C jD js)=_;unfold LM yT;rw[bG];refine fY (λl=>R.c<|D.a L l)<|fT λi hi=>?_;have hlt:=Jt i hi;rw[aa]at hlt;rw[dD];show _=jD (js.getD i default);rw[aV,aJ,aV,ai hlt];rfl
def lsy(ks)(t1 t2)(h1:∀p∈t1.ps,mj ks p)(h8:zl t1.ps=8)(j1:zl t1.js=1)(s1:zl t1.st=1)(ht:xU ks t2)(h7:zl t2.ps<=7/\zl t2.js<=6/\zl t2.st<=10):∃(d:D) (t:Th),qB [fR t1,fR t2]=.c d/\br d=fR t/\xU ks t:=by
 have hs:=szl;have f1:br (fR t1)=fR t1:=mL W W W W t1;have f2:br (fR t2)=fR t2:=mL W W W W t2;have y1:dK (pG<|.b #v[.a 0,.a 1,.a 2]) (λ_=>.c L) (pE []<|.f #v[.a 0,.g .Add (.a 1)<|.a 3,.g .Add (.a 2)<|.a 3]) (C jD t2.js) [S,S,S,M<|.b (zl t1.ps:J)]=.c (C jD (t2.js.map λj=>(j.1,j.2.1+(zl t1.ps:J),j.2.2+(zl t1.ps:J)))):=by
  rw[bG];refine eK jD (λO=>∃a b c,O=[a,b,c,M<|.b (zl t1.ps:J)]) _ t2.js _ #[_,_,_,rfl] ?_;rintro⟨w,i,j⟩ _ O ⟨a,b,c,rfl⟩;refine#[[M<|.c w,M<|.b i,M<|.b j,M<|.b (zl t1.ps:J)],rfl,#[_,_,_,rfl],?_];simp_arith[];rfl
 have y2:dK (pG<|.b #v[.a 0,.a 1]) (λ_=>.c L) (pE []<|.f #v[.a 0,.g .Add (.a 1)<|.a 2]) (C sD t2.st) [S,S,M<|.b (zl t1.ps:J)]=.c (C sD (t2.st.map λs=>(s.1,s.2+(zl t1.ps:J)))):=by
  rw[bG];refine eK sD (λO=>∃a b,O=[a,b,M<|.b (zl t1.ps:J)]) _ t2.st _ #[_,_,rfl] ?_;rintro⟨w,i⟩ _ O ⟨a,b,rfl⟩;refine#[[M<|.c w,M<|.b i,M<|.b (zl t1.ps:J)],rfl,#[_,_,rfl],?_];simp_arith[];rfl
 generalize ej:(t2.js.map λj=>(j.1,j.2.1+(zl t1.ps:J),j.2.2+(zl t1.ps:J)))=js at y1;generalize es:(t2.st.map λs=>(s.1,s.2+(zl t1.ps:J)))=st at y2;have lj:zl js=zl t2.js:=by rw[<-ej,aa]
 have ls:zl st=zl t2.st:=by rw[<-es,aa]
 let#[TQ,UZ,qs]:=ae0 (t1.js++js) (by rw[aZ];lia);refine#[.d [.a L<|(t1.ps++t2.ps).map<|cF W,.a L<|C jD TQ,.a L<|C sD (t1.st++st)],#[t1.ps++t2.ps,TQ,t1.st++st],?_,mL L L L W #[t1.ps++t2.ps,TQ,t1.st++st],λp hp=>?_,?_,?_,?_]
 .have g0:∀t:Th,g_ (fR t) (.b 0)=.c (.a W<|t.ps.map<|cF W):=λt=>by show R.c (D.a W<|aD _)=_;rw[e_]
  have g1:∀t:Th,g_ (fR t) (.b 1)=.c (.a W<|C jD t.js):=λt=>by show R.c (D.a W<|aD _)=_;rw[dD]
  have g2:∀t:Th,g_ (fR t) (.b 2)=.c (.a W<|C sD t.st):=λt=>by show R.c (D.a W<|aD _)=_;rw[cV]
  have lp:=Jl W (cF W) t1.ps;have b1:∀o,lq .Add (.a W<|C jD t1.js) (.a o<|C jD js)=.c (.a L<|C jD (t1.js++js)):=λo=>by rw[nD (by rw[aa,aa];lia),dD,dD,bl]
  have b2:∀o,lq .Add (.a W<|C sD t1.st) (.a o<|C sD st)=.c (.a L<|C sD (t1.st++st)):=λo=>by rw[nD (by rw[aa,aa];lia),cV,cV,bl]
  have b3:lq .Add (.a W<|t1.ps.map<|cF W) (.a W<|t2.ps.map<|cF W)=.c (.a L<|(t1.ps++t2.ps).map<|cF W):=by rw[nD (by rw[aa,aa];lia),e_,e_,bl]
  unfold qB A0;rw[show Hr=[]from rfl];generalize t1.js++js=tbT at *;generalize t1.st++st=sa at *;generalize hpa:t1.ps++t2.ps=pa at *;have oj:=NQ js;have os:=zB st;have oja:=NQ tbT;have ojs:=NQ TQ;have op:bq (pa.map<|cF W)=W:=by
   cases pa with
   |nil=>
    have:=fY vh hpa;rw[aZ,jT]at this
    lia
   |cons x r=>rfl
  have oa:=zB sa;have fp:=nj<|e_ W t1.ps;have g01:=g0 t1;have g02:=g0 t2;have g11:=g1 t1;have TL:=g1 t2;have g21:=g2 t1;have g22:=g2 t2;generalize fR t1=Uj at *;generalize fR t2=UB at *;generalize hp1:D.a W (t1.ps.map<|cF W)=p1 at *;simp_arith[f1,f2,g01,fp,lp,g11,TL,dD,y1,oj,b1,g02,b3,qs,oja,g21,g22,cV,y2,os,b2,oa,ojs,op,A4]
 .rcases bh.mp hp with z|z
  .exact h1 p z
  .exact ht.p p z
 .show(t1.ps++t2.ps).length<=15;rw[aZ];lia
 .show zl TQ<=7;rw[UZ,aZ];lia
 .show(t1.st++st).length<=11;rw[aZ];lia
end K3
end
section
namespace K3
open List renaming map->C
open PySem L2 L3 Tr
def N6{ks:B<|Str×Str}(hk:vF ks){r:k9}(hr:vG ks r){t:Th}(ht:xU ks t):∃x:D,iX [.a W<|bV ks,cB W r,fR t]=.c x/\lV [.a W<|bV ks,cB W r,fR t]=.c x/\br x=x/\dO .NotEq x x=.c (.e W):=by
 let#[d,y,hy,qr,fd]:=ab_ ks hk t ht;have h1:=acm ks r hr t y hy;have h2:=f2' hk hr ht hy;have e:=v8.eq (λl h=>h.len) h1 h2;rw[e]at h1;have ft:=mL W W W W t;rcases h2 with⟨e2,_⟩|⟨l,_,_,e2⟩
 .exact#[.h,YG _ _ d y (K1 ks) ft qr fd (ua hy) r _<|e.trans e2,e2,rfl,rfl]
 .refine#[_,YG _ _ d y (K1 ks) ft qr fd (ua hy) r _<|e.trans e2,e2,by show D.a W (aD _)=_;rw[bP],?_];have nd:dS (.a W<|C D.b l)=L:=by exact vE _ _ _ λx=>by simp[l9]
  have ed:∀l:B J,oH (C D.b l) (C D.b l)=L:=λl=>by
   induction l with
   |nil=>rfl
   |cons x r ih=>show(x==x&&oH (C D.b r) (C D.b r))=L;rw[ih];simp
  rw[P0 nd nd,show gJ (.a W<|C D.b l) (.a W<|C D.b l)=L from ed l];rfl
abbrev pU:B PG:=[.a iX [],.a lV [],.a qx [],.a d9 [],.a qB [],.a sL [],.a lH [],.a u0 [],.a oE [],.a vC [],.a vD []]
noncomputable abbrev wS(sc kt wt k:D)(rt dt a6:LD D):bw:=[M sc,M kt,M wt,M k,rt,dt,a6]
noncomputable abbrev neT(v:Nat):CE:=.d .NotEq (.e 0 #v[.a 1,.a 4,.a v])<|.e 1 #v[.a 1,.a 4,.a v]
abbrev nQ(v:Nat):CS:=.b (neT v) #v[.a<|.c<|.c W] .nil
abbrev s5:CS:=.b (.k (.d .Eq (.a 3)<|.c<|.b 0)<|.k (.s .Lt .Lt (.c<|.b 0) (.h .a #v[.b (.a 4)<|.c<|.b 0])<|.c<|.b 4)<|.d .Eq (.g .Mod (.e 3 #v[.a 0,.c<|.b 17])<|.c<|.b 3)<|.c<|.b 0) #v[Vd,nQ 6] .nil
theorem agq:A1=#v[s1,s2,s3,nQ 5,s5,s6,nQ 5]:=rfl
section
variable{sc kt wt kd wd:D} (RA:br sc=sc) (fk:br kt=kd) (fw:br wt=wd) (R5:br kd=kd) (fwd:br wd=wd) {k:J} (RT:0<=k/\k<=2)
include RA fk fw R5 fwd RT in
theorem l_1{rt:D}(q:oE [sc,.b<|20+50*k,kd,wd,.e W]=.c rt)(o:aX rt=L)(a b c:LD D):pS pU 1000 s1 (wS sc kt wt (.b k) a b c)=.a (wS sc kt wt (.b k) (M rt) b c):=by
 have hm:nF 50 k:=by unfold nF;omega
 unfold wS;simp_arith[RA,fk,fw,R5,fwd,q,o]
include RA fk R5 in
theorem l_2{rt rd mZ d:D}{m:J}(fr:br rt=rd)(Q8:br rd=rd)(qm:d9 [sc,.b 18]=.c (.b m))(q:u0 [sc,rd,kd]=.c d)(fd:br d=mZ)(b c:LD D):∃kt' UA:D,br kt'=kd/\(br UA=rd\/br UA=mZ)/\pS pU 1000 s2 (wS sc kt wt (.b k) (M rt) b c)=.a (wS sc kt' wt (.b k) (M UA) b c):=by
 unfold wS;cases c1:k==1 with
 |false=>
  refine#[kt,rt,fk,.inl fr,?_];simp_arith[c1]
 |true=>
  cases c2:m%3==0 with
  |false=>
   refine#[kt,rt,fk,.inl fr,?_];simp_arith[c1,RA,qm,c2]
  |true=>
   cases o:aX d with
   |true=>
    refine#[kt,d,fk,.inr fd,?_];simp_arith[c1,RA,qm,c2,fr,Q8,fk,R5,q,o]
   |false=>
    refine#[kd,d,R5,.inr fd,?_];simp_arith[c1,RA,qm,c2,fr,Q8,fk,R5,q,o,nq,fd]
include RA fk fw R5 fwd RT in
theorem l_3{rt rd d td:D}(fr:br rt=rd)(Q8:br rd=rd)(q:lH [sc,.b<|40+50*k,kd,rd,wd]=.c d)(fd:br d=td)(b c:LD D):∃kt' Ra UA S4:D,br kt'=kd/\br Ra=wd/\br UA=rd/\br S4=td/\pS pU 1000 s3 (wS sc kt wt (.b k) (M rt) b c)=.a (wS sc kt' Ra (.b k) (M UA) (M S4) c):=by
 have hm:nF 50 k:=by unfold nF;omega
 unfold wS;cases o:aX d with
 |true=>
  refine#[kt,wt,rt,d,fk,fw,fr,fd,?_];simp_arith[RA,fk,fw,fr,R5,fwd,Q8,q,o]
 |false=>
  refine#[kd,wd,rd,d,R5,fwd,Q8,fd,?_];simp_arith[RA,fk,fw,fr,R5,fwd,Q8,q,o,nq,fd]
include fk R5 in
theorem a9{rt dt rd td x:D}(fr:br rt=rd)(fd:br dt=td)(Q8:br rd=rd)(T_:br td=td)(fx:br x=x)(q1:iX [kd,rd,td]=.c x)(q2:lV [kd,rd,td]=.c x)(ec:dO .NotEq x x=.c (.e W))(c:LD D):pS pU 1000 (nQ 5) (wS sc kt wt (.b k) (M rt) (M dt) c)=.a (wS sc kt wt (.b k) (M rt) (M dt) c):=by
 unfold wS;simp_arith[fk,fr,fd,R5,Q8,T_,q1,q2,fx,ec]
include fk R5 in
theorem YC{rt dt rd td x:D}(fr:br rt=rd)(fd:br dt=td)(Q8:br rd=rd)(T_:br td=td)(fx:br x=x)(q1:iX [kd,rd,td]=.c x)(q2:lV [kd,rd,td]=.c x)(ec:dO .NotEq x x=.c (.e W))(c:LD D):pS pU 1000 (nQ 6) (wS sc kt wt (.b k) (M rt) c<|M dt)=.a (wS sc kt wt (.b k) (M rt) c<|M dt):=by
 unfold wS;simp_arith[fk,fr,fd,R5,Q8,T_,q1,q2,fx,ec]
include RA fk fw R5 fwd in
theorem l_5{rt dt rd td rp d1 Uj d2 UB x:D}{n:Nat}{m:J}(fr:br rt=rd)(fd:br dt=td)(Q8:br rd=rd)(T_:br td=td)(i0:g_ rd (.b 0)=.c rp)(Uw:br rp=rp)(lr:h_ .a [rp]=.c (.b (n:J)))(qm:d9 [sc,.b 17]=.c (.b m))(q1:sL [sc,.b 190,kd,wd]=.c d1)(f1:br d1=Uj)(Yd:br Uj=Uj)(q2:qB [Uj,td]=.c d2)(f2:br d2=UB)(Ye:br UB=UB)(g1:iX [kd,rd,UB]=.c x)(g2:lV [kd,rd,UB]=.c x)(fx:br x=x)(ec:dO .NotEq x x=.c (.e W))(c:LD D):∃(kt' Ra S4:D) (c':LD D),br kt'=kd/\br Ra=wd/\br S4=td/\pS pU 1000 s5 (wS sc kt wt (.b k) (M rt) (M dt) c)=.a (wS sc kt' Ra (.b k) (M rt) (M S4) c'):=by
 by_cases h:k=0/\0<n/\n<4/\m%3=0
 .let#[rfl,n0,n4,m3]:=h;have hT:pT pU (.k (.d .Eq (.a 3)<|.c<|.b 0)<|.k (.s .Lt .Lt (.c<|.b 0) (.h .a #v[.b (.a 4)<|.c<|.b 0])<|.c<|.b 4)<|.d .Eq (.g .Mod (.e 3 #v[.a 0,.c<|.b 17])<|.c<|.b 3)<|.c<|.b 0) (wS sc kt wt (.b 0) (M rt) (M dt) c)=.c L:=by
   have e1:decide ((0:J)<(n:J))=L:=aU (by omega);have e2:decide ((n:J)<4)=L:=aU (by omega);unfold wS;simp_arith[fr,Q8,i0,Uw,lr,e1,e2,RA,qm,m3]
  suffices h:∃(kt' Ra S4:D) (c':LD D),br kt'=kd/\br Ra=wd/\br S4=td/\bK pU 1000 #v[Vd,nQ 6] (wS sc kt wt (.b 0) (M rt) (M dt) c)=.a (wS sc kt' Ra (.b 0) (M rt) (M S4) c')by
   let#[kt',Ra,S4,c',h1,h2,h3,h4]:=h;refine#[kt',Ra,S4,c',h1,h2,h3,?_];rw[xJ,hT];exact h4
  cases o:aX d2 with
  |true=>
   refine#[kt,wt,dt,M d2,fk,fw,fd,?_];have h1:pS pU 1000 Vd (wS sc kt wt (.b 0) (M rt) (M dt) c)=.a (wS sc kt wt (.b 0) (M rt) (M dt)<|M d2):=by
    unfold wS;simp_arith[RA,fk,fw,R5,fwd,q1,f1,Yd,fd,T_,q2,o]
   rw[cJ,h1];show bK pU 1000 _ _=_;rw[cJ,YC fk R5 fr f2 Q8 Ye fx g1 g2 ec];rfl
  |false=>
   refine#[kd,wd,td,M d2,R5,fwd,T_,?_];have h1:pS pU 1000 Vd (wS sc kt wt (.b 0) (M rt) (M dt) c)=.a (wS sc kd wd (.b 0) (M rt) (M td)<|M d2):=by
    unfold wS;simp_arith[RA,fk,fw,R5,fwd,q1,f1,Yd,fd,T_,q2,o,nq]
   rw[cJ,h1];show bK pU 1000 _ _=_;rw[cJ,YC R5 R5 fr f2 Q8 Ye fx g1 g2 ec];rfl
 .refine#[kt,wt,dt,c,fk,fw,fd,?_];have hT:pT pU (.k (.d .Eq (.a 3)<|.c<|.b 0)<|.k (.s .Lt .Lt (.c<|.b 0) (.h .a #v[.b (.a 4)<|.c<|.b 0])<|.c<|.b 4)<|.d .Eq (.g .Mod (.e 3 #v[.a 0,.c<|.b 17])<|.c<|.b 3)<|.c<|.b 0) (wS sc kt wt (.b k) (M rt) (M dt) c)=.c W:=by
   unfold wS;cases c1:k==0 with
   |false=>simp_arith[c1]
   |true=>
    cases c2:decide ((0:J)<(n:J))with
    |false=>simp_arith[c1,fr,Q8,i0,Uw,lr,c2]
    |true=>
     cases c3:decide ((n:J)<4)with
     |false=>simp_arith[c1,fr,Q8,i0,Uw,lr,c2,c3]
     |true=>
      cases c4:m%3==0 with
      |false=>simp_arith[c1,fr,Q8,i0,Uw,lr,c2,c3,RA,qm,c4]
      |true=>exact aI #[eq_of_beq c1,by have:=aC c2;omega,by have:=aC c3;omega,eq_of_beq c4] h
  rw[xJ,hT];rfl
include RA fk fw R5 fwd RT in
theorem l_6{dt d td qk:D}(Yi:br dt=td)(Yp:br td=td)(q:qx [sc,.b<|60+50*k,kd,td,wd]=.c d)(fd:br d=qk)(a c:LD D):∃kt' Ra S4:D,br kt'=kd/\br Ra=wd/\br S4=qk/\pS pU 1000 s6 (wS sc kt wt (.b k) a (M dt) c)=.a (wS sc kt' Ra (.b k) a (M S4) c):=by
 have hm:nF 50 k:=by unfold nF;omega
 unfold wS;cases o:aX d with
 |true=>
  refine#[kt,wt,d,fk,fw,fd,?_];simp_arith[RA,fk,fw,Yi,R5,fwd,Yp,q,o]
 |false=>
  refine#[kd,wd,d,R5,fwd,fd,?_];simp_arith[RA,fk,fw,Yi,R5,fwd,Yp,q,o,nq,fd]
end
def v2m(ns)(ks)(hk:vF ks)(wa wb wc)(la:zl wa=3)(lb:zl wb=2)(lc:zl wc=2)(k:Nat)(RT:k<3)(kt wt)(fk:br kt=.a W (bV ks))(fw:br wt=wD wa wb wc)(a b c):∃(kt' Ra:D) (a' b' c':LD D),br kt'=.a W (bV ks)/\br Ra=wD wa wb wc/\bK pU 1000 A1 (wS (bz ns) kt wt (.b (k:J)) a b c)=.a (wS (bz ns) kt' Ra (.b (k:J)) a' b' c'):=by
 have RA:=cQ ns;have R5:=K1 ks;have fwd:br (wD wa wb wc)=wD wa wb wc:=by show D.d [.a W<|aD _,.a W<|aD _,.a W<|aD _]=_;rw[bQ,bQ,bQ]
 have ft:=mL W W W W;let#[r,hr,qr]:=fs2 ns (20+50*(k:J)) (by omega) ks hk.l8 hk.l3 hk.ho wa wb wc la lb lc W;let#[m1,_,_,hit1]:=kX ns 18 (by omega);let#[m2,_,_,hit2]:=kX ns 17 (by omega);let#[df,r2,hr2,qf,ff]:=aeZ ns ks hk r hr;have e1:=l_1 RA fk fw R5 fwd (by omega) qr (Γp r) a b c;let#[pins',hput,W6,S5,e2]:=l_2 RA fk R5 (nM L r) (nM W r) hit1 qf ff b c;obtain⟨r',hr',S5⟩:∃r':k9,vG ks r'/\br hput=cB W r':=by
  rcases S5 with h|h
  .exact#[r,hr,h]
  .exact#[r2,hr2,h]
 have Q8:=nM W r';let#[d,t,q1,q2,q3,q4]:=ab4 ns (40+50*(k:J)) (by omega) ks hk wa wb wc la lb lc r' hr';let#[rits2,o_rd,ng,rits,Yk,fw2,UQ,Yh,e3]:=l_3 RA W6 fw R5 fwd (by omega) S5 Q8 q1 q2 b c;let#[x,x1,x2,x3,x4]:=N6 hk hr' q3;have e4:=a9 (sc:=bz ns) (wt:=o_rd) (k:=(k:J)) Yk R5 UQ Yh Q8 (ft t) x3 x1 x2 x4 c;let#[d1,t1,g1,g2,g3,g4,g5,g6]:=acn ns ks hk 190 (by omega) wa wb wc la lb lc;let#[d2,t2,g7,rvv,scB]:=lsy ks t1 t g3 g4 g5 g6 q3 q4;let#[y,y1,y2,y3,y4]:=N6 hk hr' scB;have i0:g_ (cB W r') (.b 0)=.c (.a W<|C tS r'.ps):=by
  unfold g_;simp only[A3];show R.c (D.a W<|aD _)=_;rw[eU]
 have lr:h_ .a [.a W<|C tS r'.ps]=.c (.b (zl r'.ps:J)):=by show R.c (D.b (zl (C tS r'.ps):J))=_;rw[aa]
 let#[ruGs',pt_chain',ruG',c3,fk3,fw3,fd3,e5]:=l_5 RA Yk fw2 R5 fwd (k:=(k:J)) UQ Yh Q8 (ft t) i0 (by show D.a W (aD _)=_;rw[eU]) lr hit2 g1 g2 (ft t1) g7 rvv (ft t2) y1 y2 y3 y4 c;let#[d',t',u1,u2,u3]:=lsS ns (60+50*(k:J)) (by omega) ks hk wa wb wc la t q3 (by omega);let#[kt4,qz,dt4,Yl,fw4,fd4,e6]:=l_6 RA fk3 fw3 R5 fwd (k:=(k:J)) (by omega) fd3 (ft t) u1 u2 (M ng) c3;let#[z,z1,z2,z3,z4]:=N6 hk hr' u3;have e7:=a9 (sc:=bz ns) (wt:=qz) (k:=(k:J)) Yl R5 UQ fd4 Q8 (ft t') z3 z1 z2 z4 c3;refine#[kt4,qz,M ng,M dt4,c3,Yl,fw4,?_];rw[agq,cJ,e1];show bK pU 1000 _ _=_;rw[cJ,e2];show bK pU 1000 _ _=_;rw[cJ,e3];show bK pU 1000 _ _=_;rw[cJ,e4];show bK pU 1000 _ _=_;rw[cJ,e5];show bK pU 1000 _ _=_;rw[cJ,e6];show bK pU 1000 _ _=_;rw[cJ,e7];rfl
def agr(ns):LQ [bz ns]=.c (.e L):=by
 have hs:=szl;let#[ks,hk,hit']:=abX ns;let#[wa,wb,wc,la,lb,lc,_,_,_,hok']:=abW ns;have RA:=cQ ns;have W6:br (.a L<|bV ks)=.a W (bV ks):=by show D.a W (aD _)=_;rw[kg]
 have jb:aX (.a L<|bV ks)=L:=by show(L&&bq _)=L;rw[zv'];rfl
 have fw:br (.d [.a L<|C D.c wa,.a L<|C D.c wb,.a L<|C D.c wc])=wD wa wb wc:=by show D.d [.a W<|aD _,.a W<|aD _,.a W<|aD _]=_;rw[bQ,bQ,bQ]
 have ow:aX (.d [.a L<|C D.c wa,.a L<|C D.c wb,.a L<|C D.c wc])=L:=by
  show((L&&bq _)&&((L&&bq _)&&((L&&bq _)&&L)))=L;rw[j8,j8,j8];rfl
 let#[σ',h1,kt,wt,a,b,c,d,_,_,rfl]:=iY (g:=pG<|.a 3) 3
  (λ_ O=>∃(kt wt:D) (k a b c:LD D),br kt=.a W (bV ks)/\br wt=wD wa wb wc/\O=[M<|bz ns,M kt,M wt,k,a,b,c]) (by
  intro k RT O z0;let#[kt,wt,k0,a,b,c,h1,h2,rfl]:=z0;let#[kt',Ra,a',b',c',g1,g2,e]:=v2m ns ks hk wa wb wc la lb lc k RT kt wt h1 h2 a b c;exact#[_,_,rfl,e,kt',Ra,_,a',b',c',g1,g2,rfl]) [M<|bz ns,M<|.a L<|bV ks,M<|.d [.a L<|C D.c wa,.a L<|C D.c wb,.a L<|C D.c wc],S,S,S,S] #[_,_,_,_,_,_,W6,fw,rfl]
 unfold LQ RX;rw[show Z0=pU from rfl];generalize A1=QJ at h1 ⊢;generalize bz ns=sc at *;generalize D.d [.a L<|C D.c wa,.a L<|C D.c wb,.a L<|C D.c wc]=pgs_cons' at *;generalize D.a L (bV ks)=keepT at *;simp_arith[RA,hit',jb,hok',ow];have h1:QS (pG<|.a 3) (bK pU 1000 QJ) (fX 0<|zh 3) _=_:=h1;rw[h1];simp_arith[]
end K3
namespace K2
open PySem L2 L3 Tr
def fin(ns)(_:zl ns<=63):LQ [bz ns]=.c (.e L):=K3.agr ns
end K2
end
namespace Fin
open PySem L2 L3 Tr
section
variable{P:bS}{w:bO}{K:ao}{mg:Str->LD B5}
structure Hy (P:bS) (w:bO) (K:ao) (mg:Str->LD B5):Prop where
 z:∀x∈BN,mg x=S
 D_law:DI K mg yS
 D_finding_in:DI K mg CW
 D_finding_ready:DI K mg yR
 D_first_finding:DI K mg yQ
 D_some_finding:DL K mg z5 93
 D_finding_from:DI K mg z0
 D_steps_hold:DI K mg CT
 D_joins_hold:DI K mg CU
 D_all_shut_found:DI K mg xT
 D_choices_of:DI K mg CV
 D_has_marks:DI K mg ET
 D_has_sizes:DI K mg EU
 D_open_for:DI K mg Hw
 D_parts_under:DI K mg Bu
 D_marks_of:DI K mg Hx
 D_Ready:OI K mg Qe 36
 D_uppers_of:DI K mg EV
 D_l_first:DI K mg KS
 D_l_is_finding:DI K mg z6
 D_l_stepped:DI K mg EW
 D_l_meets:DI K mg KR
 D_l_uppers:DI K mg HA
 D_l_bounded:DI K mg EX
 D_l_spoilt:DI K mg HB
 D_l_mix:DI K mg Qf
 D_l_behind:DI K mg HC
 D_l_loose:DI K mg KU
 D_l_part_for:DI K mg CY
 D_l_lowers:DI K mg HD
 D_l_thing_for:DI K mg Bv
 D_l_five:DI K mg ND
 D_l_reading:DI K mg EY
 D_l_bounds:DI K mg HE
 D_l_groups:DI K mg HF
 D_l_words:DI K mg KY
 D_l_names:DI K mg KW
 D_l_kinds:DI K mg KZ
 L_Ready:Bl K 36/\∀f∈(["sizes","uppers","joins","steps","marks"]:B Str),nV K 36 f
variable{base:Heap} (Z:Hy P w K mg)
include Z
theorem Lo:iK P w K mg base 1 "steps_hold" pK:=fD (k:=0) Z.D_steps_hold Nx Z.z gN
theorem Lp:iK P w K mg base 1 "joins_hold" pL:=fD (k:=0) Z.D_joins_hold Ny Z.z gN
theorem Ef:iK P w K mg base 1 "all_shut_found" kP:=fD (k:=0) Z.D_all_shut_found FN Z.z gN
theorem xW:∀j,iK P w K mg base (1+j) "finding_from" (d8 j)
|0=>f0 Z.D_finding_from
|j+1=>fD (k:=1+j) Z.D_finding_from Ji Z.z (gF (Lo Z) (gO Z.L_Ready (gF (Lp Z) (gF (xW j) (gF (Ef Z) gN (cu (by decide)<|kU 1 j))<|aM _) (cu (by decide)<|kU 1 j))) (cu (by decide)<|kU 1 j))
theorem HV:iK P w K mg base 8 "finding_from" qv:=xW Z 7
theorem HW:iK P w K mg base 9 "some_finding" m8:=fDL (k:=8) Z.D_some_finding Jj Z.z<|gF (HV Z) gN
theorem FW:iK P w K mg base 10 "first_finding" lU:=fD (k:=9) Z.D_first_finding Hv Z.z<|gF (HW Z) gN
theorem N7:iK P w K mg base 1 "has_marks" qU:=fD (k:=0) Z.D_has_marks OQ Z.z<|gO Z.L_Ready gN
theorem N8:iK P w K mg base 1 "has_sizes" qV:=fD (k:=0) Z.D_has_sizes OR Z.z<|gO Z.L_Ready gN
theorem OZ:iK P w K mg base 1 "open_for" t9:=fD (k:=0) Z.D_open_for aad Z.z gN
theorem Ad:iK P w K mg base 1 "parts_under" jV:=fD (k:=0) Z.D_parts_under Lm Z.z gN
theorem E2:iK P w K mg base 1 "marks_of" nJ:=fD (k:=0) Z.D_marks_of OkS Z.z gN
theorem Lq:iK P w K mg base 2 "choices_of" m9:=fD (k:=1) Z.D_choices_of Nz Z.z<|gF (N7 Z)<|gF (N8 Z)<|gF (OZ Z)<|gF (Ad Z)<|gO Z.L_Ready<|gF (E2 Z) gN
theorem FY:iK P w K mg base 11 "finding_ready" jR:=fD (k:=10) Z.D_finding_ready Hz Z.z<|gF (FW Z)<|gF (Lq Z)<|gF (Ad Z)<|gO Z.L_Ready gN
theorem N9:iK P w K mg base 1 "uppers_of" qW:=fD (k:=0) Z.D_uppers_of OS Z.z gN
theorem lsz:iK P w K mg base 3 "Ready" xd:=oD (k:=1) Z.D_Ready abU rfl Z.z<|gO Z.L_Ready<|gF (E2 Z)<|gF (N9 Z) gN
theorem Lr:iK P w K mg base 12 "finding_in" iX:=fD (k:=11) Z.D_finding_in NB Z.z<|gF (FY Z)<|gF (lsz Z) gN
theorem N_:iK P w K mg base 1 "_law_stepped" qX:=fD (k:=0) Z.D_l_stepped OT Z.z gN
theorem zC:iK P w K mg base 1 "_law_uppers" iH:=fD (k:=0) Z.D_l_uppers PI' Z.z gN
theorem HX:iK P w K mg base 2 "_law_meets" pN:=fD (k:=1) Z.D_l_meets fr2 Z.z<|gF (zC Z) gN
theorem Oa:iK P w K mg base 1 "_law_bounded" qY:=fD (k:=0) Z.D_l_bounded OU Z.z gN
theorem HY:iK P w K mg base 3 "_law_is_finding" m_:=fD (k:=2) Z.D_l_is_finding Jk Z.z<|gF (N_ Z)<|gF (HX Z)<|gF (Oa Z) gN
theorem adW:iK P w K mg base 4 "_law_first" lV:=fD (k:=3) Z.D_l_first fr3 Z.z<|gF (HY Z)<|gF (HX Z) gN
theorem mq:iK P w K mg base 1 "_law_mix" d9:=fD (k:=0) Z.D_l_mix abV Z.z gN
theorem O0:iK P w K mg base 2 "_law_spoilt" qx:=fD (k:=1) Z.D_l_spoilt PIE Z.z<|gF (mq Z) gN
theorem O1:iK P w K mg base 1 "_law_behind" qB:=fD (k:=0) Z.D_l_behind PIp Z.z gN
theorem E3:iK P w K mg base 2 "_law_lowers" nK:=fD (k:=1) Z.D_l_lowers SlR Z.z<|gF (zC Z) gN
theorem By:iK P w K mg base 3 "_law_part_for" gR:=fD (k:=2) Z.D_l_part_for NC Z.z<|gF (E3 Z)<|gF (mq Z) gN
theorem adY:iK P w K mg base 4 "_law_loose" sL:=fD (k:=3) Z.D_l_loose fr5 Z.z<|gF (By Z)<|gF (mq Z) gN
theorem Jy:iK P w K mg base 4 "_law_thing_for" lH:=fD (k:=3) Z.D_l_thing_for Ln Z.z<|gF (mq Z)<|gF (By Z) gN
theorem fal:iK P w K mg base 2 "_law_five" u0:=fD (k:=1) Z.D_l_five neF Z.z<|gF (mq Z) gN
theorem O2:iK P w K mg base 1 "_law_bounds" qC:=fD (k:=0) Z.D_l_bounds TIt Z.z gN
theorem O3:iK P w K mg base 2 "_law_groups" t_:=fD (k:=1) Z.D_l_groups UnP Z.z<|gF (mq Z)<|gF (zC Z) gN
theorem Ob:iK P w K mg base 3 "_law_reading" oE:=fD (k:=2) Z.D_l_reading OV Z.z<|gF (E3 Z)<|gF (mq Z)<|gF (O2 Z)<|gF (O3 Z) gN
theorem HZ:iK P w K mg base 2 "_law_names" sM:=fD (k:=1) Z.D_l_names frd Z.z<|gF (mq Z) gN
theorem adZ:iK P w K mg base 3 "_law_words" vC:=fD (k:=2) Z.D_l_words frp Z.z<|gF (HZ Z) gN
theorem adb:iK P w K mg base 3 "_law_kinds" vD:=fD (k:=2) Z.D_l_kinds fry Z.z<|gF (mq Z)<|gF (HZ Z) gN
theorem ae2{f:Addr}{fd:fi}(F:xx K "law" "law" yS.s f fd):iB P w K mg base (mU P w) 13 f fd yS.ps (zU K LQ):=fF (d:=yS) F af3 Z.z<|gF (Lr Z)<|gF (adW Z)<|gF (O0 Z)<|gF (mq Z)<|gF (O1 Z)<|gF (adY Z)<|gF (Jy Z)<|gF (fal Z)<|gF (Ob Z)<|gF (adZ Z)<|gF (adb Z) gN
end
def walk{l:Ij}{q:bS}{loose:B Str}{XP:(Str->LD B5)->Heap->Prop}{YP:bO->Heap->Prop}{d:DefRec}{K:VS->ao}(hn:l.most=M 63)(hdf:d.params.defaults=[])(hdn:d.name="law")(hY:∀(w:bO) (h:Heap),YP w h->(K w.params).In h)(hT:∀(w:bO) (h:Heap),YP w h->QV (K w.params) h)(nk:∀p:VS,((K p).all λx=>!Xm x.2.cls)=L)(F:∀(w:bO) (mg:Str->LD B5) (h:Heap),(K w.params).In h->h.Ns eV mg->Hy l.prog w (K w.params) mg)(bd:∀(kV doc pm:B5) (an:LD Addr) (cdv ct:B5) (u:B5),sj (gz "law" "law" (mT yS.s) (jg yS.s) (dH yS.s) .none kV doc pm an cdv ct) #[[u],[]]=pure [(("_law_script":Str),u)]):LC q loose XP YP l.row.toRowW d [] (λf vs=>Ii f vs):=
 L2.aaG (n:=63) (k:=13) (x:="_law_script") (CX:=λ_=>Tn) (sp:=λw=>(λvs H Q E=>∃(a:Addr) (ns:B J),vs=[.a a]/\Rd H a (.a<|ns.map V.b)/\zl ns<=63/\∀H',Q (.c L) H')) hn (by decide) hdf #[rfl,by decide,by decide] hY (λw mg fa h X G UU=>by
  obtain Z:=F w mg h X G;rw[hdn]at UU;let#[f,fd,Q9,hm,hb]:=Z.D_law;have e:=UU.symm.trans hm;cases e;let#[_,_,kV,doc,pm,an,cdv,ct,_,rfl,_]:=Q9.ex;exact#[_,λs v=>.of_eq<|bd _ _ _ _ _ _ v,λbase _ _=>aeb (ae2 Z Q9) K2.fin]) (λw _ a ns hl _ hS=>#[a,ns,rfl,af2 (nk w.params) hS,hl,λ_=>rfl]) (λ_ _ _ _ _ z=>z) (by decide) hT
end Fin
namespace PySem.W.Fast
def tw388100288785915440 :=J
def tw10013214288476341461 :=J
def tw11205067505676155953 :=J
def tw15112268555642371520 :=J
def tw3391880599759079314 :=J
def tw15465102920900896781 :=J
def tw2646199415908533554 :=J
def tw183318634594381313 :=J
def tw15739009824027463766 :=J
def tw4853827311840658713 :=J
def tw1943587996231895311 :=J
def tw17535493589230491040 :=J
def tw2601669306981639135 :=J
def tw4682200435149660139 :=J
def tw7780476089651829810 :=J
def tw11661300048051894478 :=J
def tw1538215118453131791 :=J
def tw4825792680160662902 :=J
def tw1242083497661280824 :=J
def tw1116677321921413812 :=J
def tw11899694212443040878 :=J
def tw14097176539779728804 :=J
def tw13019441895791282629 :=J
def tw508965455552340123 :=J
def tw6012105411879651116 :=J
def tw18008483137476301121 :=J
def tw13162740877042535089 :=J
def tw14401421177514584356 :=J
def tw11972293740623698957 :=J
def tw7740602389069298157 :=J
def tw870692515630957806 :=J
def tw12127003731465642464 :=J
def tw9143067840417306157 :=J
def tw15294676521726614175 :=J
def tw5827025926227087360 :=J
def tw17508738296311785349 :=J
def tw8279375152217101927 :=J
def tw7251916102416541218 :=J
def tw9724248713877489154 :=J
def tw141008140279463876 :=J
def tw1606487511963236933 :=J
def tw17254087260469664598 :=J
def tw5879547023845504198 :=J
def tw4440325921147159687 :=J
def tw16719451577862039570 :=J
def tw5301909501116658212 :=J
def tw7025842308807528723 :=J
def tw5810120983859819030 :=J
def tw12035350539715141402 :=J
def tw18085501025558184485 :=J
def tw409970282831798905 :=J
def tw15071579333100636876 :=J
def tw12056504094363274903 :=J
def tw9923294660451157048 :=J
def tw9834419005122122852 :=J
def tw9036610135634397934 :=J
def tw5517611945049649336 :=J
def tw12173755057758644668 :=J
def tw7479437597955725517 :=J
def tw14718842932085509364 :=J
def tw8983735778734024807 :=J
def tw13848570096202182308 :=J
def tw15350418475333069853 :=J
def tw5280843057756248566 :=J
def tw11287820388639188148 :=J
def tw13234591611766334323 :=J
def tw17623817249504502911 :=J
def tw5930139866434739678 :=J
def tw18147508157754933291 :=J
def tw2473078605156936636 :=J
def tw4328356549416747592 :=J
def tw14322405305295816698 :=J
end PySem.W.Fast
open PySem PySem.W PyProof.Rows
set_option maxRecDepth 100000 in
set_option maxHeartbeats 0 in
open L3 Tr in
theorem PySem.Challenge.cw_claimwise_k17_the_first_of_all_holds : PySem.Challenge.rw_claimwise_k17_the_first_of_all.Holds := by
 w_on;o_law;k_head;(case hw=>w_witness2)
 k_fill
 refine Fin.walk (l:=PySem.Challenge.rw_claimwise_k17_the_first_of_all) rfl rfl rfl (λw h S7=>by first|exact PySem.W.kIn_of S7|exact Gr S7) ?T ?nk ?F ?b
 case T=>exact λw h S7=>lpos (Gr S7) (fkd S7)
 case nk=>intro p;first|rfl|decide +kernel|k_is|simp[L3.Xm]
 case b=>intros;rfl
 case F=>
  intro w mg h KX G;exact#[o_tI KX G,
   dI KX G,
   dI KX G,
   dI KX G,
   dI KX G,
   dL KX G (b:=by((iterate 6 intro);(repeat refine Wo λ_=>?_);exact Wq rfl)),
   dI KX G,
   dI KX G,
   dI KX G,
   dI KX G,
   dI KX G,
   dI KX G,
   dI KX G,
   dI KX G,
   dI KX G,
   dI KX G,
   oI KX G,
   dI KX G,
   dI KX G,
   dI KX G,
   dI KX G,
   dI KX G,
   dI KX G,
   dI KX G,
   dI KX G,
   dI KX G,
   dI KX G,
   dI KX G,
   dI KX G,
   dI KX G,
   dI KX G,
   dI KX G,
   dI KX G,
   dI KX G,
   dI KX G,
   dI KX G,
   dI KX G,
   dI KX G,
   tk1]
