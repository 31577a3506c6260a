import PyProof.Rows.All
import Wide.All
import OpenK.AllK
import Wide.FinOn
import Lean
import KE.KDictOf
import PyProof.TupleIter
import PyProof.CollectWalk
import PyProof.AttrMissHeap
import PyProof.EqAt
import PyProof.EqKinds
import PyProof.TupleCall
import KE.KSortTup
import KE.KDictSum
import PyProof.DictIter
import PyProof.ConsumeS
import PyProof.Rows.SetFrom
import PyProof.SetRoads
import PyProof.Rows.CountFlat
import PyProof.StationsW
import PyProof.ExcInit
import PyProof.ExcClass2
import PyProof.ExcBaseAll.ValueError
import PyProof.ExcAttrAll.ValueError
import KE.KIsAll
import PyProof.RulesAs
import PyProof.RulesDel
import PyProof.NeKinds
import KE.KDictList
import KE.KRevIter
import PyProof.EnumMake
import KE.KNestM
import PyProof.ListRange
import PyProof.TupleOfGen
import KE.KMinBuiltin
import PyProof.Rows.CallKwBuiltin
import PyProof.FString
import PyProof.ZipIter
import PyProof.Rows.ZipGen
import PyProof.Rows.FactsT2
import KE.KLam
import KE.KSortKey
import PyProof.DictWalks
import KE.KItemsList
import KE.IntTextText
import PySem.Challenge.RW_claimwise_k07_claims_read
set_option Elab.async false
set_option linter.all false
set_option maxRecDepth 100000
set_option maxHeartbeats 4000000
set_option bootstrap.genMatcherCode false
set_option compiler.extract_closed false
set_option genSizeOf false
set_option genInjectivity false
open PySem.W renaming Frag->aa,kia_one->dO,kia_tup->gx,keepIn->gS,fnOf->iJ,kitx_dict->kD,kitx_list->nF,findIn->q_,kitOne->rm,codeIn->rq,kitx_tuple->rN,specialIn->sj,plainGet->ux,nsIn->uG,instObj->vh,cellsFrom_some->vO,lookIn->wL,copiedNames->yL,hasDictIn->Bc,kitx_none->Bd,kitx_bool->Be,handedIn->CL,kitx_int->CM,kitx_str->CN,codeHdIn->CZ,OpenLaw->D_,WalkO->GY,mg_of->G6,OpenLaw->Mq,hideAll_size->N3,hideAll_none->N4,truthy_bytes->N6,pre_splitW->N8,hideAll_get->Od,plainGet_of->Oe,findObj_cls->Of,callWith_K0->Og,of_hideAll->R0,kitx_float->R7,callWith_K->R8,codeRec_of->R9,ki_setBack->Sa,mg_none_of->Sm,methodObj->So,get_value->Sq,plainOver->Ss,kitx_own->V9,ki_setAt->V_,km_in_of->Wd,hideAll->Xi,takesIn->Xj,InstAt->Za,kIn_of->Zf,mroIn->Zg
open PySem renaming sizeLine->ah,Shared->ak,wpAny_bind->aA,wpAny->aO,model->a7,World->bL,Program->bM,wpAny_pure->bO,Around->cR,Spec->dg,cLine->eB,mem_of_lookup->eF,cellsFrom->e_,starEach->fB,FuncData->fC,mainGlobals->fL,sizeLine_eq->fN,call_meets->gb,wpAny_truthy_bool->gh,wpAny_field->gD,Scope->gH,compareOp->gR,wpAny_Call_Name_kw->gU,sliceBounds->gW,binaryOp->h_,NameKind->ia,wpAny_seqItems->iB,IsPair->iM,wpAny_setField_rec->iN,wpAny_passesOwn->iS,assignEach->jt,typeIs_str->ju,wpAny_callSpecial?_slot->jT,foldedSetIterable->kC,sysModules->lB,pyNext->mH,codeAny_mono->mJ,tupleKind_room_in1->mL,builtinsNs->mZ,relabel->m_,wpAny_holding->ou,wpAny_pyIter_zip->oQ,wpAny_call_entry->oR,codeAny->o4,bootBuiltins->qt,backTo->qx,letOwnedTupleGo->qy,IsZip->qC,wpAny_updateSeq_pair->qD,swapsWith->rM,wpAny_pyIter_tuple->rP,attributeBase->r6,wpAny_onRaise->r9,slot_list_getitem->sy,wpAny_pyIter_list->sC,wpAny_newObj_type->sE,wpAny_mono->sX,wpAny_letOwnedTupleGo_zip->s_,valueAt->tP,callerA->tQ,pyIter->uw,wpAny_getItem_list_slice->uA,wpAny_comprehension_free->uD,ZipApart->uE,tupleKind->vg,wpAny_execs_nil->vj,PassesOwn->vm,atKey->vp,scanBound->vq,codeAny_builtin->vt,pushCells_keeps->vA,holding->wK,recursionLimit->wM,meets_str_split_space->wV,newFunctionEnv->wW,GenState->xY,wpAny_loadName_local->xZ,Operator->x_,CmpOp->yb,sliceRange->yc,field->ye,wpAny_standAt->yD,swapsWithSole->yE,behindInMarks->yF,wpAny_loadName_cell->yJ,wpAny_Tuple_spliced->yM,isTrue->Av,assign->Aw,inplaceOp->Ax,seqIndex_neg->AA,slicePick->AD,spliced->A4,BindsTo->A5,bindL->A6,bindC->A7,getItem->A8,wpAny_assign_Name->Bb,list_append->Bg,wpAny_pyIter_enum->Bj,seqIndex_of->B0,subscripted->B3,wpAny_letGo->B5,bindArgs->CP,noFill_tuple_add->CQ,wpAny_Name->D3,rawInt->D4,typeIs_int->D6,call->D9,wpAny_rule->Ed,standAt->EX,numbered_texts->EZ,Keyword->E1,wpAny_setField->E2,firstArgMember->E3,storeName->Gw,strValues->Gx,lastMarks->Gz,swappedStores->GQ,intBits_le_64->GS,seq_tuple_add->GU,evalPart_none->GV,evalPart_some->G2,Builtin->G3,wpAny_attempt->G4,Within->J0,truthy->J3,Result->J4,concat_meets->J5,interactive->KW,wpAny_Slice->K0,strsFrom_eq->K8,setItem->Mn,getAttr->Mp,wpAny_call->N7,call_gives->Ob,IsPart->R_,Params->Sd,cellOf->Sh
open List renaming mem_cons_of_mem->ai,mem_cons_self->aj,length_append->ao,length_map->ay,getElem?_eq_getElem->aH,mem_append_right->aK,mem_cons->aM,not_mem_nil->aP,mem_singleton->aQ,length_cons->aT,mem_append_left->aX,mem_append->a6,replicate->a8,size_toArray->bw,append_assoc->bx,nodup_cons->bF,getElem?_set_ne->bG,range->bH,length_singleton->bJ,append_nil->bK,nodup_append->bP,getElem?_map->bT,getD_eq_getElem?_getD->bV,map_map->bW,getElem?_set_self->bY,mem_map->b7,getElem?_append_right->cj,map_append->cC,replicate_succ->cI,getElem?_eq_some_iff->cS,all_eq_true->cV,nodup_nil->di,map_cons->dm,lookup_cons->dw,mem_of_getElem?->dH,flatten_cons->eK,length_drop->fE,getElem?_set->fP,getElem?_append_left->fW,take_of_length_le->gC,eq_nil_of_length_eq_zero->ir,mem_range->iz,intercalate->iA,nil_append->iT,length_nil->iV,all_map->jH,getElem_mem->jI,filterMap_cons_some->jJ,filterMap_cons_none->jK,map_congr_left->jM,find?_cons->j3,length_range->kF,length_take->lE,filterMap_cons->lT,getElem_of_mem->lU,idxOf_lt_length_iff->mP,mem_replicate->mT,eq_of_mem_replicate->mU,getElem?_cons_succ->nq,any_eq_false->nE,ext_getElem?->nG,range_succ_eq_map->nW,drop_of_length_le->nX,any_eq_true->oO,getElem?_of_mem->qB,drop_append_of_le_length->qF,getElem?_range->qH,drop_zero->rA,getElem?_drop->rO,getElem?_eq_none_iff->sZ,drop_eq_getElem_cons->s9,getElem_append_right->tu,getLastD_eq_getLast?->tw,getElem?_replicate->uK,filter_cons_of_pos->uN,of_mem_zip->vn,length_set->vo,forIn_cons->vz,not_of_lt_findIdx->vR,filter->vU,length_replicate->wN,forIn_nil->wX,drop_drop->wY,getElem?_eq_none->wZ,set_append_right->w4,length_filter_le->w5,any_cons->yG,all_cons->yH,map_drop->yI,mem_filterMap->Ay,getElem_idxOf->AG,any_map->AH,getD->AK,foldl_append->Bh,zipIdx_cons->C3,cons_append->C8,mem_filter->D0,foldl->D7,foldl_cons->D8,range_succ->Ea,idxOf_cons->Eb,zipIdx_nil->Ef,isPrefixOf->Ei,take_left->E4,sum_cons->G5,map_take->G7,map_nil->J8,map_id'->Kn,length->KZ,map_id->La,cons->Sn
open _root_ renaming of_decide_eq_true->aq,if_pos->aB,decide_eq_true->aC,if_neg->aD,absurd->aG,decide_eq_false->aN,False->aR,beq_eq_false_iff_ne->cy,decide_eq_true_eq->cK,beq_self_eq_true->gM,if_true->ie,DecidableEq->kj,congrArg->lC,beq_iff_eq->lG,if_false->uz,or_false->CY,Decidable->GA
open PySem.Str renaming ofString->au,join->dU,length->m9,length_append->sG,empty->R6
open PySem.Heap renaming get?_push_of_some->aE,lt_size->aV,get?_push_size->bD,size_push->eS,SameBut->mG,get?_update_other->nT,get?_update_self->wQ,IsTuple->Ka
open False renaming elim->aJ
open Nat renaming le_refl->aW,ne_of_lt->bR,lt_of_lt_of_le->cg,lt_irrefl->eN,le_trans->fJ,lt_succ_self->gK,zero_le->iE,le_of_lt->jG,not_lt_zero->j4,lt_succ_of_lt->kE,ne_of_gt->kU,lt_trans->kW,sub_self->kX,zero_add->mQ,lt_of_succ_lt_succ->nU,le_succ->nV,mod_eq_of_lt->uH,le_of_eq->AF,toDigits->AL,le_add_right->C4,min_eq_left->Eg,add_assoc->G8,mul_comm->J9,succ_mul->Kd,mul_succ->Ke,add_comm->Kf,lt_or_ge->Kg,repr->Kh,succ_pos->Km
open Bool renaming false_ne_true->bq,and_eq_true->cU,eq_iff_iff->iU,or_eq_true_iff->lV,or_eq_true->vv,and_false->wR,and_eq_true_iff->yd,not_eq_true'->Bo,and_true->G1,true_or->J7
open PySem.NameKind renaming free->cM,cell->cP
open PySem.Expr.Name renaming elim->cW
open PySem.Value renaming ref->c8,none->f_,bool->lA,int->rK,str->rL,float->BZ,isStrOf->GP,isInt->KS,bytes->KU
open Option.some renaming inj->dh
open PySem.Builtin.SmallTypes renaming nextOf->dJ,ownedTupleIsFree->gc,ownedTupleHandOut->mR
open PySem.Builtin.Str renaming strSliceIndices->dS,spaceWords->kq,tooLong->Oh,strSub->Sg
open PySem.Calls renaming spliced_cons->eZ,spliced_nil->jk,Name_function_global->rY,callWith_builtin->vS
open Ne renaming symm->fj
open PySem.F renaming called_set->fZ,args_list_index_2->sY,args_tuple_add_2->uy,entry_list_index->uB,entry_tuple_add->uL,slot_list_index->uM,slot_tuple_add->vP,sub_list_frozenset->GZ,slot_dict_getitem->Hz,entry_type_call->Kp,typeCall_set_1->K4,entry_set_init->K5,sub_list_set->N_
open PySem.Expr.Call renaming elim->gf
open PyProof.Rows renaming callWith_type1->gw,callWith_builtin1->ic,AllBare->m6,step_dedup->nj,envOfC->nS,step_dedup->qz,subscriptTail_builtinR->vQ,slot_tuple_getitem->AB,IntsAre->A9,slot_str_getitem->CT,Subscript_->D5,boot_isinstance->Ec,subscriptTail->GW,tail_any->J6,zipApart_new->Kc,text_ofNat->Kq,SetOf_congr->K3,join_list->K9,isTrue_and->N5
open True renaming intro->gI
open PyProof.Rows.F renaming plain_set_update_loop->iK,entry_set_update_loop->mO
open PySem.Txt renaming words->iL,split->jB,mul->Mr,join->Zc
open ForInStep renaming yield->j5
open PySem.Obj renaming mapSeq->lF,data_mapFields->AI
open List.cons renaming inj->lM
open PySem.Expr.Subscript renaming elim->lW
open Int renaming emod_nonneg->l6,emod_lt_of_pos->mS,fdiv_eq_ediv_of_nonneg->rZ,add_zero->AM,toNat_natCast->Bk,negSucc->B6,zero_add->Kl,le_refl->K7
open PySem.Builtin.List renaming listTooLong->mK,listFitsIndex->G0
open PySem.Expr.Tuple renaming elim->qE
open Option renaming isSome_map->sA,isSome_some->AE,getD_none->CU,bind_some->C7
open PySem.StrLaws renaming subAt_one->sD,glued_eq_join->Gy,occ_length_le->Mv,lt_cons_cons->Oc,join_split->Se,split_free->Sf,lt_nil_nil->Sl,occ_head->Wb,subAt_eq->Wc
open Sum renaming inl->tO,inr->A3
open PySem.SeqAt renaming EqAt->uC,notIn_tupleAt->Hx,notIn_listAt->J_,in_tupleAt->K6,in_listAt->Ms
open PySem.Stmt.Assign renaming elim->uF
open Array renaming getElem?_toList->wU,length_toList->yK,toList_append->yN,append_assoc->Au
open PySem.Around renaming under_plainId->ya
open Char renaming toNat->yf,ofNat->Eh
open PySem.Heap.SameBut renaming update->yO
open PySem.Heap.IsSliceOf renaming new->Az
open PySem.Expr.ListComp renaming elim->AJ
open Iff renaming rfl->A_
open PySem.Expr.UnaryOp renaming elim->Bl
open PySem.Expr.Compare renaming elim->Bm
open PySem.AutoListH renaming list___mul___list_int_3->B4
open PySem.IsL renaming update->CV
open PySem.AutoSeq1 renaming list_extend_list_list_0->CW,list_clear_list_0->GX
open PySem.Expr.BoolOp renaming elim->C5
open PySem.Stmt.Return renaming elim->C6
open PySem.Builtin.Frozenset renaming updateFrom->EY
open PySem.Builtin.Range renaming rangeSize->Ko
open PyProof renaming noPylong_small->KY
open PySem.MeetsSeq renaming list_pop_last->K1
open PySem.Shared renaming heap->K_
open PySem.W.KIN renaming call_text->Mu
open PySem.W.WShape renaming has->N9
open PySem.Walks renaming list->Oa
open PySem.Expr.Attribute renaming elim->Oi
open PySem.Stmt.AugAssign renaming elim->Oj
open PySem.SeqAt.EqAt renaming int_str->RY,str_int->RZ
open PySem.P renaming truthy_int->R3,truthy_str->R4,str_of_int->R5,add_list->Wa,le_str->Zb
open PySem.W.WData renaming int->Sb
open PySem.Expr.Constant renaming elim->Si
open PySem.ScopeKind renaming function->Sj
open PySem.Stmt.Continue renaming elim->Sk
open List.Pairwise renaming nil->Su
open PySem.Heap.IsTuple renaming push->Sv
open PySem.DictEntry renaming refKey->V8
open PySem.PassesOwn renaming never->Xk
open PySem.Expr.BinOp renaming elim->Xl
open PySem.Expr.IfExp renaming elim->Xm
open PySem.Expr.Slice renaming elim->Xn
open PySem.Stmt.Break renaming elim->Xo
open PySem.Expr.List renaming elim->Zd
open PySem.Stmt.Expr renaming elim->Ze
open PySem.Stmt.For renaming elim->Zh
open _root_ renaming List->M,Nat->L,Option->aaV
open Option renaming some->Y,none->B
open Bool renaming true->J,false->W
open PySem renaming Value->S
local macro_rules|`(#[$a,$b,*])=>`(⟨$a,$b,*⟩)
def Zq7:Nat->Lean.Syntax->Lean.MacroM (Lean.TSyntax `rcasesPat)
|n+1,s=>match s with
 |`(#[$a,*])=>do let p<-a.getElems.mapM λx=>Zq7 n x.raw;`(rcasesPat|⟨$[$p:rcasesPat],*⟩)
 |`($x:ident)=>`(rcasesPat|$x:ident)
 |_=>`(rcasesPat|_)
|_,_=>`(rcasesPat|_)
local macro_rules|`(tactic|let $p:term:=$e)=>do `(tactic|obtain $(<-Zq7 50 p):rcasesPat:=$e)
noncomputable section
section
namespace L2
open PySem PySem.Spec PyProof.Rows
abbrev Key:=Sum Int Str
noncomputable def AN:Key->S->Bool
|.inl k,v=>KS k v
|.inr x,v=>GP x v
noncomputable def keyH(w:bL):Key->Int
|.inl k=>hashInt k
|.inr x=>hashStr w x
def iD:∀{k:Key}{v:S},AN k v=J->(∃i t,k=tO i/\v=rK i t)\/(∃x t,k=A3 x/\v=rL x t)
|.inl i,v,h=>by
 let#[t,e]:=Value.isInt_shape (k:=i) (v:=v) h;exact .inl #[i,t,rfl,e]
|.inr x,v,h=>by
 let#[t,e]:=Value.isStrOf_shape (x:=x) (v:=v) h;exact .inr #[x,t,rfl,e]
def Ol(i:Int)(t:Tok):AN (.inl i) (.int i t)=J:=by simp[AN,KS]
def Om(x:Str)(t:Tok):AN (.inr x) (.str x t)=J:=by simp[AN,GP]
def Zi(a b:Int):decide ((tO a:Key)=tO b)=(a==b):=by lia
def Zj(a b:Str):decide ((A3 a:Key)=A3 b)=decide (a=b):=by simp
def Zk(a:Int)(b:Str):decide ((tO a:Key)=A3 b)=W:=aN (λq=>nomatch q)
def Zl(a:Str)(b:Int):decide ((A3 a:Key)=tO b)=W:=aN (λq=>nomatch q)
def iw(prog:bM)(w:bL):PySem.KeyKind prog w Key where
 is:=AN
 hash:=keyH w
 inj:=λv a b ha hb=>by
  rcases iD ha with⟨i,t,rfl,rfl⟩|⟨x,t,rfl,rfl⟩
  ·rcases iD hb with⟨j,u,rfl,e⟩|⟨y,u,rfl,e⟩
   ·injection e with e1 _;rw[e1]
   ·exact nomatch e
  ·rcases iD hb with⟨j,u,rfl,e⟩|⟨y,u,rfl,e⟩
   ·exact nomatch e
   ·injection e with e1 _;rw[e1]
 byValue:=λk v h=>by
  rcases iD h with⟨i,t,rfl,rfl⟩|⟨x,t,rfl,rfl⟩<;>rfl
 pyHash:=λhv h=>by
  rcases iD hv with⟨i,t,rfl,rfl⟩|⟨x,t,rfl,rfl⟩
  ·exact wpAny_pyHash_int h
  ·exact wpAny_pyHash_str h
 eqBool:=λhu hv h=>by
  rcases iD hu with⟨i,t,rfl,rfl⟩|⟨x,t,rfl,rfl⟩
  ·rcases iD hv with⟨j,u,rfl,rfl⟩|⟨y,u,rfl,rfl⟩
   ·rw[Zi]at h;exact wpAny_eqBool_int h
   ·rw[Zk]at h;exact RY i t y u _ _ _ _ h
  ·rcases iD hv with⟨j,u,rfl,rfl⟩|⟨y,u,rfl,rfl⟩
   ·rw[Zl]at h;exact RZ x t j u _ _ _ _ h
   ·rw[Zj]at h;exact wpAny_eqBool_str h
 «strs»:=λk x t v h=>by
  rcases iD h with⟨i,u,rfl,e⟩|⟨y,u,rfl,e⟩
  ·exact nomatch e
  ·injection e with e1 _;subst e1;cases v<;>rfl
def Bp(prog:bM)(w:bL)(i:Int)(t:Tok):(iw prog w).is (.inl i) (.int i t)=J:=Ol i t
def Bq(prog:bM)(w:bL)(x:Str)(t:Tok):(iw prog w).is (.inr x) (.str x t)=J:=Om x t
end L2
namespace L2
open PySem PySem.Spec PyProof.Rows
inductive V where
 |non|bl (b:Bool)|int (i:Int)|str (x:Str)|byt (b:Array UInt8)|flt (b:UInt64)|ref (a:Addr)|ty (n:String)
 deriving kj
def RelV:V->S->Prop
|.non,u=>u=f_
|.bl b,u=>u=lA b
|.int i,u=>∃t,u=rK i t
|.str x,u=>∃t,u=rL x t
|.byt b,u=>∃t,u=KU b t
|.flt b,u=>∃t,u=BZ b t
|.ref a,u=>u=c8 a
|.ty n,u=>u=Value.type n
abbrev bN:M V->M S->Prop:=Paired RelV
def bN.length{xs:M V}{us:M S}(r:bN xs us):xs.length=us.length:=Paired.length r
theorem bN.get:∀{xs:M V}{us:M S}{i:L}{x:V},bN xs us->xs[i]?=Y x->∃u,us[i]?=Y u/\RelV x u
|_,_,_,_,.nil,e=>by simp at e
|_,_,0,_,.cons r _,e=>by simp at e;subst e;exact#[_,rfl,r]
|_,_,i+1,x,.cons _ t,e=>by
 let#[u,h1,h2]:=bN.get (i:=i) (x:=x) t (by simpa using e);exact#[u,by simpa using h1,h2]
theorem bN.set(r:RelV x u):∀{xs:M V}{us:M S} (i:L),bN xs us->bN (xs.set i x) (us.set i u)
|_,_,_,.nil=>.nil
|_,_,0,.cons _ t=>.cons r t
|_,_,i+1,.cons q t=>.cons q (bN.set r i t)
theorem bN.append:∀{xs ys:M V}{us ws:M S},bN xs us->bN ys ws->bN (xs++ys) (us++ws)
|_,_,_,_,.nil,s=>s
|_,_,_,_,.cons r t,s=>.cons r (bN.append t s)
theorem bN.take:∀{xs:M V}{us:M S} (n:L),bN xs us->bN (xs.take n) (us.take n)
|_,_,0,_=>.nil
|_,_,_+1,.nil=>.nil
|_,_,n+1,.cons r t=>.cons r (bN.take n t)
theorem bN.drop:∀{xs:M V}{us:M S} (n:L),bN xs us->bN (xs.drop n) (us.drop n)
|_,_,0,r=>r
|_,_,_+1,.nil=>.nil
|_,_,n+1,.cons _ t=>bN.drop n t
def o5:aaV V->aaV S->Prop
|some v,Y u=>RelV v u
|none,B=>True
|_,_=>aR
def KV{κ:Type}:M (κ×V)->M (κ×S)->Prop:=Paired λ(p:κ×V) (q:κ×S)=>p.1=q.1/\RelV p.2 q.2
noncomputable def kV:Key->V
|.inl i=>.int i
|.inr x=>.str x
inductive HO where
|lst (xs:M V)
|tup (xs:M V)
|dK (kvs:M (Key×V))|dT (kvs:M (M Key×V))
|set (aaU:Int->Bool) (n:L)
|ins (C dx:Addr) (fs:M (Str×V))
|own (x:Addr)
|xd (fs:M (Str×V))
|met (f x:Addr)
|rng (lo hi:Int)
|bE (o:Obj) (u:HO)
|tbl (ps:Array S)
|ext (φ:Heap->Prop)
abbrev Hp:=Addr->aaV HO
noncomputable def upd(H:Hp)(a:Addr)(o:HO):Hp:=λb=>if b=a then Y o else H b
def dF:upd H a o a=Y o:=by unfold upd;rw[aB rfl]
def bf(h:b≠a):upd H a o b=H b:=by unfold upd;rw[aD h]
def abk{H:Hp}(h:H a=Y o)(h':H b=Y u)(d:o≠u):a≠b:=by lia
def bX{H:Hp}(h:H a=Y o)(h':H b=B):a≠b:=by lia
noncomputable def tabQ(ps:Array S):Str:=match ps.toList with
|.str q _::_=>q
|_=>""
def We(H:Hp)(h:Heap)(a:Addr)(ps:Array S):Prop:=∃qs,h.get? a=Y { cls:=.none,data:=.fields qs }/\TriplesOk qs.toList/\∀pos cv,codeAmong pos qs.toList=Y cv->∃c' oc vs tq,cv=.ref c'/\H c'=Y (.bE oc (.own a))/\oc.data=.fields vs/\vs[1]?=Y (.str (tabQ ps) tq)
section
variable(P:bM) (w:bL)
def fq(H:Hp)(h:Heap)(a:Addr):HO->Prop
|.lst xs=>xs.length<=ah/\∃(its:M S) (n:L),bN xs its/\h.get? a=Y { cls:=.type "list",data:=.seq its.toArray n }
|.tup xs=>xs.length<=ah/\∃its:M S,bN xs its/\IsTup h a its.toArray
|.dK kvs=>kvs.length<=ah/\(a==lB)=W/\∃vs,KV kvs vs/\h.DictOf (iw P w) a vs
|.dT kvs=>kvs.length<=ah/\(a==lB)=W/\∃xs:M (M Key×Addr×S),
  Paired (λ(p:M Key×V) (q:M Key×Addr×S)=>p.1=q.1/\H q.2.1=Y (.tup (p.1.map kV))/\RelV p.2 q.2.2) kvs xs /\
  ∃o es ep,h.get? a=Y o/\o.ExactDict/\o.data=.dict es ep/\es.toList=xs.map (entryOfKey (vg (iw P w)))/\(xs.map (·.1)).Nodup
|.set aaU n=>h.SetOf (intKind P w) a aaU n
|.ins C dx fs=>H dx=Y (.own a)/\fs.length<=1000/\dx≠a/\h.get? a=Y (vh C dx) /\
  ∃mA,h.Ns1 dx mA/\(∀f,o5 (fs.lookup f) (mA f))/\J0 mA (fs.map (·.1))
|.own _=>∃o,h.get? a=Y o
|.xd fs=>∃mA,h.Ns1 a mA/\∀f,o5 (fs.lookup f) (mA f)
|.rng lo hi=>∃t u v,h.get? a=Y { cls:=.type "range",data:=.fields (List.toArray [.int lo t,.int hi u,.int 1 v]) }
|.bE o u=>h.get? a=Y o/\fq H h a u
|.tbl ps=>We H h a ps
|.met f x=>h.get? a=Y (So (.ref f) (.ref x))
|.ext φ=>φ h/\(∃o,h.get? a=Y o)/\∀h1 h2:Heap,φ h1->(∀o,h1.get? a=Y o->h2.get? a=Y o)->φ h2
def gJ(H:Hp)(h:Heap):Prop:=∀a o,H a=Y o->fq P w H h a o
end
section
variable{P:bM}{w:bL}{H H':Hp}{h h':Heap}{a:Addr}{o:HO}
def fq.lt(x:fq P w H h a o):a<h.objs.size:=by
 cases o with
 |lst xs=>let#[_,_,_,_,e]:=x;exact aV e
 |tup xs=>let#[_,_,_,p]:=x;exact p.lt
 |dK kvs=>let#[_,_,_,_,o,_,_,e,_]:=x;exact aV e
 |dT kvs=>let#[_,_,_,_,o,_,_,e,_]:=x;exact aV e
 |set aaU n=>let#[o,_,_,_,e,_]:=x;exact aV e
 |ins C dx fs=>let#[_,_,_,e,_]:=x;exact aV e
 |own y=>let#[_,e]:=x;exact aV e
 |xd fs=>let#[_,#[_,_,_,e,_],_]:=x;exact aV e
 |rng lo hi=>let#[_,_,_,e]:=x;exact aV e
 |bE ob u=>let#[e,_]:=x;exact aV e
 |tbl ps=>let#[_,e,_]:=x;exact aV e
 |met f y=>exact aV (show h.get? a=Y _ from x)
 |ext φ=>let#[_,#[_,e],_]:=x;exact aV e
theorem Paired.Sw{α β:Type}{F G:α->β->Prop}:∀{aeQ:M α}{aeR:M β},Paired F aeQ aeR->(∀a b,F a b->G a b)->Paired G aeQ aeR
|_,_,.nil,_=>.nil
|_,_,.cons r t,f=>.cons (f _ _ r) (Paired.Sw t f)
def fq.stay(x:fq P w H h a o)(k:∀b u,(b=a\/H b=Y (.own a))->h.get? b=Y u->h'.get? b=Y u)(ho:∀b,H b=Y (.own a)->H' b=Y (.own a))(ht:∀b xs,H b=Y (.tup xs)->H' b=Y (.tup xs))(hf:∀b o u,H b=Y (.bE o u)->H' b=Y (.bE o u)):fq P w H' h' a o:=by
 induction o with
 |lst xs=>let#[z,its,n,r,e]:=x;exact#[z,its,n,r,k _ _ (.inl rfl) e]
 |tup xs=>let#[z,its,r,ob,e,c]:=x;exact#[z,its,r,ob,k _ _ (.inl rfl) e,c]
 |dK kvs=>let#[z,y,vs,r,ob,es,ep,e,c]:=x;exact#[z,y,vs,r,ob,es,ep,k _ _ (.inl rfl) e,c]
 |dT kvs=>
  let#[z,y,xs,r,ob,es,ep,e,c]:=x;exact#[z,y,xs,Paired.Sw r λp q z=>#[z.1,ht _ _ z.2.1,z.2.2],ob,es,ep,k _ _ (.inl rfl) e,c]
 |set aaU n=>let#[ob,es,ep,t,e,c]:=x;exact#[ob,es,ep,t,k _ _ (.inl rfl) e,c]
 |ins C dx fs=>
  let#[d,z,ne,e,mA,#[od,es,ep,e2,c],r]:=x;exact#[ho _ d,z,ne,k _ _ (.inl rfl) e,mA,#[od,es,ep,k _ _ (.inr d) e2,c],r]
 |own y=>let#[ob,e]:=x;exact#[ob,k _ _ (.inl rfl) e]
 |xd fs=>let#[mA,#[od,es,ep,e,c],r]:=x;exact#[mA,#[od,es,ep,k _ _ (.inl rfl) e,c],r]
 |rng lo hi=>let#[t,u,v,e]:=x;exact#[t,u,v,k _ _ (.inl rfl) e]
 |bE ob u ih=>let#[e,q]:=x;exact#[k _ _ (.inl rfl) e,ih q]
 |tbl ps=>
  let#[qs,e,t,c]:=x;refine#[qs,k _ _ (.inl rfl) e,t,λpos cv q=>?_];let#[c',oc,vs,tq,rfl,e2,z]:=c pos cv q;exact#[c',oc,vs,tq,rfl,hf _ _ _ e2,z]
 |met f y=>
  have e:=x;exact k a _ (.inl rfl) e
 |ext φ=>let#[p,#[o,e],st]:=x;exact#[st _ _ p λo q=>k _ _ (.inl rfl) q,#[o,k _ _ (.inl rfl) e],st]
def gJ.lt(x:gJ P w H h)(e:H a=Y o):a<h.objs.size:=(x a o e).lt
def gJ.fresh(x:gJ P w H h)(e:h.objs.size<=a):H a=B:=by
 cases q:H a with
 |none=>rfl
 |some u=>exact aG (cg (x.lt q) e) (eN _)
def gJ.kept(x:gJ P w H h)(k:∀b u,h.get? b=Y u->h'.get? b=Y u):gJ P w H h':=λa o e=>
 (x a o e).stay (λb u _ q=>k b u q) (λ_ q=>q) (λ_ _ q=>q) λ_ _ _ q=>q
def gJ.laid(x:gJ P w H h)(k:∀b u,h.get? b=Y u->h'.get? b=Y u)(hp:h.objs.size<=a)(new:fq P w (upd H a o) h' a o):gJ P w (upd H a o) h':=λb u e=>by
 have hn:=x.fresh hp;by_cases hb:b=a
 ·subst hb;rw[dF]at e;cases e;exact new
 ·rw[bf hb]at e;exact(x b u e).stay (λc v _ q=>k c v q) (λc q=>by rw[bf (bX q hn)];exact q) (λc xs q=>by rw[bf (bX q hn)];exact q) λc ob xs q=>by rw[bf (bX q hn)];exact q
end
def Rd(H:Hp)(a:Addr)(u:HO):Prop:=H a=Y u\/∃o,H a=Y (.bE o u)
def Rd.ok(r:Rd H a u)(x:gJ P w H h):fq P w H h a u:=by
 rcases r with r|⟨o,r⟩
 ·exact x a u r
 ·let#[_,q]:=x a _ r;exact q
def Oo:aaV HO->Prop
|some (.lst _)=>True
|some (.dK _)=>True
|some (.dT _)=>True
|some (.set _ _)=>True
|some (.ins _ _ _)=>True
|some (.ext _)=>True
|_=>aR
section
variable{P:bM}{w:bL}{H:Hp}{h h':Heap}{x e:Addr}{o':HO}
def gJ.write(ok:gJ P w H h)(mu:Oo (H x))(he:e=x\/H e=Y (.own x))(k:∀b u,b≠e->h.get? b=Y u->h'.get? b=Y u)(heo:∃u,h'.get? e=Y u)(new:fq P w (upd H x o') h' x o'):gJ P w (upd H x o') h':=λb u q=>by
 have nown:∀c y,H c=Y (.own y)->c≠x:=λc y r z=>by subst z;rw[r]at mu;exact mu
 have ntup:∀c xs,H c=Y (.tup xs)->c≠x:=λc xs r z=>by subst z;rw[r]at mu;exact mu
 by_cases hb:b=x
 ·subst hb;rw[dF]at q;cases q;exact new
 ·rw[bf hb]at q;by_cases hbe:b=e
  ·have q':H b=Y (.own x):=by
    rcases he with z|z
    ·exact aG (hbe.trans z) hb
    ·rw[hbe];exact z
   rw[q]at q';cases q';let#[v,hv]:=heo;exact#[v,by rw[hbe];exact hv]
  ·refine(ok b u q).stay (λc v hc r=>k c v ?_ r) (λc r=>by rw[bf (nown c b r)];exact r) (λc xs r=>by rw[bf (ntup c xs r)];exact r) λc ob xs r=>by rw[bf λz=>by subst z;rw[r]at mu;exact mu];exact r
   rcases hc with rfl|hc
   ·exact hbe
   ·rintro rfl;rcases he with z|z
    ·exact nown c b hc z
    ·rw[hc]at z;cases z;exact hb rfl
end
structure Un (fs ex:M Addr) (H H':Hp) (h h':Heap):Prop where
 keep:∀b o,h.get? b=Y o->H b=B->b∉fs->b∉ex->h'.get? b=Y o
 slot:∀b o,h.get? b=Y o->H b=B->b∈fs->b∉ex->∃sl,h'.get? b=Y { o with slots:=sl }
 free:∀b o,h.get? b=Y o->H b=B->b∉ex->H' b=B
 there:∀b o,h.get? b=Y o->b∉ex->∃o',h'.get? b=Y o'
 tups:∀b xs,H b=Y (.tup xs)->H' b=Y (.tup xs)
 aF:∀b o u,H b=Y (.bE o u)->H' b=Y (.bE o u)
 tbls:∀b ps,H b=Y (.tbl ps)->∃more,H' b=Y (.tbl (ps++more))
section
variable{fs fs' ex ex':M Addr}{H H1 H2:Hp}{h h1 h2 h':Heap}{a x e:Addr}{o:HO}
def Un.any(u:Un fs ex H H1 h h1)(q:h.get? b=Y ob)(n:H b=B)(hx:b∉ex):∃sl,h1.get? b=Y { ob with slots:=sl }:=by
 by_cases hb:b∈fs
 ·exact u.slot b ob q n hb hx
 ·exact#[ob.slots,u.keep b ob q n hb hx]
def Un.kept(k:∀b u,h.get? b=Y u->h'.get? b=Y u):Un fs ex H H h h':=
 #[λb ob q _ _ _=>k b ob q,λb ob q _ _ _=>#[ob.slots,k b ob q],λ_ _ _ n _=>n,λb ob q _=>#[ob,k b ob q],λ_ _ q=>q,λ_ _ _ q=>q,λ_ ps q=>#[#[],by rw[q];simp]]
def Un.refl:Un fs ex H H h h:=Un.kept λ_ _ q=>q
def Un.laid(k:∀b u,h.get? b=Y u->h'.get? b=Y u)(hp:h.objs.size<=a)(hn:H a=B):Un fs ex H (upd H a o) h h' where
 keep:=λb u q _ _ _=>k b u q
 slot:=λb u q _ _ _=>#[u.slots,k b u q]
 free:=λb u q n _=>by rw[bf (bR (cg (aV q) hp))];exact n
 there:=λb u q _=>#[u,k b u q]
 tups:=λb xs q=>by rw[bf (bX q hn)];exact q
 aF:=λb u xs q=>by rw[bf (bX q hn)];exact q
 tbls:=λb ps q=>#[#[],by rw[bf (bX q hn),q];simp]
def Un.write(mu:Oo (H x))(he:e=x\/H e=Y (.own x))(k:∀b u,b≠e->h.get? b=Y u->h'.get? b=Y u)(heo:∃u,h'.get? e=Y u):Un fs ex H (upd H x o) h h':=by
 have hx:∀b,H b=B->b≠x:=λb n z=>by subst z;rw[n]at mu;exact mu
 have hb:∀b,H b=B->b≠e:=λb n z=>by
  subst z;rcases he with r|r
  ·exact hx b n r
  ·rw[n]at r;cases r
 have hm:∀b u,H b=Y u->¬Oo (Y u)->b≠x:=λb u q nm z=>by subst z;rw[q]at mu;exact nm mu
 refine#[λb u q n _ _=>k b u (hb b n) q,λb u q n _ _=>#[u.slots,k b u (hb b n) q],λb u q n _=>by rw[bf (hx b n)];exact n,λb u q _=>?_,
  λb xs q=>by rw[bf (hm b _ q λz=>z)];exact q,λb u xs q=>by rw[bf (hm b _ q λz=>z)];exact q,λb ps q=>#[#[],by rw[bf (hm b _ q λz=>z),q];simp]]
 by_cases hbe:b=e
 ·subst hbe;exact heo
 ·exact#[u,k b u hbe q]
end
noncomputable def Wf(h:Heap)(H:Hp):M Addr:=(bH h.objs.size).filter λa=>(H a).isSome
def w6(h:Heap)(H:Hp):Heap:=Xi h (Wf h H)
def Oq(h:Heap)(H:Hp):(w6 h H).objs.size=h.objs.size:=N3 _ _
def Sx(e:h.get? b=Y o)(n:H b=B):(w6 h H).get? b=Y o:=
 Od _ e λhm=>by
  have q:=(D0.mp hm).2;rw[n]at q;simp at q
def Xp(e:(w6 h H).get? b=Y o):h.get? b=Y o/\H b=B:=by
 have e':=R0 (Wf h H) e;refine#[e',?_];cases q:H b with
 |none=>rfl
 |some x=>
  have hm:b∈Wf h H:=D0.mpr #[iz.mpr (aV e'),by simp[q]];have z:(w6 h H).get? b=B:=N4 (Wf h H) hm;rw[z]at e;cases e
noncomputable def Xq(g h:Heap)(aaQ:Addr):M (Addr×Obj):=(bH h.objs.size).filterMap λa=>if a=aaQ\/(g.get? a).isSome=J then B else(h.get? a).map λo=>(a,o)
def rest(g h:Heap)(aaQ d:Addr):M (Addr×Obj):=(Xq g h aaQ).filter λp=>decide (p.1≠d)
end L2
namespace L2
open PySem PySem.Spec PyProof.Rows
structure Mod (K:aa) (mg:Str->aaV S) (base:Heap):Prop where
 kin:K.In base
 glob:base.Ns fL mg
 blt:∃mb,base.Ns mZ mb/\∀x:Str,x≠"__name__"->mb x=qt x
 nolimit:base.NoLimit
 bmain:∃bm o,mg "__builtins__"=Y (.ref bm)/\bm≠mZ/\base.get? bm=Y o/\o.cls=.type "module"/\o.dict=Y mZ/\o.data=.plain
structure Cx where
 prog:bM
 w:bL
 K:aa
 mg:Str->aaV S
 base:Heap
 A:cR
 N:M Str
 aet:ak
 aeE:Hp
 env:Env
 outer:M Env
 stack:M Env
 ex:M Addr
 fn:Str->Bool
 calm:Bool
 pn:M (Addr×Obj)
 xe:S->ak->Prop
noncomputable def frs(l:M Env):M Addr:=l.filterMap (·.frame)
abbrev Cx.fs(X:Cx):M Addr:=frs X.outer
noncomputable def oS:M (Addr×Str):=[]
def Tb(H:Hp):Prop:=∀p∈oS,∃more,H p.1=Y (.tbl (#[.str p.2 0]++more))
def Tb.mono(t:Tb H)(h:∀b ps,H b=Y (.tbl ps)->∃more,H' b=Y (.tbl (ps++more))):Tb H':=λp hp=>by
 let#[m,e]:=t p hp;let#[m',e']:=h _ _ e;exact#[m++m',by rw[e',Au]]
def Ot(sc:gH)(x:Str):Prop:=sc.names.lookup x=Y .local\/sc.names.lookup x=Y .cell\/sc.names.lookup x=Y .free
def Loc(sc:gH)(x:Str):Prop:=sc.names.lookup x=Y .local\/sc.names.lookup x=Y .cell
def Look(env:Env)(h:Heap)(m:Str->aaV S)(x:Str)(u:S):Prop:=
 (env.kindOf x=Y .local/\m x=Y u)\/((env.kindOf x=Y .cell\/env.kindOf x=Y .free)/\∃c,env.cells.lookup x=Y c/\h.IsCell c (Y u))
structure Cx.Ok (X:Cx):Prop where
 mod:Mod X.K X.mg X.base
 kind:X.env.scope.kind=.function
 glob:X.env.globals=fL
 blt:X.env.builtins=mZ
 above:X.aet.heap.objs.size<=X.env.locals
 inj:∀x y c,X.env.cells.lookup x=Y c->X.env.cells.lookup y=Y c->x=y
 has:∀x,(X.env.kindOf x=Y .cell\/X.env.kindOf x=Y .free)->∃c,X.env.cells.lookup x=Y c
 cab:∀x c,X.fn x=J->X.env.cells.lookup x=Y c->X.aet.heap.objs.size<=c
 hd:X.calm=J->X.A.handled=B
 frames:X.A.frames=Y X.stack
 stk:X.stack=X.outer\/(X.stack=X.env::X.outer/\X.env.frame=Y X.env.locals)
 exf:∀b∈X.ex,b≠X.env.locals/\∀x c,X.env.cells.lookup x=Y c->c≠b
 bs:∀b o,X.base.get? b=Y o->X.aet.heap.get? b=Y o/\X.aeE b=B
 bsz:X.base.objs.size<=X.aet.heap.objs.size
 noex:∀b o,X.base.get? b=Y o->b∉X.ex
 exfs:∀b∈X.ex,b∉X.fs
 rQ:X.aet.heap.FunFrames X.base X.outer
 frf:(∀b∈X.fs,X.aeE b=B)/\Tb X.aeE
structure Inv (X:Cx) (pins:M (Addr×Obj)) (O:M (aaV V)) (H:Hp) (s:ak):Prop where
 ok:X.Ok
 os:s.os=X.aet.os
 bare:m6 s.gens
 base:Un X.fs X.ex X.aeE H X.aet.heap s.heap
 loc:∃m,s.heap.Ns X.env.locals m/\∀(i:L) (x:Str) (v:V),X.N[i]?=Y x->O[i]?=Y (Y v)->Ot X.env.scope x->∃u,RelV v u/\Look X.env s.heap m x u
 cell:∀x c,X.env.cells.lookup x=Y c->∃v,s.heap.IsCell c v
 free:H X.env.locals=B
 freeC:∀x c,X.env.cells.lookup x=Y c->H c=B
 pin:∀p∈X.pn++pins,s.heap.get? p.1=Y p.2/\H p.1=B/\p.1≠X.env.locals/\p.1∉X.fs/\∀v,p.2.data≠.cell v
 hok:gJ X.prog X.w H s.heap
 len:O.length=X.N.length
section
variable{X:Cx}{pins:M (Addr×Obj)}{O:M (aaV V)}{H H':Hp}{s:ak}{h':Heap}
def Cx.Ok.nofr(ok:X.Ok)(e:X.base.get? b=Y o):b∉X.fs:=λhb=>by
 have:=(ok.rQ.mem hb).1;rw[e]at this;cases this
def Inv.bs(I:Inv X pins O H s):∀b o,X.base.get? b=Y o->s.heap.get? b=Y o/\H b=B:=λb o e=>
 #[I.base.keep b o (I.ok.bs b o e).1 (I.ok.bs b o e).2 (I.ok.nofr e) (I.ok.noex b o e),I.base.free b o (I.ok.bs b o e).1 (I.ok.bs b o e).2 (I.ok.noex b o e)]
def Inv.bk(I:Inv X pins O H s):∀b o,X.base.get? b=Y o->s.heap.get? b=Y o:=λb o e=>(I.bs b o e).1
def Inv.mod(I:Inv X pins O H s):Mod X.K X.mg X.base:=I.ok.mod
def Inv.jN(I:Inv X pins O H s):X.K.In s.heap:=I.ok.mod.kin.keeps I.bk
def Inv.lt(I:Inv X pins O H s):X.env.locals<s.heap.objs.size:=let⟨_,hn,_⟩:=I.loc;hn.lt
def Inv.sz(I:Inv X pins O H s):X.aet.heap.objs.size<=s.heap.objs.size:=fJ I.ok.above (jG I.lt)
def Inv.nofs(I:Inv X pins O H s)(h:s.heap.objs.size<=a):a∉X.fs:=λhb=>by
 let#[_,o,ho,_]:=I.ok.rQ.mem hb;exact aG (cg (aV ho) (fJ I.sz h)) (eN _)
def Inv.HA(I:Inv X pins O H s):∀x c,X.env.cells.lookup x=Y c->c≠X.env.locals:=λx c e z=>by
 let#[v,o,ho,hd]:=I.cell x c e;let#[m,#[o',es,ep,ho',hd',_],_]:=I.loc;rw[z,ho']at ho;cases ho;rw[hd']at hd;cases hd
def Inv.rQ(I:Inv X pins O H s):s.heap.FunFrames X.base X.outer:=by
 have all:∀(l:M Env),(∀b∈frs l,b∈X.fs)->X.aet.heap.FunFrames X.base l->s.heap.FunFrames X.base l:=by
  intro l;induction l with
  |nil=>intro _ _;trivial
  |cons env r ih=>
   intro hs hl;let#[hk,#[aaQ,o,hf,hn,ho,hd],hr]:=hl;have hL:=hs aaQ (by unfold frs;rw[lT,hf];exact aj);let#[sl,e]:=I.base.slot aaQ o ho (I.ok.frf.1 aaQ hL) hL λz=>I.ok.exfs aaQ z hL;exact#[hk,#[aaQ,_,hf,hn,e,hd],ih (λb hb=>hs b (by unfold frs;rw[lT,hf];exact ai _ hb)) hr]
 exact all X.outer (λ_ hb=>hb) I.ok.rQ
def Inv.stack(I:Inv X pins O H s):s.heap.FunFrames X.base X.stack:=by
 rcases I.ok.stk with e|⟨e,hf⟩
 ·rw[e];exact I.rQ
 ·rw[e];let#[m,hn,_]:=I.loc;refine .cons (by rw[I.ok.kind];decide) hf hn ?_ I.rQ;exact Heap.get?_none_of_le (fJ I.ok.bsz I.ok.above)
def Inv.yP(I:Inv X pins O H s):∀b∈frs X.stack,b∈X.env.locals::X.fs:=λb hb=>by
 rcases I.ok.stk with e|⟨e,hf⟩
 ·rw[e]at hb;exact ai _ hb
 ·rw[e]at hb;unfold frs at hb;rw[lT,hf]at hb;exact hb
def Inv.tb(I:Inv X pins O H s):Tb H:=I.ok.frf.2.mono I.base.tbls
def Inv.Lb(I:Inv X pins O H s):∀b∈frs X.stack,H b=B:=λb hb=>by
 rcases aM.mp (I.yP b hb)with e|hb
 ·rw[e];exact I.free
 ·let#[_,o,ho,_]:=I.ok.rQ.mem hb;exact I.base.free b o ho (I.ok.frf.1 b hb) λz=>I.ok.exfs b z hb
def Inv.step{g':Array xY}{t':L}{d':Drawn}{ch:M Addr}(I:Inv X pins O H s)(hch:∀b∈ch,(b∈X.ex\/X.aet.heap.objs.size<=b)/\b≠X.env.locals/\(∀x c,X.env.cells.lookup x=Y c->c≠b)/\∀p∈X.pn++pins,p.1≠b)(keep:∀b o,b≠X.env.locals->b∉X.fs->b∉ch->s.heap.get? b=Y o->H b=B->h'.get? b=Y o)(slot:∀b o,b≠X.env.locals->b∈X.fs->b∉ch->s.heap.get? b=Y o->H b=B->∃sl,h'.get? b=Y { o with slots:=sl })(free:∀b o,b∉ch->s.heap.get? b=Y o->H b=B->H' b=B)(there:∀b o,b∉ch->s.heap.get? b=Y o->∃o',h'.get? b=Y o')(tups:∀b xs,H b=Y (.tup xs)->H' b=Y (.tup xs))(aF:∀b o u,H b=Y (.bE o u)->H' b=Y (.bE o u))(tbls:∀b ps,H b=Y (.tbl ps)->∃more,H' b=Y (.tbl (ps++more)))(ns:∀m,s.heap.Ns X.env.locals m->h'.Ns X.env.locals m)(hok:gJ X.prog X.w H' h')(hg:m6 g'):Inv X pins O H' { s with heap:=h',gens:=g',drawn:=d',toks:=t' }:=by
 have neL:∀b o,X.aet.heap.get? b=Y o->b≠X.env.locals:=λb o e=>bR (cg (aV e) I.ok.above);have neC:∀b o,X.aet.heap.get? b=Y o->b∉X.ex->b∉ch:=λb o e hx hb=>by
  rcases(hch b hb).1 with z|z
  ·exact hx z
  ·exact aG (cg (aV e) z) (eN _)
 have cellK:∀x c,X.env.cells.lookup x=Y c->∀v,s.heap.IsCell c v->h'.IsCell c v:=λx c e v ⟨o,ho,hd⟩=>by
  have nch:=λz=>(hch c z).2.2.1 x c e rfl;by_cases hc:c∈X.fs
  ·let#[sl,q]:=slot c o (I.HA x c e) hc nch ho (I.freeC x c e);exact#[_,q,hd]
  ·exact#[o,keep c o (I.HA x c e) hc nch ho (I.freeC x c e),hd]
 refine#[I.ok,I.os,hg,#[λb o e n hb hx=>?_,λb o e n hb hx=>?_,λb o e n hx=>?_,λb o e hx=>?_,λb xs e=>tups b xs (I.base.tups b xs e),λb o xs e=>aF b o xs (I.base.aF b o xs e),λb ps e=>?_],?_,λx c e=>?_,?_,λx c e=>?_,λp hp=>?_,hok,I.len]
 ·exact keep b o (neL b o e) hb (neC b o e hx) (I.base.keep b o e n hb hx) (I.base.free b o e n hx)
 ·let#[sl,e1]:=I.base.slot b o e n hb hx;let#[sl',e2]:=slot b _ (neL b o e) hb (neC b o e hx) e1 (I.base.free b o e n hx);exact#[sl',e2]
 ·let#[o',e1]:=I.base.there b o e hx;exact free b o' (neC b o e hx) e1 (I.base.free b o e n hx)
 ·let#[o',e1]:=I.base.there b o e hx;exact there b o' (neC b o e hx) e1
 ·let#[m1,e1]:=I.base.tbls b ps e;let#[m2,e2]:=tbls b _ e1;exact#[m1++m2,by rw[e2,Au]]
 ·let#[m,hn,hl]:=I.loc;refine#[m,ns m hn,λi x v e1 e2 e3=>?_];let#[u,r,l]:=hl i x v e1 e2 e3;refine#[u,r,?_];rcases l with l|⟨k,c,e,z⟩
  ·exact .inl l
  ·exact .inr #[k,c,e,cellK x c e _ z]
 ·let#[v,z]:=I.cell x c e;exact#[v,cellK x c e v z]
 ·let#[m,#[o,_,_,ho,_],_]:=I.loc;exact free _ o (λz=>(hch _ z).2.1 rfl) ho I.free
 ·let#[v,o,ho,hd]:=I.cell x c e;exact free c o (λz=>(hch c z).2.2.1 x c e rfl) ho (I.freeC x c e)
 ·let#[e,n,ne,nf,d]:=I.pin p hp;have nch:=λz=>(hch p.1 z).2.2.2 p hp rfl;exact#[keep p.1 p.2 ne nf nch e n,free p.1 p.2 nch e n,ne,nf,d]
def Inv.un{t':L}(I:Inv X pins O H s)(u:Un X.fs [] H H' s.heap h')(hok:gJ X.prog X.w H' h'):Inv X pins O H' { s with heap:=h',toks:=t' }:=by
 let#[m,#[o,es,ep,ho,r],_]:=id I.loc;let#[sl,hL]:=u.any ho I.free (by simp);exact I.step (g':=s.gens) (d':=s.drawn) (ch:=[]) (λ_ z=>nomatch z) (λb o _ hb _ e n=>u.keep b o e n hb (by simp)) (λb o _ hb _ e n=>u.slot b o e n hb (by simp)) (λb o _ e n=>u.free b o e n (by simp)) (λb o _ e=>u.there b o e (by simp)) u.tups u.aF u.tbls (λm' hm=>by
  let#[o',es',ep',ho',r']:=hm;rw[ho]at ho';cases ho';exact#[_,es',ep',hL,r']) hok I.bare
def Inv.call{g':Array xY}{t':L}{d':Drawn}{ch:M Addr}(I:Inv X pins O H s)(u:Un (frs X.stack) ch H H' s.heap h')(hok:gJ X.prog X.w H' h')(hg:m6 g')(hch:∀b∈ch,(b∈X.ex\/X.aet.heap.objs.size<=b)/\b≠X.env.locals/\(∀x c,X.env.cells.lookup x=Y c->c≠b)/\∀p∈X.pn++pins,p.1≠b):Inv X pins O H' { s with heap:=h',gens:=g',drawn:=d',toks:=t' }:=by
 let#[m,#[o,es,ep,ho,r],_]:=id I.loc;let#[sl,hL]:=u.any ho I.free λz=>(hch _ z).2.1 rfl;exact I.step (ch:=ch) hch (λb o hL hb hc e n=>u.keep b o e n (λz=>(aM.mp (I.yP b z)).elim hL hb) hc) (λb o _ _ hc e n=>u.any e n hc) (λb o hc e n=>u.free b o e n hc) (λb o hc e=>u.there b o e hc) u.tups u.aF u.tbls (λm' hm=>by
  let#[o',es',ep',ho',r']:=hm;rw[ho]at ho';cases ho';exact#[_,es',ep',hL,r']) hok hg
def Inv.turned{t':L}{it:Addr}(I:Inv X pins O H s)(k:∀b o,b≠it->s.heap.get? b=Y o->h'.get? b=Y o)(hn:H it=B)(hL:it≠X.env.locals)(h1:it∈X.ex\/X.aet.heap.objs.size<=it)(h2:∀x c,X.env.cells.lookup x=Y c->c≠it)(h3:∀p∈X.pn++pins,p.1≠it):Inv X pins O H { s with heap:=h',toks:=t' }:=by
 have nit:∀b u,H b=Y u->b≠it:=λb u e z=>by lia
 refine I.step (g':=s.gens) (d':=s.drawn) (ch:=[it]) (λb hb=>?_) (λb o _ _ hc e _=>k b o (λz=>hc (by simp[z])) e) (λb o _ _ hc e _=>#[o.slots,k b o (λz=>hc (by simp[z])) e]) (λ_ _ _ _ n=>n)
  (λb o hc e=>#[o,k b o (λz=>hc (by simp[z])) e]) (λ_ _ e=>e) (λ_ _ _ e=>e) (λb ps e=>#[#[],by rw[e];simp]) (λm hm=>?_) (λb u e=>?_) I.bare
 ·have e:b=it:=by simpa using hb
  subst e;exact#[h1,hL,h2,h3]
 ·let#[o,es,ep,ho,r]:=hm;exact#[o,es,ep,k _ o (fj hL) ho,r]
 ·refine(I.hok b u e).stay (λc v hc q=>k c v ?_ q) (λ_ q=>q) (λ_ _ q=>q) λ_ _ _ q=>q;rcases hc with z|z
  ·rw[z];exact nit b u e
  ·exact nit c _ z
def Inv.tok(I:Inv X pins O H s)(t:L):Inv X pins O H { s with toks:=t }:=I.un (h':=s.heap) (t':=t) Un.refl I.hok
def Inv.kept{t':L}(I:Inv X pins O H s)(k:∀b u,s.heap.get? b=Y u->h'.get? b=Y u):Inv X pins O H { s with heap:=h',toks:=t' }:=I.un (Un.kept k) (I.hok.kept k)
def Inv.laid{t':L}(I:Inv X pins O H s)(k:∀b u,s.heap.get? b=Y u->h'.get? b=Y u)(hp:s.heap.objs.size<=a)(new:fq X.prog X.w (upd H a o) h' a o):Inv X pins O (upd H a o) { s with heap:=h',toks:=t' }:=I.un (Un.laid k hp (I.hok.fresh hp)) (I.hok.laid k hp new)
def Inv.write{t':L}(I:Inv X pins O H s)(mu:Oo (H x))(he:e=x\/H e=Y (.own x))(k:∀b u,b≠e->s.heap.get? b=Y u->h'.get? b=Y u)(heo:∃u,h'.get? e=Y u)(new:fq X.prog X.w (upd H x o) h' x o):Inv X pins O (upd H x o) { s with heap:=h',toks:=t' }:=I.un (Un.write mu he k heo) (I.hok.write mu he k heo new)
def Inv.AO(I:Inv X pins O H s)(h:∀p∈pins',s.heap.get? p.1=Y p.2/\H p.1=B/\p.1≠X.env.locals/\p.1∉X.fs/\∀v,p.2.data≠.cell v):Inv X pins' O H s:=
 #[I.ok,I.os,I.bare,I.base,I.loc,I.cell,I.free,I.freeC,λp hp=>(a6.mp hp).elim (λz=>I.pin p (aX _ z)) (h p),I.hok,I.len]
def HB{N:M Str}(hN:N.Nodup){i j:L}{x:Str}(a:N[i]?=Y x)(b:N[j]?=Y x):i=j:=by
 let#[h1,e1]:=cS.mp a;let#[h2,e2]:=cS.mp b;exact(List.getElem_inj hN).mp (e1.trans e2.symm)
def E5{aan:Model}{A:cR}{E:S->ak->Prop}{i:L}{x:Str}{v:V}{u:S}{Q:Unit->ak->Prop}(I:Inv X pins O H s)(hN:X.N.Nodup)(hi:X.N[i]?=Y x)(hx:Loc X.env.scope x)(r:RelV v u)(h:∀s',Inv X pins (O.set i (Y v)) H s'->(∃a,mG a s.heap s'.heap/\(a=X.env.locals\/X.env.cells.lookup x=Y a))->Q () s')(hf:X.fn x=J\/X.env.scope.names.lookup x=Y .local:=by first|exact .inl rfl|exact .inr rfl|assumption):aO aan A (Gw X.env x u) Q E s:=by
 let#[m,hn,hl]:=id I.loc;have hcls:(X.env.scope.kind==.class||(X.env.scope.kind==.module&&X.env.locals != X.env.globals))=W:=by rw[I.ok.kind];rfl
 have aeS:i<O.length:=by rw[I.len];exact(cS.mp hi).1
 have HA:=I.HA;have tracked:∀{a:Addr}{h':Heap},(∃o,s.heap.get? a=Y o/\H a=B)->mG a s.heap h'->gJ X.prog X.w H h':=λ{a h'} ha hs b ob e=>by
  let#[_,_,hfree]:=ha;refine(I.hok b ob e).stay (λc w' hc q=>(hs.2 c ?_).trans q) (λ_ q=>q) (λ_ _ q=>q) λ_ _ _ q=>q;rintro rfl;rcases hc with rfl|hc
  ·rw[hfree]at e;cases e
  ·rw[hfree]at hc;cases hc
 rcases hx with hk|hk
 ·refine wpAny_storeName_local hk hn (λh' hn' hs=>?_) hcls;let#[oL,_,_,hoL,_]:=id hn;refine h _ #[I.ok,I.os,I.bare,#[λb o e n hb hx=>?_,λb o e n hb hx=>?_,I.base.free,λb o e hx=>?_,I.base.tups,I.base.aF,I.base.tbls],#[_,hn',λj y v' e1 e2 e3=>?_],λy c e=>?_,I.free,I.freeC,λp hp=>?_,tracked #[oL,hoL,I.free] hs,by simpa using I.len] #[_,hs,.inl rfl]
  ·exact(hs.2 b (bR (cg (aV e) I.ok.above))).trans (I.base.keep b o e n hb hx)
  ·let#[sl,e1]:=I.base.slot b o e n hb hx;exact#[sl,(hs.2 b (bR (cg (aV e) I.ok.above))).trans e1]
  ·let#[o',e1]:=I.base.there b o e hx;exact#[o',(hs.2 b (bR (cg (aV e) I.ok.above))).trans e1]
  ·by_cases hj:j=i
   ·subst hj;rw[hi]at e1;cases e1;rw[bY aeS]at e2;cases e2;exact#[u,r,.inl #[hk,by simp]]
   ·rw[bG (fj hj)]at e2;let#[u',r',q]:=hl j y v' e1 e2 e3;refine#[u',r',?_];rcases q with⟨k,e⟩|⟨k,c,e,z⟩
    ·refine .inl #[k,?_];have:y≠x:=λe=>hj (HB hN e1 (e▸hi));simp[this,e]
    ·exact .inr #[k,c,e,z.sameBut hs (HA y c e)]
  ·let#[w',z]:=I.cell y c e;exact#[w',z.sameBut hs (HA y c e)]
  ·let#[e,n,ne,nf,d]:=I.pin p hp;exact#[(hs.2 p.1 ne).trans e,n,ne,nf,d]
 ·have hfn:X.fn x=J:=by
   rcases hf with z|z
   ·exact z
   ·rw[z]at hk;cases hk
  let#[c,hc]:=I.ok.has x (.inl hk);let#[w',z]:=I.cell x c hc;refine wpAny_storeName_cell I.ok.kind hk hc z (λh' hc' hs=>?_);let#[oc,hoc,hocd]:=id z;refine h { s with heap:=h' } #[I.ok,I.os,I.bare,#[λb o e n hb hx=>?_,λb o e n hb hx=>?_,I.base.free,λb o e hx=>?_,I.base.tups,I.base.aF,I.base.tbls],#[m,hn.sameBut hs (fj (HA x c hc)),λj y v' e1 e2 e3=>?_],λy c' e=>?_,I.free,I.freeC,λp hp=>?_,tracked #[oc,hoc,I.freeC x c hc] hs,by simpa using I.len] #[c,hs,.inr hc]
  ·exact(hs.2 b (bR (cg (aV e) (I.ok.cab x c hfn hc)))).trans (I.base.keep b o e n hb hx)
  ·let#[sl,e1]:=I.base.slot b o e n hb hx;exact#[sl,(hs.2 b (bR (cg (aV e) (I.ok.cab x c hfn hc)))).trans e1]
  ·let#[o',e1]:=I.base.there b o e hx;exact#[o',(hs.2 b (bR (cg (aV e) (I.ok.cab x c hfn hc)))).trans e1]
  ·by_cases hj:j=i
   ·subst hj;rw[hi]at e1;cases e1;rw[bY aeS]at e2;cases e2;exact#[u,r,.inr #[.inl hk,c,hc,hc']]
   ·rw[bG (fj hj)]at e2;let#[u',r',q]:=hl j y v' e1 e2 e3;refine#[u',r',?_];rcases q with q|⟨k,c',e,z'⟩
    ·exact .inl q
    ·refine .inr #[k,c',e,z'.sameBut hs ?_];rintro rfl;exact hj (HB hN e1 (I.ok.inj _ _ _ e hc▸hi))
  ·by_cases hcc:c'=c
   ·subst hcc;exact#[_,hc']
   ·let#[w2,z2]:=I.cell y c' e;exact#[w2,z2.sameBut hs hcc]
  ·let#[e,n,ne,nf,d]:=I.pin p hp;refine#[(hs.2 p.1 ?_).trans e,n,ne,nf,d];intro q;rw[q,hoc]at e;have q':=dh e;exact d w' (by rw[<-q'];exact hocd)
def HC{E:S->ak->Prop}{Q:Unit->ak->Prop}(I:Inv X pins O H s)(hN:X.N.Nodup)(hi:X.N[i]?=Y x)(hx:Loc X.env.scope x)(r:RelV v u)(h:∀s',Inv X pins (O.set i (Y v)) H s'->Q () s')(hf:X.fn x=J\/X.env.scope.names.lookup x=Y .local:=by first|exact .inl rfl|exact .inr rfl|assumption):aO aan A (Gw X.env x u) Q E s:=
 E5 I hN hi hx r (λs' I' _=>h s' I') hf
def Inv.call'(I:Inv X pins O H s)(ho:s'.os=s.os)(u:Un (frs X.stack) ch H H' s.heap s'.heap)(hok:gJ X.prog X.w H' s'.heap)(hg:m6 s'.gens)(hch:∀b∈ch,(b∈X.ex\/X.aet.heap.objs.size<=b)/\b≠X.env.locals/\(∀x c,X.env.cells.lookup x=Y c->c≠b)/\∀p∈X.pn++pins,p.1≠b):Inv X pins O H' s':=by
 let#[h',g',d',t',o']:=s';have e:=ho;subst e;exact I.call (g':=g') (t':=t') (d':=d') u hok hg hch
end
abbrev XK:=S->aaV Addr->Hp->Prop
abbrev St:=M (aaV V)
abbrev VK:=V->Hp->Prop
abbrev TE:=St->Hp->VK->Prop
abbrev TT:=St->Hp->(Bool->Hp->Prop)->Prop
abbrev TA:=St->Hp->(M V->Hp->Prop)->Prop
structure Ends where
 nx:St->Hp->Prop
 rt:VK
 bk:St->Hp->Prop:=λ_ _=>aR
 ct:St->Hp->Prop:=λ_ _=>aR
abbrev TS:=Ends->St->Hp->Prop
def EP(X:Cx)(pins:M (Addr×Obj))(O:St)(Q:VK)(u:S)(s':ak):Prop:=∃v H',Inv X pins O H' s'/\RelV v u/\Q v H'
def TP(X:Cx)(pins:M (Addr×Obj))(O:St)(Q:Bool->Hp->Prop)(b:Bool)(s':ak):Prop:=∃H',Inv X pins O H' s'/\Q b H'
def AP(X:Cx)(pins:M (Addr×Obj))(O:St)(Q:M V->Hp->Prop)(us:M S)(s':ak):Prop:=∃vs H',Inv X pins O H' s'/\bN vs us/\Q vs H'
def SP(X:Cx)(pins:M (Addr×Obj))(D:Ends)(f:Flow)(s':ak):Prop:=
 match f with
 |.next=>∃σ' H',Inv X pins σ' H' s'/\D.nx σ' H'
 |.brk=>∃σ' H',Inv X pins σ' H' s'/\D.bk σ' H'
 |.cont=>∃σ' H',Inv X pins σ' H' s'/\D.ct σ' H'
 |.ret u=>∃v σ' H',Inv X pins σ' H' s'/\RelV v u/\D.rt v H'
def PE(X:Cx)(e:Expr)(t:TE):Prop:=
 ∀(pins:M (Addr×Obj)) (s:ak) (O:St) (H:Hp) (Q:VK),Inv X pins O H s->t O H Q->aO (a7 X.prog X.w) X.A (eval e X.env) (EP X pins O Q) X.xe s
def PT(X:Cx)(e:Expr)(t:TT):Prop:=
 ∀(pins:M (Addr×Obj)) (s:ak) (O:St) (H:Hp) (Q:Bool->Hp->Prop),Inv X pins O H s->t O H Q->aO (a7 X.prog X.w) X.A (Av e X.env (eval e X.env)) (TP X pins O Q) X.xe s
def PW(X:Cx)(e:Expr)(t:TT):Prop:=
 ∀(whole:Sem S) (pins:M (Addr×Obj)) (s:ak) (O:St) (H:Hp) (Q:Bool->Hp->Prop),Inv X pins O H s->t O H Q->aO (a7 X.prog X.w) X.A (Av e X.env whole) (TP X pins O Q) X.xe s
def PW.pt(h:PW X e t):PT X e t:=h _
def PA(X:Cx)(es:M Expr)(t:TA):Prop:=
 ∀(pos:Pos) (pins:M (Addr×Obj)) (s:ak) (O:St) (H:Hp) (Q:M V->Hp->Prop),Inv X pins O H s->t O H Q->aO (a7 X.prog X.w) X.A (A4 (qx pos (fB es X.env))) (AP X pins O Q) X.xe s
def PS(X:Cx)(st:Stmt)(t:TS):Prop:=
 ∀(pins:M (Addr×Obj)) (s:ak) (O:St) (H:Hp) (D:Ends),Inv X pins O H s->t D O H->aO (a7 X.prog X.w) X.A (exec st X.env) (SP X pins D) X.xe s
def vV(X:Cx)(st:M Stmt)(t:TS):Prop:=
 ∀(pins:M (Addr×Obj)) (s:ak) (O:St) (H:Hp) (D:Ends),Inv X pins O H s->t D O H->aO (a7 X.prog X.w) X.A (execs st X.env) (SP X pins D) X.xe s
def a_{α:Type}{t:Sem α}{Q Q':α->ak->Prop}{E:S->ak->Prop}(h:aO aan A t Q E s)(hQ:∀a s,Q a s->Q' a s):aO aan A t Q' E s:=sX h hQ λ_ _ x=>x
end L2
namespace L2
open PySem PySem.Spec PyProof.Rows
section
variable{X:Cx}
def bin{a b:Expr}(ha:PE X a ta)(hb:PE X b tb){R:V->V->Hp->Prop}(I:Inv X pins O H s)(h:ta O H λx H1=>tb O H1 λy H2=>R x y H2){α:Type}{Q:α->ak->Prop}{f:S->S->Sem α}(hf:∀v u s2 x y H2,Inv X pins O H2 s2->RelV x v->RelV y u->R x y H2->aO (a7 X.prog X.w) X.A (f v u) Q X.xe s2):aO (a7 X.prog X.w) X.A (eval a X.env) (λv aev=>aO (a7 X.prog X.w) X.A (eval b X.env) (λu aex=>aO (a7 X.prog X.w) X.A (f v u) Q X.xe aex) X.xe aev) X.xe s:=by
 refine a_ (ha pins s O H _ I h) λv s1 ⟨x,H1,I1,r1,q1⟩=>?_;refine a_ (hb pins s1 O H1 _ I1 q1) λu s2 ⟨y,H2,I2,r2,q2⟩=>?_;exact hf v u s2 x y H2 I2 r1 r2 q2
def tVar(i:L):TE:=λO H Q=>∃v,O[i]?=Y (Y v)/\Q v H
def tC(v:V):TE:=λ_ H Q=>Q v H
def Zm(hN:X.N[i]?=Y x)(hv:Ot X.env.scope x)(hd:(x==("__debug__":Str))=W:=by decide)(hcd:(x==("__classdict__":Str))=W:=by decide):PE X (.Name x pos) (tVar i):=by
 intro pins s O H Q I h;let#[v,e,h]:=h;let#[m,hn,hl]:=I.loc;let#[u,r,l]:=hl i x v hN e hv;have fin:EP X pins O Q u s:=#[v,H,I,r,h];rcases l with⟨hk,hm⟩|⟨hk,c,hc,hcell⟩
 ·exact D3 (xZ I.ok.kind hk hn hm fin) hd
 ·rcases hk with hk|hk
  ·exact D3 (yJ I.ok.kind hk hc hcell fin) hd
  ·exact D3 (wpAny_loadName_free I.ok.kind hk hc hcell fin hcd) hd
def Ou{i j pos}:PE X (.Constant (.int i) j pos) (tC (.int i)):=λ_ _ _ H _ I h=>wpAny_Constant_int #[.int i,H,I.tok _,#[_,rfl],h]
def abl{b j pos}:PE X (.Constant (.bool b) j pos) (tC (.bl b)):=λ_ _ _ H _ I h=>Constant_bool #[.bl b,H,I,rfl,h]
def Zn{j pos}:PE X (.Constant .none j pos) (tC .non):=λ_ _ _ H _ I h=>Constant_none #[.non,H,I,rfl,h]
def Zo{x j pos}:PE X (.Constant (.str x) j pos) (tC (.str x)):=λ_ _ _ H _ I h=>Calls.Constant_str #[.str x,H,I.tok _,#[_,rfl],h]
def Gl(X:Cx)(x:Str):Prop:=X.env.kindOf x=Y .globalImplicit
def Ej{E:S->ak->Prop}{Q:S->ak->Prop}(I:Inv X pins O H s)(hg:Gl X x)(hm:X.mg x=Y u)(h:Q u s)(hd:(x==("__debug__":Str))=W:=by decide):aO (a7 X.prog X.w) X.A (eval (.Name x pos) X.env) Q E s:=
 rY I.ok.kind hg (Calls.loadGlobal_global (by rw[I.ok.glob];exact I.mod.glob.keeps I.bk) hm h) hd
def l7{E:S->ak->Prop}{Q:S->ak->Prop}(I:Inv X pins O H s)(hg:Gl X x)(hm:X.mg x=B)(hv:qt x=Y u)(h:Q u s)(hn:x≠"__name__":=by decide)(hd:(x==("__debug__":Str))=W:=by decide):aO (a7 X.prog X.w) X.A (eval (.Name x pos) X.env) Q E s:=by
 let#[mb,h1,h2]:=I.mod.blt;exact rY I.ok.kind hg (Calls.loadGlobal_builtin (by rw[I.ok.glob];exact I.mod.glob.keeps I.bk) hm (by rw[I.ok.blt];exact h1.keeps I.bk) ((h2 x hn).trans hv) h) hd
def Lc(hg:Gl X x)(hm:X.mg x=Y u)(r:RelV v u)(hd:(x==("__debug__":Str))=W:=by decide):PE X (.Name x pos) (tC v):=
 λ_ _ _ H _ I h=>Ej I hg hm #[v,H,I,r,h] hd
variable{a b:Expr}{ta tb:TE}{pos:Pos}
variable{tA tB':TT}{rest:M Expr}
def tAnd(t u:TT):TT:=λO H Q=>t O H λc H1=>if c=J then u O H1 Q else Q W H1
def tOr(t u:TT):TT:=λO H Q=>t O H λc H1=>if c=J then Q J H1 else u O H1 Q
def tNot(t:TT):TT:=λO H Q=>t O H λc H1=>Q (!c) H1
def pw_and1(ha:PT X a tA):PW X (.BoolOp .And [a] pos) tA:=by
 intro wh pins s O H Q I h;refine N5 (a_ (ha pins s O H Q I h) λc s1 e=>?_);cases c with
 |true=>exact isTrue_and_nil e
 |false=>exact e
def pw_or1(ha:PT X a tA):PW X (.BoolOp .Or [a] pos) tA:=by
 intro wh pins s O H Q I h;refine isTrue_or (a_ (ha pins s O H Q I h) λc s1 e=>?_);cases c with
 |false=>exact isTrue_or_nil e
 |true=>exact e
def pw_and(ha:PT X a tA)(hb:PW X (.BoolOp .And (b::rest) pos) tB'):PW X (.BoolOp .And (a::b::rest) pos) (tAnd tA tB'):=by
 intro wh pins s O H Q I h;refine N5 (a_ (ha pins s O H _ I h) λc s1 ⟨H1,I1,q1⟩=>?_);cases c with
 |true=>exact hb wh pins s1 O H1 Q I1 q1
 |false=>exact#[H1,I1,q1]
def pw_or(ha:PT X a tA)(hb:PW X (.BoolOp .Or (b::rest) pos) tB'):PW X (.BoolOp .Or (a::b::rest) pos) (tOr tA tB'):=by
 intro wh pins s O H Q I h;refine isTrue_or (a_ (ha pins s O H _ I h) λc s1 ⟨H1,I1,q1⟩=>?_);cases c with
 |true=>exact#[H1,I1,q1]
 |false=>exact hb wh pins s1 O H1 Q I1 q1
def Zp(ha:PT X a tA):PT X (.UnaryOp .Not a pos) (tNot tA):=by
 intro pins s O H Q I h;exact isTrue_not (ha pins s O H (λc H1=>Q (!c) H1) I h)
def Ov{op}(h:PE X a t):PE X (.BoolOp op [a] pos) t:=λpins s O H Q I hw=>BoolOp_one (h pins s O H Q I hw)
def tIf(t:TT)(ta tb:TE):TE:=λO H Q=>t O H λc H1=>if c=J then ta O H1 Q else tb O H1 Q
def Sy{c:Expr}(hc:PT X c tA)(ha:PE X a ta)(hb:PE X b tb):PE X (.IfExp c a b pos) (tIf tA ta tb):=by
 intro pins s O H Q I h;refine wpAny_IfExp (a_ (hc pins s O H _ I h) λd s1 ⟨H1,I1,q1⟩=>?_);cases d with
 |true=>exact ha pins s1 O H1 Q I1 q1
 |false=>exact hb pins s1 O H1 Q I1 q1
end
end L2
namespace L2
open PySem PySem.Spec PyProof.Rows
def iC(K:aa)(H:Hp)(a:Addr)(xs:M V):Prop:=
 Rd H a (.lst xs) \/
  ∃(o:Obj) (its:Array S) (n:L),K.lookup a=Y o/\o.cls=.type "list"/\o.dict=B/\o.data=.seq its n/\its.size<=ah/\bN xs its.toList
def l8(K:aa)(H:Hp)(a:Addr)(xs:M V):Prop:=
 Rd H a (.tup xs) \/
  ∃(o:Obj) (its:Array S) (n:L),K.lookup a=Y o/\o.cls=.type "tuple"/\o.data=.seq its n/\its.size<=ah/\bN xs its.toList
noncomputable def absV:S->aaV V
|.none=>Y .non
|.bool b=>Y (.bl b)
|.int i _=>Y (.int i)
|.str x _=>Y (.str x)
|.bytes b _=>Y (.byt b)
|.float b _=>Y (.flt b)
|.ref a=>Y (.ref a)
|.type n=>Y (.ty n)
|_=>B
def RelV.abs(r:RelV x u):absV u=Y x:=by
 cases x with
 |non=>cases r;rfl
 |bl _=>cases r;rfl
 |int _=>let#[t,rfl]:=r;rfl
 |str _=>let#[t,rfl]:=r;rfl
 |byt _=>let#[t,rfl]:=r;rfl
 |flt _=>let#[t,rfl]:=r;rfl
 |ref _=>cases r;rfl
 |ty _=>cases r;rfl
def RelV.inj(r:RelV x u)(q:RelV y u):x=y:=dh (r.abs.symm.trans q.abs)
theorem bN.inj:∀{xs ys:M V}{us:M S},bN xs us->bN ys us->xs=ys
|_,_,_,.nil,.nil=>rfl
|_,_,_,.cons r t,.cons r' t'=>by rw[r.inj r',bN.inj t t']
section
variable{X:Cx}{pins:M (Addr×Obj)}{O:St}{H:Hp}{s:ak}{a:Addr}{xs ys:M V}
def Inv.list(I:Inv X pins O H s)(h:iC X.K H a xs):∃its:M S,bN xs its/\PlainL s.heap a its.toArray/\xs.length<=ah:=by
 rcases h with h|⟨o,its,n,hk,hc,hd,hs,hz,r⟩
 ·let#[z,its,n,r,e]:=h.ok I.hok;exact#[its,r,#[_,n,e,rfl,rfl,rfl],z]
 ·refine#[its.toList,r,#[o,n,I.jN a o hk,hc,hd,by simpa using hs],?_];have e:=r.length;simp only[yK]at e
  lia
def Inv.tuple(I:Inv X pins O H s)(h:l8 X.K H a xs):∃its:M S,bN xs its/\IsTup s.heap a its.toArray/\xs.length<=ah:=by
 rcases h with h|⟨o,its,n,hk,hc,hs,hz,r⟩
 ·let#[z,its,r,p]:=h.ok I.hok;exact#[its,r,p,z]
 ·refine#[its.toList,r,#[o,I.jN a o hk,hc,n,by simpa using hs],?_];have e:=r.length;simp only[yK]at e
  lia
def Inv.tR(I:Inv X pins O H s)(h:iC X.K H a xs)(h':iC X.K H a ys):xs=ys:=by
 let#[its,r,#[o,n,e,_,_,d],_]:=I.list h;let#[its',r',#[o',n',e',_,_,d'],_]:=I.list h';rw[e]at e';cases e';rw[d]at d';injection d' with d1 _;have:its=its':=by simp_all
 subst this;exact r.inj r'
def Inv.uO(I:Inv X pins O H s)(h:l8 X.K H a xs)(h':l8 X.K H a ys):xs=ys:=by
 let#[its,r,#[o,e,_,n,d],_]:=I.tuple h;let#[its',r',#[o',e',_,n',d'],_]:=I.tuple h';rw[e]at e';cases e';rw[d]at d';injection d' with d1 _;have:its=its':=by simp_all
 subst this;exact r.inj r'
end
noncomputable abbrev Cx.o6(X:Cx)(E:S->ak->Prop):Cx:={ X with xe:=E }
def Cx.Ok.o6{X:Cx}(ok:X.Ok)(E:S->ak->Prop):(X.o6 E).Ok:=
 #[ok.mod,ok.kind,ok.glob,ok.blt,ok.above,ok.inj,ok.has,ok.cab,ok.hd,ok.frames,ok.stk,ok.exf,ok.bs,ok.bsz,ok.noex,ok.exfs,ok.rQ,ok.frf]
def Cx.Ok.rD{X:Cx}{E:S->ak->Prop}(ok:(X.o6 E).Ok):X.Ok:=
 #[ok.mod,ok.kind,ok.glob,ok.blt,ok.above,ok.inj,ok.has,ok.cab,ok.hd,ok.frames,ok.stk,ok.exf,ok.bs,ok.bsz,ok.noex,ok.exfs,ok.rQ,ok.frf]
section
variable{X:Cx}{pins:M (Addr×Obj)}{O:St}{H:Hp}{s:ak}{E:S->ak->Prop}
def Inv.o6(I:Inv X pins O H s)(E:S->ak->Prop):Inv (X.o6 E) pins O H s:=#[I.ok.o6 E,I.os,I.bare,I.base,I.loc,I.cell,I.free,I.freeC,I.pin,I.hok,I.len]
def Inv.rD(I:Inv (X.o6 E) pins O H s):Inv X pins O H s:=#[I.ok.rD,I.os,I.bare,I.base,I.loc,I.cell,I.free,I.freeC,I.pin,I.hok,I.len]
def SP.rD(h:SP (X.o6 E) pins D f s'):SP X pins D f s':=by
 cases f with
 |next=>let#[σ',H',I,q]:=h;exact#[σ',H',I.rD,q]
 |brk=>let#[σ',H',I,q]:=h;exact#[σ',H',I.rD,q]
 |cont=>let#[σ',H',I,q]:=h;exact#[σ',H',I.rD,q]
 |ret u=>let#[v,σ',H',I,r,q]:=h;exact#[v,σ',H',I.rD,r,q]
end
section
variable{X:Cx}{st:Stmt}{rest:M Stmt}{t u:TS}{e:Expr}{te:TE}{pos:Pos}
def abm:TS:=λD O H=>D.nx O H
def tSeq(t u:TS):TS:=λD O H=>t { D with nx:=u D } O H
def Xr:vV X [] abm:=λ_ _ O H _ I h=>vj #[O,H,I,h]
def w9(h1:PS X st t)(h2:vV X rest u):vV X (st::rest) (tSeq t u):=by
 intro pins s O H D I h;refine wpAny_execs_cons (a_ (h1 pins s O H { D with nx:=u D } I h) λf s1 q=>?_);cases f with
 |next=>
  let#[σ',H',I',q]:=q;exact h2 pins s1 σ' H' D I' q
 |ret v=>exact q
 |brk=>exact q
 |cont=>exact q
def Zq:TS:=λD O H=>D.bk O H
def abn:TS:=λD O H=>D.ct O H
def Sz:PS X (.Break pos) Zq:=λ_ _ O H _ I h=>wpAny_Break #[O,H,I,h]
def Kr:PS X (.Continue pos) abn:=λ_ _ O H _ I h=>wpAny_Continue #[O,H,I,h]
def Inv.quiet(I:Inv X pins O H s):KW X.env=W:=by simp[KW,I.ok.kind]
def abo(te:TE):TS:=λD O H=>te O H λ_ H1=>D.nx O H1
def Xs(he:PE X e te)(hs:rM e B pos.line X.env=pure W:=by rfl):PS X (.Expr e pos) (abo te):=by
 intro pins s O H D I h;exact wpAny_Expr_any (a_ (he pins s O H _ I h) λv s1 qq=>by let#[x,H1,I1,r1,q1]:=qq;exact#[O,H1,I1,q1]) I.quiet hs
def tRet(te:TE):TS:=λD O H=>te O H D.rt
def Ow(he:PE X e te):PS X (.Return (Y e) pos) (tRet te):=by
 intro pins s O H D I h;exact wpAny_Return_some (a_ (he pins s O H _ I h) λv s1 qq=>by let#[x,H1,I1,r1,q1]:=qq;exact#[x,O,H1,I1,r1,q1])
def tIfS(c:TT)(t u:TS):TS:=λD O H=>c O H λb H1=>if b=J then t D O H1 else u D O H1
def abp{c:Expr}(hc:PT X c tc)(ha:vV X a t)(hb:vV X b u):PS X (.If c a b pos) (tIfS tc t u):=by
 intro pins s O H D I h;refine wpAny_If (a_ (hc pins s O H _ I h) λd s1 ⟨H1,I1,q1⟩=>?_);cases d with
 |true=>exact ha pins s1 O H1 D I1 q1
 |false=>exact hb pins s1 O H1 D I1 q1
def Zr:TS:=λ_ _ _=>aR
def SA:PS X st Zr:=λ_ _ _ _ _ _ h=>h.elim
end
abbrev TG:=V->St->Hp->(St->Hp->Prop)->Prop
abbrev HD:=M V->St->Hp->(St->Hp->Prop)->Prop
def PG(X:Cx)(target:Expr)(t:TG):Prop:=
 ∀(pins:M (Addr×Obj)) (s:ak) (O:St) (H:Hp) (v:V) (u:S) (Q:St->Hp->Prop),Inv X pins O H s->RelV v u->t v O H Q->
  aO (a7 X.prog X.w) X.A (Aw target X.env u) (λ_ s'=>∃σ' H',Inv X pins σ' H' s'/\Q σ' H') X.xe s
def C9(X:Cx)(ts:M Expr)(t:HD):Prop:=
 ∀(pins:M (Addr×Obj)) (s:ak) (O:St) (H:Hp) (vs:M V) (us:M S) (Q:St->Hp->Prop),Inv X pins O H s->bN vs us->t vs O H Q->
  aO (a7 X.prog X.w) X.A (assignInOrder ((jt ts X.env).map (·.2)) us) (λ_ s'=>∃σ' H',Inv X pins σ' H' s'/\Q σ' H') X.xe s
abbrev Zs:=V->V->V->Hp->(Hp->Prop)->Prop
def SD(X:Cx)(t:Zs):Prop:=
 ∀(pins:M (Addr×Obj)) (s:ak) (O:St) (H:Hp) (o i v:V) (ov iv u:S) (Q:Hp->Prop),Inv X pins O H s->RelV o ov->RelV i iv->RelV v u->t o i v H Q->
  aO (a7 X.prog X.w) X.A (Mn ov iv u) (λ_ s'=>∃H',Inv X pins O H' s'/\Q H') X.xe s
abbrev Zt:=V->V->Hp->VK->Prop
def PIp(X:Cx)(op:x_)(t:Zt):Prop:=
 ∀(pins:M (Addr×Obj)) (s:ak) (O:St) (H:Hp) (x y:V) (v u:S) (Q:VK),Inv X pins O H s->RelV x v->RelV y u->t x y H Q->
  aO (a7 X.prog X.w) X.A (Ax op v u) (EP X pins O Q) X.xe s
section
variable{X:Cx}{pos:Pos}
def abq(i:L):TG:=λv O H Q=>Q (O.set i (Y v)) H
def Ld(hN:X.N.Nodup)(hi:X.N[i]?=Y x)(hx:Loc X.env.scope x)(hf:X.fn x=J\/X.env.scope.names.lookup x=Y .local:=by first|exact .inl rfl|exact .inr rfl|assumption):PG X (.Name x pos) (abq i):=by
 intro pins s O H v u Q I r h;exact Bb (HC I hN hi hx r (λs' I'=>#[_,H,I',h]) hf)
def gNil:HD:=λvs O H Q=>vs=[]/\Q O H
def abr(t:TG)(u:HD):HD:=λvs O H Q=>∃v r,vs=v::r/\t v O H fun σ' H'=>u r σ' H' Q
def Xu:C9 X [] gNil:=by
 intro pins s O H vs us Q I r h;let#[e,h]:=h;subst e;cases r;exact assignInOrder_nil #[O,H,I,h]
def SE{e:Expr}(h1:PG X e t)(h2:C9 X es u)(hs:(jt (e::es) X.env).map (·.2)=Aw e X.env::(jt es X.env).map (·.2):=by rfl):C9 X (e::es) (abr t u):=by
 intro pins s O H vs us Q I r h;let#[v,vr,e1,h]:=h;subst e1;cases r with
 |cons r rr=>
  rw[hs];refine assignInOrder_cons (a_ (h1 pins s O H _ _ _ I r h) λ_ s1 ⟨σ1,H1,I1,q1⟩=>?_);exact h2 pins s1 σ1 H1 _ _ Q I1 rr q1
def gTup(K:aa)(n:L)(t:HD):TG:=λv O H Q=>∃a xs,v=.ref a/\l8 K H a xs/\xs.length=n/\t xs O H Q
def Zu(hc:X.calm=J)(h:C9 X es t)(hn:(jt es X.env).length=n:=by rfl)(hst:(jt es X.env).findIdx? (·.1)=B:=by rfl):PG X (.Tuple es k pos) (gTup X.K n t):=by
 intro pins s O H v u Q I r hw;let#[a,xs,e1,hq,hl,hw]:=hw;subst e1;cases r;let#[its,rv,ht,hz]:=I.tuple hq;refine assign_Tuple_tuple (I.ok.hd hc) ht (by simp[hn,<-hl,rv.length]) hst λh' hx=>?_;have I1:=I.kept (t':=s.toks) λb o e=>hx b o (bR (aV e)) e;exact h pins _ O H xs _ Q I1 (by simpa using rv) hw
def gSub(to ti:TE)(t:Zs):TG:=λv O H Q=>to O H λo H1=>ti O H1 λi H2=>t o i v H2 λH3=>Q O H3
def Zv{o i:Expr}(ho:PE X o to)(hi:PE X i ti)(hs:SD X t)(ha:∀v,Aw (.Subscript o i pos) X.env v=(do
   let ov <-wK [v] (eval o X.env)
   let iv <-wK [v,ov] (eval i X.env)
   EX pos
   wK [v,ov,iv] (Mn ov iv v)
   release [v,ov,iv] []):=by intro _;rfl):PG X (.Subscript o i pos) (gSub to ti t):=by
 intro pins s O H v u Q I r h;rw[ha];refine aA (ou (a_ (ho pins s O H _ I h) λov s1 ⟨x,H1,I1,r1,q1⟩=>?_));refine aA (ou (a_ (hi pins s1 O H1 _ I1 q1) λiv s2 ⟨y,H2,I2,r2,q2⟩=>?_));refine aA (yD (aA (ou (a_ (hs pins s2 O H2 x y v ov iv u _ I2 r1 r2 r q2) λ_ s3 ⟨H3,I3,q3⟩=>?_))));exact wpAny_release #[O,H3,I3,q3]
def tAsg(te:TE)(g:TG):TS:=λD O H=>te O H λx H1=>g x O H1 D.nx
def HE{tg e:Expr}(he:PE X e te)(hg:PG X tg g)(hs:yE [tg] e pos.line X.env=pure W:=by rfl)(hw:GQ [tg] e X.env=pure B:=by rfl)(h1:(jt [tg] X.env).map (·.2)=[Aw tg X.env]:=by rfl):PS X (.Assign [tg] e pos) (tAsg te g):=by
 intro pins s O H D I h;refine wpAny_Assign_stores (a_ (he pins s O H _ I h) λv s1 ⟨x,H1,I1,r1,q1⟩=>?_) hs hw;rw[h1];exact a_ (hg pins s1 O H1 x v _ I1 r1 q1) λ_ s2 q=>q
def Zw(i:L)(te:TE)(ti:Zt):TS:=λD O H=>∃x,O[i]?=Y (Y x)/\te O H λy H1=>ti x y H1 λz H2=>D.nx (O.set i (Y z)) H2
def Zx{i:L}(hN:X.N.Nodup)(hi:X.N[i]?=Y x)(hx:Loc X.env.scope x)(he:PE X e te)(ho:PIp X op ti)(hf:X.fn x=J\/X.env.scope.names.lookup x=Y .local:=by first|exact .inl rfl|exact .inr rfl|assumption):PS X (.AugAssign (.Name x pos') op e pos) (Zw i te ti):=by
 intro pins s O H D I h;let#[v,e1,h]:=h;let#[m,hn,hl]:=I.loc;have vis:Ot X.env.scope x:=by rcases hx with k|k;exact .inl k;exact .inr (.inl k)
 let#[u,r,l]:=hl i x v hi e1 vis;refine wpAny_AugAssign_Name ?_;have go:aO (a7 X.prog X.w) X.A (eval e X.env) (λw aex=>aO (a7 X.prog X.w) X.A (Ax op u w) (λr aeD=>aO (a7 X.prog X.w) X.A (Gw X.env x r) (λ_=>SP X pins D .next) X.xe aeD) X.xe aex) X.xe s:=by
  refine a_ (he pins s O H _ I h) λw s1 ⟨y,H1,I1,r1,q1⟩=>?_;refine a_ (ho pins s1 O H1 v y u w _ I1 r r1 q1) λz s2 ⟨zv,H2,I2,r2,q2⟩=>?_;exact HC I2 hN hi hx r2 (λs3 I3=>#[_,H2,I3,q2]) hf
 rcases l with⟨hk,hm⟩|⟨hk,c,hc,hcell⟩
 ·exact xZ I.ok.kind hk hn hm go
 ·rcases hk with hk|hk
  ·exact yJ I.ok.kind hk hc hcell go
  ·rcases hx with k|k
   ·have:X.env.scope.names.lookup x=Y .free:=hk;rw[k]at this;cases this
   ·have:X.env.scope.names.lookup x=Y .free:=hk;rw[k]at this;cases this
noncomputable def ipI(f:Int->Int->Int):Zt:=λx y H Q=>∃i j,x=.int i/\y=.int j/\Q (.int (f i j)) H
def Zy:PIp X .Add (ipI λi j=>i+j):=by
 intro pins s O H x y v u Q I r1 r2 h;let#[i,j,e1,e2,q]:=h;subst e1;subst e2;let#[t,rfl]:=r1;let#[t',rfl]:=r2;exact iadd_int #[.int _,H,I.tok _,#[_,rfl],q]
end
section
variable{X:Cx}{pos:Pos}
def Zz(c:TT)(tb:TS):TS:=λD O H=>∃aaC:L->St->Hp->Prop,(∃m,aaC m O H)/\∀m O H,aaC m O H->
 c O H λb H1=>if b=J then ∃N:St->Hp->Prop,(∀σ' H',N σ' H'->∃m',m'<m/\aaC m' σ' H')/\tb { D with nx:=N,ct:=N,bk:=D.nx } O H1 else D.nx O H1
def SG{c:Expr}(hp:vm (a7 X.prog X.w) X.A X.env X.xe)(hc:PT X c tc)(hb:vV X body tb):PS X (.While c body [] pos) (Zz tc tb):=by
 intro pins s O H D I h;let#[aaC,#[m0,w0],turn]:=h;refine wpAny_While (codeAny_whileLoop (λn s'=>∃σ' H',Inv X pins σ' H' s'/\aaC n σ' H') ?_ m0 #[O,H,I,w0]);rintro n s1 ⟨σ1,H1,I1,w1⟩;refine iS hp (a_ (hc pins s1 σ1 H1 _ I1 (turn n σ1 H1 w1)) λb s2 ⟨H2,I2,q2⟩=>?_);cases b with
 |true=>
  let#[N,hN,q2]:=q2;rw[aB rfl];refine iS hp (a_ (hb pins s2 σ1 H2 _ I2 q2) λf s3 q3=>?_);cases f with
  |next=>
   let#[σ3,H3,I3,n3]:=q3;let#[m',hm,w3]:=hN σ3 H3 n3;exact#[m',hm,σ3,H3,I3,w3]
  |cont=>
   let#[σ3,H3,I3,n3]:=q3;let#[m',hm,w3]:=hN σ3 H3 n3;exact#[m',hm,σ3,H3,I3,w3]
  |brk=>exact q3
  |ret v=>exact q3
 |false=>
  rw[aD bq];exact vj #[σ1,H2,I2,q2]
end
structure It where
 go:L->Hp->Prop
 yld:L->Hp->V->Hp->Prop
 stop:L->Hp->Prop
def oz(X:Cx)(pins:M (Addr×Obj))(H:Hp)(b:Addr):Prop:=
 H b=B/\b≠X.env.locals/\b∉X.fs/\(b∈X.ex\/X.aet.heap.objs.size<=b)/\(∀x c,X.env.cells.lookup x=Y c->c≠b)/\∀p∈X.pn++pins,p.1≠b
def Inv.w_(I:Inv X pins O H s)(hb:s.heap.objs.size<=b)(hn:H' b=B):oz X pins H' b:=by
 refine#[hn,kU (cg I.lt hb),I.nofs hb,.inr (fJ I.sz hb),λx c e z=>?_,λp hp z=>?_]
 ·let#[v,q]:=I.cell x c e;exact aG (cg q.lt (by rw[z];exact hb)) (eN _)
 ·exact aG (cg (aV (I.pin p hp).1) (by rw[z];exact hb)) (eN _)
structure Turn (P:bM) (w:bL) (K:aa) (tg:Expr) (aat:It) (fp:M Addr) (it:Addr) (tn:L->Heap->Prop):Prop where
 mem:it∈fp
 obj:∀i h,tn i h->∀b∈fp,∃o,h.get? b=Y o/\∀v,o.data≠.cell v
 keep:∀i h h',tn i h->(∀b∈fp,∀o,h.get? b=Y o->h'.get? b=Y o)->tn i h'
 item:∀(X:Cx),X.prog=P->X.w=w->X.K=K->X.calm=J->∀(i:L) (pins:M (Addr×Obj)) (s:ak) (O:St) (H:Hp) (E:S->ak->Prop),Inv X pins O H s->(∀b∈fp,oz X pins H b)->tn i s.heap->aat.go i H->
  aO (a7 P w) X.A (mH (.ref it)) (λr s1=>∃u,r=Y u /\
   aO (a7 P w) X.A (qy tg (.ref it) u) (λ_ s2=>∃x H',Inv X pins O H' s2/\RelV x u/\aat.yld i H x H'/\tn (i+1) s2.heap/\∀b∈fp,H' b=B) E s1) E s
 done:∀(X:Cx),X.prog=P->X.w=w->X.K=K->X.calm=J->∀(i:L) (pins:M (Addr×Obj)) (s:ak) (O:St) (H:Hp) (E:S->ak->Prop),Inv X pins O H s->(∀b∈fp,oz X pins H b)->tn i s.heap->aat.stop i H->
  aO (a7 P w) X.A (mH (.ref it)) (λr s1=>r=B/\Inv X pins O H s1) E s
 self:∀(A:cR) (i:L) (s:ak) (Q:S->ak->Prop) (E:S->ak->Prop),tn i s.heap->Q (.ref it) s->aO (a7 P w) A (uw (.ref it)) Q E s
abbrev TI:=St->Hp->(It->Hp->Prop)->Prop
def PIE(X:Cx)(pins:M (Addr×Obj))(O:St)(tg:Expr)(R:It->Hp->Prop)(itv:S)(s2:ak):Prop:=
 ∃(it:Addr) (fp:M Addr) (tn:L->Heap->Prop) (aat:It) (H':Hp),itv=.ref it/\Inv X pins O H' s2/\Turn X.prog X.w X.K tg aat fp it tn/\tn 0 s2.heap/\(∀b∈fp,oz X pins H' b)/\R aat H'
def PI(X:Cx)(tg iter:Expr)(wi:TI):Prop:=
 ∀(pins:M (Addr×Obj)) (s:ak) (O:St) (H:Hp) (R:It->Hp->Prop),Inv X pins O H s->wi O H R->
  aO (a7 X.prog X.w) X.A (eval iter X.env) (λv s1=>aO (a7 X.prog X.w) X.A (uw v) (PIE X pins O tg R) X.xe s1) X.xe s
def G9{E:S->ak->Prop}{Q:Unit->ak->Prop}(ho:s.heap.get? it=Y o)(hc:o.cls=.type n)(hd:o.data=.fields vs)(hn:["enumerate","zip","dict_itemiterator","dict_reverseitemiterator","odict_iterator","itertools.zip_longest","itertools.pairwise"].contains n=W)(hQ:Q () s):aO aan A (qy tg (.ref it) u) Q E s:=by
 cases tg<;>first
  |exact bO hQ
  |(cases u<;>first
    |exact bO hQ
    |(refine aA (wpAny_load ho ?_)
      rw[hc,hd];show aO aan A (if(["enumerate","zip","dict_itemiterator","dict_reverseitemiterator","odict_iterator","itertools.zip_longest","itertools.pairwise"].contains n&&vs[0]?==Y (D4 _))=J then _ else _) Q E s;rw[aD (by lia)];exact bO hQ))
noncomputable def Itl(K:aa)(a:Addr):It:=
 #[λi H=>∃xs x,iC K H a xs/\xs[i]?=Y x,λi H x H'=>H'=H/\∀xs,iC K H a xs->xs[i]?=Y x,λi H=>∃xs,iC K H a xs/\xs.length<=i]
noncomputable def Itt(K:aa)(a:Addr):It:=
 #[λi H=>∃xs x,l8 K H a xs/\xs[i]?=Y x,λi H x H'=>H'=H/\∀xs,l8 K H a xs->xs[i]?=Y x,λi H=>∃xs,l8 K H a xs/\xs.length<=i]
noncomputable def Wg(lo:Int)(n:L):It:=#[λi _=>i<n,λi H x H'=>H'=H/\x=.int (lo+i),λi _=>n<=i]
def Ox{w:bL}{K:aa}{tg:Expr}(a it:Addr):Turn P w K tg (Itl K a) [it] it (λi h=>h.IsListIter it a i) where
 mem:=by simp
 obj:=λi h st b hb=>by
  have e:b=it:=by simpa using hb
  subst e;let#[o,e,c,d]:=st;exact#[o,e,λv z=>by rw[d]at z;cases z]
 keep:=λi h h' st k=>st.at λo e=>k it (by simp) o e
 item:=by
  intro X hP hw hK hc i pins s O H E I hf st hg;subst hP hw hK;let#[xs,x,hq,hx]:=hg;let#[its,rv,p,hz]:=I.list hq;let#[u,hu,ru]:=rv.get hx;let#[f0,f1,f2,f3,f4,f5]:=hf it (by simp);refine wpAny_pyNext_list_item st p.isList (x:=u) (by simpa using hu) λh' st' sb=>?_;have I1:=I.turned (t':=s.toks) (λb o hb e=>(sb.2 b hb).trans e) f0 f1 f3 f4 f5;let#[o,e,c,d]:=id st';exact#[u,rfl,G9 (s:={ s with heap:=h' }) e c d (by decide) #[x,H,I1,ru,#[rfl,λys hy=>by rw[I.tR hy hq];exact hx],st',λb hb=>(hf b hb).1]]
 done:=by
  intro X hP hw hK hc i pins s O H E I hf st hg;subst hP hw hK;let#[xs,hq,hx]:=hg;let#[its,rv,p,hz]:=I.list hq;let#[f0,f1,f2,f3,f4,f5]:=hf it (by simp);have hl:=rv.length;exact wpAny_pyNext_list_end (I.ok.hd hc) st p.isList (by simp;lia) λh' eb=>#[rfl,I.turned (t':=s.toks) (λb o hb e=>eb b o hb e) f0 f1 f3 f4 f5]
 self:=λ_ _ _ _ _ st h=>wpAny_pyIter_listiter st h
def Mw{w:bL}{K:aa}{tg:Expr}(a it:Addr):Turn P w K tg (Itt K a) [it] it (λi h=>h.IsTupleIter it a i) where
 mem:=by simp
 obj:=λi h st b hb=>by
  have e:b=it:=by simpa using hb
  subst e;let#[o,e,c,d]:=st;exact#[o,e,λv z=>by rw[d]at z;cases z]
 keep:=λi h h' st k=>st.at λo e=>k it (by simp) o e
 item:=by
  intro X hP hw hK hc i pins s O H E I hf st hg;subst hP hw hK;let#[xs,x,hq,hx]:=hg;let#[its,rv,p,hz]:=I.tuple hq;let#[u,hu,ru]:=rv.get hx;let#[f0,f1,f2,f3,f4,f5]:=hf it (by simp);refine wpAny_pyNext_tuple_item st (show s.heap.IsTuple a its.toArray from p) (x:=u) (by simpa using hu) λh' st' sb=>?_;have I1:=I.turned (t':=s.toks) (λb o hb e=>(sb.2 b hb).trans e) f0 f1 f3 f4 f5;let#[o,e,c,d]:=id st';exact#[u,rfl,G9 (s:={ s with heap:=h' }) e c d (by decide) #[x,H,I1,ru,#[rfl,λys hy=>by rw[I.uO hy hq];exact hx],st',λb hb=>(hf b hb).1]]
 done:=by
  intro X hP hw hK hc i pins s O H E I hf st hg;subst hP hw hK;let#[xs,hq,hx]:=hg;let#[its,rv,p,hz]:=I.tuple hq;let#[f0,f1,f2,f3,f4,f5]:=hf it (by simp);have hl:=rv.length;exact wpAny_pyNext_tuple_end (I.ok.hd hc) st (show s.heap.IsTuple a its.toArray from p) (by simp;lia) λh' eb=>#[rfl,I.turned (t':=s.toks) (λb o hb e=>eb b o hb e) f0 f1 f3 f4 f5]
 self:=λ_ _ _ _ _ st h=>wpAny_pyIter_tupleiter st h
def Mx{w:bL}{K:aa}{tg:Expr}(it:Addr)(lo:Int)(n:L):Turn P w K tg (Wg lo n) [it] it (λi h=>IsRangeIter h it (lo+(i:L)*1) ((n:Int)-(i:L)) 1) where
 mem:=by simp
 obj:=λi h st b hb=>by
  have e:b=it:=by simpa using hb
  subst e;exact#[_,st,λv z=>by
   have z':=z;cases z']
 keep:=λi h h' st k=>k it (by simp) _ st
 item:=by
  intro X hP hw hK hc i pins s O H E I hf st hg;subst hP hw hK;let#[f0,f1,f2,f3,f4,f5]:=hf it (by simp);have aaC:=Walks.range (prog:=X.prog) (w:=X.w) (I.ok.hd hc) it lo 1 n;refine aaC.item i s _ _ hg st λv h' tk hv st' kk=>?_;let#[t,rfl]:=hv;have I1:Inv X pins O H { s with heap:=h',toks:=tk }:=I.turned (λb o hb e=>kk b o (by simpa using hb) e) f0 f1 f3 f4 f5;refine#[_,rfl,G9 (s:={ s with heap:=h',toks:=tk }) (n:="range_iterator") st' rfl rfl (by decide) #[.int (lo+i),H,I1,#[t,?_],#[rfl,rfl],st',λb hb=>(hf b hb).1]];rw[Int.mul_one]
 done:=by
  intro X hP hw hK hc i pins s O H E I hf st hg;subst hP hw hK;let#[f0,f1,f2,f3,f4,f5]:=hf it (by simp);exact wpAny_pyNext_range_end (I.ok.hd hc) st (by have:n<=i:=hg;lia) λh' eb=>#[rfl,I.turned (t':=s.toks) (λb o hb e=>eb b o hb e) f0 f1 f3 f4 f5]
 self:=λ_ _ _ _ _ st h=>wpAny_pyIter_rangeiter st h
end L2
namespace L2
open PySem PySem.Spec PyProof.Rows
section
variable{X:Cx}{tg:Expr}
def SH{R:It->Hp->Prop}{E:S->ak->Prop}{lo hi:Int}{t u v:Tok}{tk:L}(I:Inv X pins O H s)(h1:-(2 ^ 62)<=lo)(h2:lo<2 ^ 62)(h3:-(2 ^ 62)<=hi)(h4:hi<2 ^ 62)(q:R (Wg lo (hi-lo).toNat) H):aO (a7 X.prog X.w) X.A (uw (.ref s.heap.objs.size)) (PIE X pins O tg R) E { s with heap:=s.heap.push { cls:=.type "range",data:=.fields (List.toArray [.int lo t,.int hi u,.int 1 v]) },toks:=tk }:=by
 refine wpAny_pyIter_range (IsRange.new ..) (small_one h1 h2 h3 h4) ?_;have I1:Inv X pins O H { s with heap:=s.heap.push { cls:=.type "range",data:=.fields (List.toArray [.int lo t,.int hi u,.int 1 v]) },toks:=tk }:=I.kept λb o e=>aE _ e;refine#[(s.heap.push { cls:=.type "range",data:=.fields (List.toArray [.int lo t,.int hi u,.int 1 v]) }).objs.size,[(s.heap.push { cls:=.type "range",data:=.fields (List.toArray [.int lo t,.int hi u,.int 1 v]) }).objs.size],_,_,H,rfl,
  I1.kept (t':=tk) λb o e=>aE _ e,Mx _ lo (hi-lo).toNat,?_,λb hb=>?_,q]
 ·have e1:lo+((0:L):Int)*1=lo:=by simp
  have e2:(((hi-lo).toNat:L):Int)-((0:L):Int)=Ko lo hi 1:=by rw[rangeSize_one];split<;>lia
  rw[e1,e2];exact bD _ rfl
 ·have e:b=(s.heap.push { cls:=.type "range",data:=.fields (List.toArray [.int lo t,.int hi u,.int 1 v]) }).objs.size:=by simpa using hb
  subst e;exact I1.w_ (aW _) (I1.hok.fresh (aW _))
def tFor(wi:TI)(g:TG)(tb:TS):TS:=λD O H=>wi O H λaat H1=>∃aaC:L->L->St->Hp->Prop,(∃m,aaC 0 m O H1)/\∀i m O H,aaC i m O H->
 (aat.stop i H/\D.nx O H)\/(aat.go i H/\∃N:St->Hp->Prop,(∀σ' H',N σ' H'->∃m',m'<m/\aaC (i+1) m' σ' H')/\∀x H',aat.yld i H x H'->g x O H' fun σ2 H2=>tb { D with nx:=N,ct:=N,bk:=D.nx } σ2 H2)
noncomputable def yQ(fp:M Addr)(h:Heap):M (Addr×Obj):=fp.filterMap λb=>(h.get? b).map λo=>(b,o)
def sI(hb:b∈fp)(e:h.get? b=Y o):(b,o)∈yQ fp h:=Ay.mpr #[b,hb,by rw[e];rfl]
def Oz(hp:p∈yQ fp h):p.1∈fp/\h.get? p.1=Y p.2:=by
 let#[b,hb,e]:=Ay.mp hp;cases q:h.get? b with
 |none=>rw[q]at e;cases e
 |some o=>
  rw[q]at e;have e':=dh e;subst e';exact#[hb,q]
def Inv.pinned(I:Inv X pins O H s)(hf:∀b∈fp,oz X pins H b)(ho:∀b∈fp,∃o,s.heap.get? b=Y o/\∀v,o.data≠.cell v):Inv X (pins++yQ fp s.heap) O H s:=
 I.AO λp hp=>(a6.mp hp).elim (λz=>I.pin p (aK _ z)) λz=>by
  let#[hb,e]:=Oz z;let#[f0,f1,f2,_]:=hf p.1 hb;let#[o,e',d]:=ho p.1 hb;rw[e]at e';cases e';exact#[e,f0,f1,f2,d]
def Inv.xf(I:Inv X (pins++pl) O H s):Inv X pins O H s:=I.AO λp hp=>I.pin p (aK _ (aX _ hp))
def ZA(hp:vm (a7 X.prog X.w) X.A X.env X.xe)(hc:X.calm=J)(hi:PI X tg iter wi)(hg:PG X tg g)(hb:vV X body tb)(hs:∀x,kC iter X.env x=pure x:=by intro _;rfl):PS X (.For tg iter body [] pos) (tFor wi g tb):=by
 intro pins s O H D I h;refine wpAny_For (a_ (hi pins s O H _ I h) λv s1 h1=>a_ h1 λitv s2 h2=>?_) hs;let#[it,fp,tn,aat,H2,e,I2,T,st2,f2,aaC,#[m0,w0],turn]:=h2;subst e;have stat:∀{H':Hp},(∀b∈fp,H' b=B)->∀b∈fp,oz X pins H' b:=λhn b hb=>#[hn b hb,(f2 b hb).2];refine codeAny_forLoop_any (λn s'=>∃i σ' H',Inv X pins σ' H' s'/\tn i s'.heap/\(∀b∈fp,H' b=B)/\aaC i n σ' H') ?_ m0 #[0,O,H2,I2,st2,λb hb=>(f2 b hb).1,w0];rintro n s3 ⟨i,σ3,H3,I3,st3,fr3,w3⟩;rcases turn i n σ3 H3 w3 with⟨stop,qn⟩|⟨go,N,hN,step⟩
 ·refine iS hp (a_ (T.done X rfl rfl rfl hc i pins s3 σ3 H3 X.xe I3 (stat fr3) st3 stop) λr s4 ⟨hr,I4⟩=>?_);subst hr;exact vj #[σ3,H3,I4,qn]
 ·refine iS hp (a_ (T.item X rfl rfl rfl hc i pins s3 σ3 H3 X.xe I3 (stat fr3) st3 go) λr s4 ⟨u,hr,h4⟩=>?_);subst hr;refine iS hp (a_ h4 λ_ s5 ⟨x,H5,I5,r5,y5,st5,fr5⟩=>?_);have I5':=I5.pinned (stat fr5) (T.obj _ _ st5);refine iS hp (a_ (hg _ s5 σ3 H5 x u _ I5' r5 (step x H5 y5)) λ_ s6 ⟨σ6,H6,I6,q6⟩=>?_);refine iS hp (a_ (hb _ s6 σ6 H6 _ I6 q6) λf s7 q7=>?_);have again:∀{σ7:St}{H7:Hp},Inv X (pins++yQ fp s5.heap) σ7 H7 s7->N σ7 H7->∃m,m<n/\∃i σ' H',Inv X pins σ' H' s7/\tn i s7.heap/\(∀b∈fp,H' b=B)/\aaC i m σ' H':=λ{σ7 H7} I7 n7=>by
   let#[m',hm,w7]:=hN σ7 H7 n7;refine#[m',hm,i+1,σ7,H7,I7.xf,T.keep _ _ _ st5 λb hb o e=>(I7.pin (b,o) (aK _ (aK _ (sI hb e)))).1,λb hb=>?_,w7];let#[o,e,d]:=T.obj _ _ st5 b hb;exact(I7.pin (b,o) (aK _ (aK _ (sI hb e)))).2.1
  cases f with
  |next=>let#[σ7,H7,I7,n7]:=q7;exact again I7 n7
  |cont=>let#[σ7,H7,I7,n7]:=q7;exact again I7 n7
  |brk=>let#[σ7,H7,I7,q7]:=q7;exact#[σ7,H7,I7.xf,q7]
  |ret v=>let#[x7,σ7,H7,I7,r7,q7]:=q7;exact#[x7,σ7,H7,I7.xf,r7,q7]
end
end L2
namespace L2
open PySem PySem.Spec PyProof.Rows
abbrev R2:=V->V->Hp->VK->Prop
def jO(X:Cx)(f:S->S->Sem S)(r:R2):Prop:=
 ∀(pins:M (Addr×Obj)) (s:ak) (O:St) (H:Hp) (x y:V) (v u:S) (Q:VK),Inv X pins O H s->RelV x v->RelV y u->r x y H Q->
  aO (a7 X.prog X.w) X.A (f v u) (EP X pins O Q) X.xe s
def UnR(X:Cx)(f:S->Sem S)(r:V->Hp->VK->Prop):Prop:=
 ∀(pins:M (Addr×Obj)) (s:ak) (O:St) (H:Hp) (x:V) (v:S) (Q:VK),Inv X pins O H s->RelV x v->r x H Q->
  aO (a7 X.prog X.w) X.A (f v) (EP X pins O Q) X.xe s
def nY(X:Cx)(f:S)(r:M V->Hp->VK->Prop):Prop:=
 ∀(pins:M (Addr×Obj)) (s:ak) (O:St) (H:Hp) (xs:M V) (us:M S) (Q:VK),Inv X pins O H s->bN xs us->r xs H Q->
  aO (a7 X.prog X.w) X.A (call f us) (EP X pins O Q) X.xe s
def ZC(X:Cx)(r:V->Hp->(Bool->Hp->Prop)->Prop):Prop:=
 ∀(pins:M (Addr×Obj)) (s:ak) (O:St) (H:Hp) (x:V) (v:S) (Q:Bool->Hp->Prop),Inv X pins O H s->RelV x v->r x H Q->
  aO (a7 X.prog X.w) X.A (J3 v) (TP X pins O Q) X.xe s
def ZD(r:R2)(ta tb:TE):TE:=λO H Q=>ta O H λx H1=>tb O H1 λy H2=>r x y H2 Q
noncomputable def rI(C:Int->Int->Prop)(g:Int->Int->V):R2:=λx y H Q=>∃i j,x=.int i/\y=.int j/\C i j/\Q (g i j) H
noncomputable def E6(g:Int->Int->V):R2:=λx y H Q=>∃i j,x=.int i/\y=.int j/\Q (g i j) H
def rU(g:Int->V):V->Hp->VK->Prop:=λx H Q=>∃i,x=.int i/\Q (g i) H
section
variable{X:Cx}{a b c:Expr}{ta tb tc:TE}{pos:Pos}
def SI(ha:PE X a ta)(hb:PE X b tb){R:V->V->Hp->Prop}(I:Inv X pins O H s)(h:ta O H λx H1=>tb O H1 λy H2=>R x y H2){Q:S->ak->Prop}{f:S->S->Sem S}(hf:∀v u s2 x y H2,Inv X pins O H2 s2->RelV x v->RelV y u->R x y H2->aO (a7 X.prog X.w) X.A (f v u) Q X.xe s2):aO (a7 X.prog X.w) X.A (eval a X.env) (λv aev=>aO (a7 X.prog X.w) X.A (eval b X.env) (λu aex=>aO (a7 X.prog X.w) X.A (f v u) Q X.xe aex) X.xe aev) X.xe s:=by
 refine a_ (ha pins s O H _ I h) λv s1 ⟨x,H1,I1,r1,q1⟩=>?_;refine a_ (hb pins s1 O H1 _ I1 q1) λu s2 ⟨y,H2,I2,r2,q2⟩=>?_;exact hf v u s2 x y H2 I2 r1 r2 q2
def abt(ho:jO X (h_ op) r)(ha:PE X a ta)(hb:PE X b tb):PE X (.BinOp a op b pos) (ZD r ta tb):=by
 intro pins s O H Q I h;exact wpAny_BinOp (SI ha hb I h λv u s2 x y H2 I2 rx ry q=>ho pins s2 O H2 x y v u Q I2 rx ry q)
def HF(ho:jO X (Ax op) r)(I:Inv X pins O H s)(rx:RelV x v)(ry:RelV y u)(q:r x y H Q):aO (a7 X.prog X.w) X.A (Ax op v u) (EP X pins O Q) X.xe s:=ho pins s O H x y v u Q I rx ry q
def OA{f:S->S->Sem S}{C:Int->Int->Prop}{g:Int->Int->Int}(rule:∀(i j:Int) (t u:Tok) (s:ak) (Q:S->ak->Prop) (E:S->ak->Prop),C i j->Q (.int (g i j) s.toks) { s with toks:=s.toks+1 }->aO (a7 X.prog X.w) X.A (f (.int i t) (.int j u)) Q E s):jO X f (rI C λi j=>.int (g i j)):=by
 intro pins s O H x y v u Q I rx ry h;let#[i,j,rfl,rfl,hc,q]:=h;let#[t,rfl]:=rx;let#[t',rfl]:=ry;exact rule i j t t' s _ _ hc #[.int (g i j),H,I.tok _,#[_,rfl],q]
def ZE{f:S->S->Sem S}{g:Int->Int->Int}(rule:∀(i j:Int) (t u:Tok) (s:ak) (Q:S->ak->Prop) (E:S->ak->Prop),Q (.int (g i j) s.toks) { s with toks:=s.toks+1 }->aO (a7 X.prog X.w) X.A (f (.int i t) (.int j u)) Q E s):jO X f (E6 λi j=>.int (g i j)):=by
 intro pins s O H x y v u Q I rx ry h;let#[i,j,rfl,rfl,q]:=h;let#[t,rfl]:=rx;let#[t',rfl]:=ry;exact rule i j t t' s _ _ #[.int (g i j),H,I.tok _,#[_,rfl],q]
def My{f:S->S->Sem S}{g:Int->Int->Bool}(rule:∀(i j:Int) (t u:Tok) (s:ak) (Q:S->ak->Prop) (E:S->ak->Prop),Q (.bool (g i j)) s->aO (a7 X.prog X.w) X.A (f (.int i t) (.int j u)) Q E s):jO X f (E6 λi j=>.bl (g i j)):=by
 intro pins s O H x y v u Q I rx ry h;let#[i,j,rfl,rfl,q]:=h;let#[t,rfl]:=rx;let#[t',rfl]:=ry;exact rule i j t t' s _ _ #[.bl (g i j),H,I,rfl,q]
def xg(i j:Int):Prop:=0<j/\j<1073741824
def HH(i j:Int):Prop:=0<=j/\j<=1000000/\i.natAbs<2 ^ 64
def vB(i j:Int):Prop:=(-(2 ^ 64)<i/\i<2 ^ 64)\/(-(2 ^ 64)<j/\j<2 ^ 64)
def vB.ok(h:vB i j):IntMulOk i j:=by
 rcases h with⟨h1,h2⟩|⟨h1,h2⟩
 ·exact .of_left (GS h1 h2)
 ·exact .of_right (GS h1 h2)
def Mz(k:L):(0:Int)<=2 ^ k:=by
 rw[two_pow_cast];exact Int.natCast_nonneg _
def ZF:jO X (h_ .Add) (E6 λi j=>.int (i+j)):=ZE λ_ _ _ _ _ _ _ q=>add_int q
def ZG:jO X (h_ .Sub) (E6 λi j=>.int (i-j)):=ZE λ_ _ _ _ _ _ _ q=>sub_int q
def ZH:jO X (h_ .Mult) (rI vB λi j=>.int (i*j)):=OA λ_ _ _ _ _ _ _ hc q=>mul_int q hc.ok
def Xv:jO X (h_ .FloorDiv) (rI xg λi j=>.int (i / j)):=OA λi j _ _ _ _ _ hc q=>by
 have h1:=hc.1;have h2:=hc.2;exact floordiv_int (by lia) (by rw[rZ i (by lia)];exact q) (.inl (KY (by omega)))
def ZI:jO X (h_ .Mod) (rI (λ_ j=>0<j) λi j=>.int (i%j)):=OA λi j _ _ _ _ _ hc q=>by
 have h1:=hc;exact mod_int' (by lia) (by rw[Int.fmod_eq_emod_of_nonneg i (by lia)];exact q)
def ZJ:jO X (h_ .Pow) (rI HH λi j=>.int (i ^ j.toNat)):=OA λ_ _ _ _ _ _ _ hc q=>pow_int_small hc.1 hc.2.1 hc.2.2 q
def ZK:jO X (h_ .RShift) (rI (λ_ j=>0<=j) λi j=>.int (i / 2 ^ j.toNat)):=OA λi j _ _ _ _ _ hc q=>
 rshift_int hc (by rw[rZ i (Mz _)];exact q)
def unI{f:S->Sem S}{g:Int->Int}(rule:∀(i:Int) (t:Tok) (s:ak) (Q:S->ak->Prop) (E:S->ak->Prop),Q (.int (g i) s.toks) { s with toks:=s.toks+1 }->aO (a7 X.prog X.w) X.A (f (.int i t)) Q E s):UnR X f (rU λi=>.int (g i)):=by
 intro pins s O H x v Q I rx h;let#[i,rfl,q]:=h;let#[t,rfl]:=rx;exact rule i t s _ _ #[.int (g i),H,I.tok _,#[_,rfl],q]
def ZL:UnR X (unaryOp .USub) (rU λi=>.int (-i)):=unI λ_ _ _ _ _ q=>neg_int q
end
section
variable{X:Cx}{a b c:Expr}{ta tb tc:TE}{pos:Pos}
def C_(I:Inv X pins O H s)(q:Q (.bl k) H)(e:k=k'):EP X pins O Q (.bool k') s:=by
 subst e;exact#[.bl k,H,I,rfl,q]
def abu:jO X (gR .Lt) (E6 λi j=>.bl (decide (i<j))):=My λ_ _ _ _ _ _ _ q=>lt_int q
def abv:jO X (gR .LtE) (E6 λi j=>.bl (decide (i<=j))):=My λ_ _ _ _ _ _ _ q=>le_int q
def abw:jO X (gR .Gt) (E6 λi j=>.bl (decide (j<i))):=My λ_ _ _ _ _ _ _ q=>gt_int q
def abx:jO X (gR .GtE) (E6 λi j=>.bl (decide (j<=i))):=My λ_ _ _ _ _ _ _ q=>ge_int q
def OB:jO X (gR .Lt) (λx y H Q=>∃i j,x=.str i/\y=.str j/\Q (.bl (decide (i.cps.toList<j.cps.toList))) H):=by
 intro pins s O H x y v u Q I rx ry h;let#[i,j,rfl,rfl,q]:=h;let#[t,rfl]:=rx;let#[t',rfl]:=ry;exact lt_str (C_ I q rfl)
def ZM:jO X (gR .Is) (λx y H Q=>y=.non/\Q (.bl (decide (x=.non))) H):=by
 intro pins s O H x y v u Q I rx ry h;let#[rfl,q]:=h;cases ry;refine is_none_gen (C_ I q ?_);cases x<;>first
  |(cases rx;rfl)
  |(let#[t,rfl]:=rx;rfl)
def Xw:jO X (gR .IsNot) (λx y H Q=>y=.non/\Q (.bl (!decide (x=.non))) H):=by
 intro pins s O H x y v u Q I rx ry h;let#[rfl,q]:=h;cases ry;refine isnot_none_gen (C_ I q ?_);cases x<;>first
  |(cases rx;rfl)
  |(let#[t,rfl]:=rx;rfl)
def Xx(ho:jO X (gR op) r)(ha:PE X a ta)(hb:PE X b tb)(hm:yF op b=W):PE X (.Compare a [op] [b] pos) (ZD r ta tb):=by
 intro pins s O H Q I h;exact wpAny_Compare1 (SI ha hb I h λv u s2 x y H2 I2 rx ry q=>ho pins s2 O H2 x y v u Q I2 rx ry q) hm
def TruV(K:aa)(x:V)(H:Hp)(k:Bool):Prop:=
 match x with
 |.non=>k=W
 |.bl b=>k=b
 |.int i=>k=(i != 0)
 |.str y=>y.length<=ah/\k=((y.length:Int) != 0)
 |.byt y=>y.size<=ah/\k=((y.size:Int) != 0)
 |.ref p=>(∃xs,iC K H p xs/\k=!xs.isEmpty)\/(∃xs,l8 K H p xs/\k=!xs.isEmpty)\/∃kvs,H p=Y (.dK kvs)/\k=!kvs.isEmpty
 |_=>aR
def MA{κ:Type}{kvs:M (κ×V)}{vs:M (κ×S)}(r:KV kvs vs):(!vs.isEmpty)=!kvs.isEmpty:=by
 cases r<;>rfl
def Dc{xs:M V}{its:M S}(r:bN xs its):(!its.toArray.isEmpty)=!xs.isEmpty:=by
 cases r<;>simp
def tS:(ah:L)<2 ^ 63:=by rw[fN];decide
def ZN:ZC X (λx H Q=>∃k,TruV X.K x H k/\Q k H):=by
 intro pins s O H x v Q I rx h;let#[k,e,q]:=h;have hl:=tS;have hs:=fN;cases x with
 |non=>
  cases rx;have e':=e;subst e';exact truthy_none #[H,I,q]
 |bl b=>
  cases rx;have e':=e;subst e';exact gh #[H,I,q]
 |int i=>
  let#[t,rfl]:=rx;have e':=e;subst e';exact R3 #[H,I,q]
 |str y=>
  let#[t,rfl]:=rx;obtain⟨hy,e'⟩:y.length<=ah/\k=((y.length:Int) != 0):=e;subst e';exact R4 (by lia) #[H,I.tok _,q]
 |byt y=>
  let#[t,rfl]:=rx;obtain⟨hy,e'⟩:y.size<=ah/\k=((y.size:Int) != 0):=e;subst e';exact N6 (by lia) #[H,I.tok _,q]
 |ref p=>
  cases rx;have e':=e;rcases e' with⟨xs,hx,e'⟩|⟨xs,hx,e'⟩|⟨kvs,hx,e'⟩
  ·subst e';let#[its,r,pl,hz]:=I.list hx;have hlen:=r.length;exact wpAny_truthy_list pl.isList (by simp only[bw];lia) #[H,I.tok _,by rw[Dc r];exact q]
  ·subst e';let#[its,r,pl,hz]:=I.tuple hx;have hlen:=r.length;exact truthy_tuple pl (by simp only[bw];lia) #[H,I.tok _,by rw[Dc r];exact q]
  ·subst e';obtain⟨hz,hS,vs,r,m⟩:kvs.length<=ah/\(p==lB)=W/\∃vs,KV kvs vs/\s.heap.DictOf (iw X.prog X.w) p vs:=I.hok p _ hx;have hlen:=Paired.length r;exact wpAny_truthy_dict hS m (by lia) #[H,I.tok _,by rw[MA r];exact q]
 |_=>exact(show aR from e).elim
def MB:jO X (h_ .Add) (λx y H Q=>∃i j,x=.str i/\y=.str j/\i.length+j.length<=ah/\Q (.str (i++j)) H):=by
 intro pins s O H x y v u Q I rx ry h;let#[i,j,rfl,rfl,hz,q]:=h;let#[t,rfl]:=rx;let#[t',rfl]:=ry;exact add_str (λt' tk=>#[.str (i++j),H,I.tok _,#[_,rfl],q]) hz
def vals1(r:bN [x] us):∃u,us=[u]/\RelV x u:=by
 cases r with
 |cons r1 r2=>cases r2;exact#[_,rfl,r1]
def vals2(r:bN [x,y] us):∃u w',us=[u,w']/\RelV x u/\RelV y w':=by
 cases r with
 |cons r1 r2=>
  cases r2 with
  |cons r3 r4=>cases r4;exact#[_,_,rfl,r1,r3]
def SJ:nY X (.builtin "abs") (λxs H Q=>∃i,xs=[.int i]/\Q (.int (if i<0 then -i else i)) H):=by
 intro pins s O H xs us Q I r h;let#[i,rfl,q]:=h;let#[u,rfl,t,rfl]:=vals1 r;exact call_abs_int λu tk=>#[.int (if i<0 then -i else i),H,I.tok _,#[_,rfl],q]
def OC(hc:X.calm=J):nY X (.builtin "min") (λxs H Q=>∃i j,xs=[.int i,.int j]/\Q (.int (if j<i then j else i)) H):=by
 intro pins s O H xs us Q I r h;let#[i,j,rfl,q]:=h;let#[u,w',rfl,#[t,rfl],#[t',rfl]]:=vals2 r;refine min_two_ints (I.ok.hd hc) λh' tk k=>#[_,H,I.kept k,?_,q];by_cases hj:j<i
 ·rw[aB hj,aB hj];exact#[_,rfl]
 ·rw[aD hj,aD hj];exact#[_,rfl]
def E7:nY X (.type "int") (λxs H Q=>(∃i,xs=[.int i]/\Q (.int i) H)\/∃k,xs=[.bl k]/\Q (.int (if k then 1 else 0)) H):=by
 intro pins s O H xs us Q I r h;rcases h with⟨i,rfl,q⟩|⟨k,rfl,q⟩
 ·let#[u,rfl,t,rfl]:=vals1 r;exact call_int_int #[.int i,H,I,#[_,rfl],q]
 ·let#[u,rfl,r1]:=vals1 r;cases r1;exact call_int_bool #[.int (if k then 1 else 0),H,I.tok _,#[_,rfl],q]
def HJ:nY X (.type "str") (λxs H Q=>∃i,xs=[.int i]/\i.natAbs.log2<1920/\Q (.str (toString i)) H):=by
 intro pins s O H xs us Q I r h;let#[i,rfl,hz,q]:=h;let#[u,rfl,t,rfl]:=vals1 r;exact R5 hz #[.str _,H,I.tok _,#[_,rfl],q]
end
end L2
namespace L2
open PySem PySem.Spec PyProof.Rows
structure MC (h:Heap) (x dx C:Addr) (mA:Str->aaV S):Prop where
 obj:h.get? x=Y (vh C dx)
 ns:h.Ns1 dx mA
 ne:dx≠x
def OD{h:Heap}{mA:Str->aaV S}(n:h.Ns1 dx mA):∃od,h.get? dx=Y od/\∀name,wL name od=Y (mA name):=by
 let#[o,es,ep,ho,hd,hk,_,hm]:=n;refine#[o,ho,λname=>?_];have e:=hm name;unfold nsFind findBy at e;rw[<-Array.find?_toList]at e;unfold wL;rw[hd];dsimp only;split
 ·rename_i y q;rw[q]at e;exact lC Y e
 ·rename_i q;rw[q]at e;have a:es.toList.any (·.refKey)=W:=by
   rw[nE];intro y hy;let#[z,t,hkey]:=hk y (Array.mem_toList_iff.mp hy);simp[V8,hkey]
  have a':¬es.toList.any (·.refKey)=J:=by rw[a];exact bq
  rw[aD a'];exact lC Y e
def MC.look{mA:Str->aaV S}(I:MC h x dx C mA):∃od,Za h x (vh C dx) C (Y od)/\∀name,wL name od=Y (mA name):=
 let⟨od,ho,hl⟩:=OD I.ns
 #[od,#[I.obj,rfl,rfl,ho],hl]
section
variable{prog:bM}{w:bL}{A:cR}{E:S->ak->Prop}{s:ak}{K:aa}{x dx C f:Addr}{mA:Str->aaV S}{name:Str}{v:S}
def OE{Q:S->ak->Prop}(X:K.In s.heap)(I:MC s.heap x dx C mA)(hg:ux K C name=J)(hh:Bc K C=J)(ha:q_ K (.ref C) name=Y (Y a))(hn:sj K a "__get__"=Y B)(hc:yL.contains name=W)(hv:mA name=B)(hv':CL a=J)(h:Q a { s with toks:=s.toks+1 }):aO (a7 prog w) A (Mp (.ref x) name expr) Q E s:=by
 let#[od,aat,hl]:=I.look;exact Sq X aat (Oe hg).1 (Of hh ha hn hv' hc (by rw[hl,hv])) hv' h
end
noncomputable def HK(f:Str)(v:V):M (Str×V)->M (Str×V)
|[]=>[(f,v)]
|(g,x)::r=>if g=f then(g,v)::r else(g,x)::HK f v r
def o5.some_of(r:o5 (Y v) o):∃u,o=Y u/\RelV v u:=by
 cases o with
 |none=>exact(show aR from r).elim
 |some u=>exact#[u,rfl,r]
def o5.none_of(r:o5 B o):o=B:=by
 cases o with
 |none=>rfl
 |some u=>exact(show aR from r).elim
def OF(r:RelV v u):CL u=J:=by
 cases v with
 |non=>cases(show u=f_ from r);rfl
 |bl b=>cases(show u=lA b from r);rfl
 |int i=>let#[t,e]:=(show ∃t,u=rK i t from r);cases e;rfl
 |str x=>let#[t,e]:=(show ∃t,u=rL x t from r);cases e;rfl
 |byt b=>let#[t,e]:=(show ∃t,u=KU b t from r);cases e;rfl
 |flt b=>let#[t,e]:=(show ∃t,u=BZ b t from r);cases e;rfl
 |ref a=>cases(show u=c8 a from r);rfl
 |ty n=>cases(show u=Value.type n from r);rfl
section
variable{P:bM}{w:bL}{H H':Hp}{h h':Heap}{a C dx:Addr}{fs fs':M (Str×V)}
def Le(hok:gJ P w H h)(e:H a=Y (.ins C dx fs)):∃mA,MC h a dx C mA/\(∀f,o5 (fs.lookup f) (mA f))/\J0 mA (fs.map (·.1))/\fs.length<=1000/\H dx=Y (.own a):=by
 let#[d,z,ne,ob,mA,n,r,q]:=(show fq P w H h a (.ins C dx fs)from hok a _ e);exact#[mA,#[ob,n,ne],r,q,z,d]
end
structure OG (K:aa) (C:Addr):Prop where
 pg:ux K C R6=J
 hd:Bc K C=J
 po:Ss K C=J
 sa:q_ K (.ref C) "__setattr__"=Y (Y (.builtin "object.__setattr__"))
def OG.get{K:aa}(c:OG K C)(f:Str):ux K C f=J:=c.pg
structure Con (K:aa) (C:Addr) (f:Str) (v:V) (u:S):Prop where
 at_:q_ K (.ref C) f=Y (Y u)
 rel:RelV v u
 get:sj K u "__get__"=Y B
 cp:yL.contains f=W
section
variable{X:Cx}{pins:M (Addr×Obj)}{O:St}{H:Hp}{s:ak}{a C dx:Addr}{fs:M (Str×V)}{f:Str}{v:V}{A:cR}{E:S->ak->Prop}
def OH{Q:S->ak->Prop}(I:Inv X pins O H s)(e:H a=Y (.ins C dx fs))(c:OG X.K C)(k:Con X.K C f v u)(l:fs.lookup f=B)(h:∀s',Inv X pins O H s'->Q u s'):aO (a7 X.prog X.w) A (Mp (.ref a) f b) Q E s:=by
 let#[mA,aen,r,_,_,_]:=Le I.hok e;have hn:=o5.none_of (by rw[<-l];exact r f);exact OE I.jN aen (c.get f) c.hd k.at_ k.get k.cp hn (OF k.rel) (h _ (I.tok _))
def Xy{Q:S->ak->Prop}(hb:r6 e f env (eval e env)=eval e env)(h:aO (a7 prog w) A (eval e env) (λo aev=>aO (a7 prog w) A (Mp o f J) Q E aev) E s):aO (a7 prog w) A (eval (.Attribute e f pos) env) Q E s:=
 Attribute_any_ h (by rw[arm_eval_Attribute,hb])
end
def tCon(K:aa)(ta:TE)(f:Str):TE:=λO H Q=>ta O H λx H1=>∃a C dx fs v u,x=.ref a/\H1 a=Y (.ins C dx fs)/\OG K C/\Con K C f v u/\fs.lookup f=B/\Q v H1
section
variable{X:Cx}{o e value:Expr}{f:Str}{pos pos' tpos:Pos}{ta tv:TE}
def OI(he:PE X e ta)(hb:r6 e f X.env (eval e X.env)=eval e X.env):PE X (.Attribute e f pos) (tCon X.K ta f):=by
 intro pins s O H Q I h;refine Xy hb (a_ (he pins s O H _ I h) λu s1 ⟨x,H1,I1,rx,a,C,dx,fs,v,u0,ex,ea,c,k,l,q⟩=>?_);subst ex;obtain rfl:u=c8 a:=rx;exact OH I1 ea c k l λs2 I2=>#[v,H1,I2,k.rel,q]
end
section
variable{X:Cx}{pins:M (Addr×Obj)}{O:St}{H:Hp}{s:ak}{A:cR}{E:S->ak->Prop}{Q:S->ak->Prop}{c:S}{b:Bool}
inductive qI (K:aa) (H:Hp):V->S->Prop where
|non:qI K H .non (.type "NoneType")
|bl (x:Bool):qI K H (.bl x) (.type "bool")
|int (i:Int):qI K H (.int i) (.type "int")
|str (x:Str):qI K H (.str x) (.type "str")
|flt (x:UInt64):qI K H (.flt x) (.type "float")
|lst {a:Addr}{xs:M V} (e:H a=Y (.lst xs)):qI K H (.ref a) (.type "list")
|bE {a:Addr}{o:Obj}{xs:M V} (e:H a=Y (.bE o (.lst xs))):qI K H (.ref a) (.type "list")
|tup {a:Addr}{xs:M V} (e:H a=Y (.tup xs)):qI K H (.ref a) (.type "tuple")
|dK {a:Addr}{kvs:M (Key×V)} (e:H a=Y (.dK kvs)):qI K H (.ref a) (.type "dict")
|dT {a:Addr}{kvs:M (M Key×V)} (e:H a=Y (.dT kvs)):qI K H (.ref a) (.type "dict")
|ins {a C dx:Addr}{fs:M (Str×V)} (e:H a=Y (.ins C dx fs)) (cl:OG K C) (ha:q_ K (.ref C) "__class__"=Y (Y (.builtin "object.__class__")))
  (hn:sj K (.builtin "object.__class__") "__get__"=Y (Y (.builtin "getset_descriptor.__get__"))) (htk:Xj K (.builtin "object.__class__")=Y J)
  (hm:Zg K C (.type "object")=Y J):qI K H (.ref a) (.ref C)
def OJ(I:Inv X pins O H s)(rx:RelV x u)(ty:qI X.K H x t)(e:rm X.K t c=Y b)(h:∀tk,Q (.bool b) { s with toks:=tk }):aO (a7 X.prog X.w) A (call (.builtin "isinstance") [u,c]) Q E s:=by
 cases ty with
 |non=>cases(show u=f_ from rx);exact dO Bd I.jN gI e (λz=>nomatch z) h
 |bl y=>cases(show u=lA y from rx);exact dO Be I.jN gI e (λz=>nomatch z) h
 |int i=>let#[t,q]:=(show ∃t,u=rK i t from rx);cases q;exact dO CM I.jN gI e (λz=>nomatch z) h
 |str y=>let#[t,q]:=(show ∃t,u=rL y t from rx);cases q;exact dO CN I.jN gI e (λz=>nomatch z) h
 |flt y=>let#[t,q]:=(show ∃t,u=BZ y t from rx);cases q;exact dO R7 I.jN gI e (λz=>nomatch z) h
 |@lst a xs ea=>
  cases(show u=c8 a from rx);let#[_,_,n,_,h1]:=(show fq X.prog X.w H s.heap a (.lst xs)from I.hok a _ ea);exact dO nF I.jN #[_,h1,rfl] e (λz=>nomatch z) h
 |@bE a ob xs ea=>
  cases(show u=c8 a from rx);let#[_,_,_,n,_,h1]:=(show fq X.prog X.w H s.heap a (.bE ob (.lst xs))from I.hok a _ ea);exact dO nF I.jN #[_,h1,rfl] e (λz=>nomatch z) h
 |@tup a xs ea=>
  cases(show u=c8 a from rx);let#[_,_,_,p]:=(show fq X.prog X.w H s.heap a (.tup xs)from I.hok a _ ea);let#[o,h1,h2,_]:=p;exact dO rN I.jN #[o,h1,h2] e (λz=>nomatch z) h
 |@dK a kvs ea=>
  cases(show u=c8 a from rx);let#[_,_,vs,_,p]:=(show fq X.prog X.w H s.heap a (.dK kvs)from I.hok a _ ea);let#[o,es,ep,h1,h2,_]:=p;exact dO kD I.jN #[o,h1,h2.1] e (λz=>nomatch z) h
 |@dT a kvs ea=>
  cases(show u=c8 a from rx);let#[_,_,xs,_,o,es,ep,h1,h2,_]:=(show fq X.prog X.w H s.heap a (.dT kvs)from I.hok a _ ea);exact dO kD I.jN #[o,h1,h2.1] e (λz=>nomatch z) h
 |@ins a C dx fs ea cl ha hn htk hm=>
  cases(show u=c8 a from rx);let#[mA,aen,_]:=Le I.hok ea;let#[od,aat,_]:=aen.look;exact dO (V9 (cl.get _) cl.hd ha hn htk hm) I.jN aat e (λz=>nomatch z) h
end
end L2
namespace L2
open PySem PySem.Spec PyProof.Rows
structure k8 (k:L) (A:cR):Prop where
 hd:A.handled=B
 dp:A.depth+3*k+5<wM
 un:A.units+16*k+200<eB
def k8.mono(r:k8 k A)(h:j<=k):k8 j A:=#[r.hd,by have:=r.dp;lia,by have:=r.un;lia]
def k8.deeper(r:k8 (k+1) A)(env:Env):k8 k (A.deeper env):=
 #[r.hd,by have:=r.dp;show A.depth+1+3*k+5<_;lia,by have:=r.un;show A.units+3+16*k+200<_;lia]
def k8.depth(r:k8 k A):A.depth<wM:=by have:=r.dp;lia
def ZO:TA:=λ_ H Q=>Q [] H
def aby(ta:TE)(tr:TA):TA:=λO H Q=>ta O H λx H1=>tr O H1 λxs H2=>Q (x::xs) H2
section
variable{X:Cx}{e:Expr}{es:M Expr}{te:TE}{t:TA}{pos:Pos}
def OL:PA X [] ZO:=λ_ _ _ _ H Q I h=>jk #[[],H,I,.nil,h]
def Lf(ha:PE X e te)(hr:PA X es t)(hs:fB (e::es) X.env=(W,eval e X.env)::fB es X.env:=by rfl):PA X (e::es) (aby te t):=by
 intro pos pins s O H Q I h;rw[hs];refine eZ (a_ (ha pins s O H _ I h) λu s1 ⟨x,H1,I1,r1,q1⟩=>?_);exact a_ (hr pos pins s1 O H1 _ I1 q1) λus s2 qq=>by let#[xs,H2,I2,r2,q2]:=qq;exact#[x::xs,H2,I2,.cons r1 r2,q2]
def tTup(t:TA):TE:=λO H Q=>t O H λxs H1=>xs.length<=ah/\∀p,H1 p=B->Q (.ref p) (upd H1 p (.tup xs))
def tLst(t:TA):TE:=λO H Q=>t O H λxs H1=>xs.length<=ah/\∀p,H1 p=B->Q (.ref p) (upd H1 p (.lst xs))
def ZP{x1}(h:PA X es t):PE X (.Tuple es x1 pos) (tTup t):=by
 intro pins s O H Q I hq;refine yM (a_ (h pos pins s O H _ I hq) λus s1 ⟨xs,H1,I1,r,z,q⟩=>#[by rw[<-r.length];exact z,?_]);have hf:=I1.hok.fresh (aW _);refine#[.ref s1.heap.objs.size,upd H1 s1.heap.objs.size (.tup xs),I1.laid (t':=s1.toks) (λb u e=>aE _ e) (aW _) ?_,rfl,q _ hf];exact#[z,us,r,#[_,bD _ rfl,rfl,_,rfl]]
def ZQ(h:PA X es t):PE X (.List es pos) (tLst t):=by
 intro pins s O H Q I hq;refine wpAny_List_spliced (a_ (h pos pins s O H _ I hq) λus s1 ⟨xs,H1,I1,r,z,q⟩=>#[by rw[<-r.length];exact z,?_]);have hf:=I1.hok.fresh (aW _);refine#[.ref s1.heap.objs.size,upd H1 s1.heap.objs.size (.lst xs),I1.laid (t':=s1.toks) (λb u e=>aE _ e) (aW _) ?_,rfl,q _ hf];exact#[z,us,0,r,bD _ rfl]
end
abbrev Sp:=M V->Hp->VK->XK->Prop
abbrev yR:=M Env->Hp->ak->XK->S->ak->Prop
structure HL (P:bM) (w:bL) (K:aa) (mg:Str->aaV S) (base:Heap) (A:cR) (outer:M Env) (s:ak) (H:Hp):Prop where
 frames:A.frames=Y outer
 mod:Mod K mg base
 bs:∀b o,base.get? b=Y o->s.heap.get? b=Y o/\H b=B
 bsz:base.objs.size<=s.heap.objs.size
 rQ:s.heap.FunFrames base outer
 frf:(∀b∈frs outer,H b=B)/\Tb H
 hok:gJ P w H s.heap
 bare:m6 s.gens
def CE(outer:M Env)(P:bM)(w:bL)(H:Hp)(s:ak)(Q:VK)(u:S)(s':ak):Prop:=
 ∃v H',s'.os=s.os/\m6 s'.gens/\Un (frs outer) [] H H' s.heap s'.heap/\gJ P w H' s'.heap/\RelV v u/\Q v H'
def CR(CX:yR)(outer:M Env)(P:bM)(w:bL)(H:Hp)(s:ak)(Q:VK)(E:XK)(r:J4)(s':ak):Prop:=
 match r with
 |.ok (.ret u)=>CE outer P w H s Q u s'
 |.ok _=>aR
 |.error e=>CX outer H s E e s'
structure iF (P:bM) (w:bL) (K:aa) (mg:Str->aaV S) (base:Heap) (CX:yR) (k:L) (f:Addr) (fd:fC) (ps:M Str) (sp:Sp):Prop where
 len:∀vs H Q E,sp vs H Q E->vs.length=ps.length
 run:∀(A:cR) (outer:M Env) (s:ak) (H:Hp) (args:Args) (us:M S) (vs:M V) (Q:VK) (E:XK),k8 k A->HL P w K mg base A outer s H->A5 s fd args (ps.zip us)->bN vs us->sp vs H Q E->
  o4 (a7 P w) A (.call (.ref f) args) (CR CX outer P w H s Q E) s
def iF.mono{w:bL}{K:aa}{mg:Str->aaV S}{base:Heap}{CX:yR}{j k:L}{f:Addr}{fd:fC}{ps:M Str}{sp:Sp}(F:iF P w K mg base CX j f fd ps sp)(h:j<=k):iF P w K mg base CX k f fd ps sp:=#[F.len,λA outer s H args us vs Q E hr=>F.run A outer s H args us vs Q E (hr.mono h)]
def iF.imp{w:bL}{K:aa}{mg:Str->aaV S}{base:Heap}{CX:yR}{k:L}{f:Addr}{fd:fC}{ps:M Str}{sp sp':Sp}(F:iF P w K mg base CX k f fd ps sp)(h:∀vs H Q E,sp' vs H Q E->sp vs H Q E):iF P w K mg base CX k f fd ps sp':=
 #[λvs H Q E q=>F.len vs H Q E (h _ _ _ _ q),λA outer s H args us vs Q E hr he hb hv hs=>F.run A outer s H args us vs Q E hr he hb hv (h _ _ _ _ hs)]
section
variable{X:Cx}{pins:M (Addr×Obj)}{O:St}{H:Hp}{s s':ak}
def Inv.env0(I:Inv X pins O H s):HL X.prog X.w X.K X.mg X.base X.A X.stack s H:=
 #[I.ok.frames,I.ok.mod,I.bs,fJ I.ok.bsz I.sz,I.stack,#[I.Lb,I.tb],I.hok,I.bare]
def Inv.after(I:Inv X pins O H s)(h:CE X.stack X.prog X.w H s Q u s'):EP X pins O Q u s':=by
 let#[v,H',os,bare,un,hok,r,q]:=h;let#[hh,g,d,t,os']:=s';obtain rfl:os'=s.os:=os;exact#[v,H',I.call (h':=hh) (g':=g) (d':=d) (t':=t) (ch:=[]) un hok bare (λb z=>aG z (by simp)),r,q]
end
def Wh(sp:Sp)(dvs:M V)(E:XK)(t:TA):TE:=λO H Q=>t O H λvs H1=>sp (vs++dvs) H1 Q E
def Binds(K:aa)(fd:fC)(ps:M Str)(ds:M S):Prop:=
 ∀(s:ak) (us:M S),K.In s.heap->(us++ds).length=ps.length->A5 s fd #[us,[]] (ps.zip (us++ds))
def Binds.all{K:aa}(h:∀us:M S,us.length=ps.length->CP fd #[us,[]]=pure (ps.zip us)):Binds K fd ps []:=λs us _ hl=>by
 rw[bK]at hl ⊢;exact .of_eq (h us hl)
def yS(CX:yR)(X:Cx)(E:XK):Prop:=∀(pins:M (Addr×Obj)) (O:St) (H:Hp) (s:ak) (e:S) (s':ak),Inv X pins O H s->CX X.stack H s E e s'->X.xe e s'
section
variable{X:Cx}{CX:yR}{k:L}{f C:Addr}{fd:fC}{ps:M Str}{sp:Sp}{dvs:M V}{ds:M S}{E:XK}{x m:Str}{p pos apos:Pos}{e o:Expr}{es:M Expr}{ta:TE}{t:TA}
def OM(F:iF X.prog X.w X.K X.mg X.base CX k f fd ps sp)(hr:k8 k X.A)(hb:Binds X.K fd ps ds)(hd:bN dvs ds)(hx:yS CX X E)(I:Inv X pins O H s)(r:bN vs us)(h:sp (vs++dvs) H Q E):aO (a7 X.prog X.w) X.A (call (.ref f) us) (EP X pins O Q) X.xe s:=by
 have r2:=r.append hd;have hl:(us++ds).length=ps.length:=by rw[<-r2.length];exact F.len _ _ _ _ h
 refine N7 (mJ (F.run X.A X.stack s H #[us,[]] (us++ds) (vs++dvs) Q E hr I.env0 (hb s us I.jN hl) r2 h) λr s' hq=>?_);cases r with
 |error e=>exact hx pins O H s e s' I hq
 |ok fl=>
  cases fl with
  |ret u=>exact I.after hq
  |next=>exact aJ hq
  |brk=>exact aJ hq
  |cont=>exact aJ hq
def Xz(F:iF X.prog X.w X.K X.mg X.base CX k f fd ps sp)(hr:k8 k X.A)(hg:Gl X x)(hm:X.mg x=Y (.ref f))(hk:gS X.K (.ref f)=J)(hb:Binds X.K fd ps ds)(hd:bN dvs ds)(hx:yS CX X E)(ha:PA X (e::es) t)(hdb:(x==("__debug__":Str))=W:=by decide)(he:fB (e::es) X.env=(W,eval e X.env)::fB es X.env:=by rfl)(hpl:(qx pos (fB es X.env)).any (·.1)=W:=by rfl):PE X (.Call (.Name x p) (e::es) [] pos) (Wh sp dvs E t):=by
 intro pins s O H Q I h;refine gU (Ej I hg hm ?_ hdb);refine R8 (h₀:=X.base) I.ok.mod.kin hk (a_ (ha pos pins s O H _ I h) λus s1 ⟨vs,H1,I1,r,q⟩=>#[I1.jN,?_]) he hpl;exact OM F hr hb hd hx I1 r q
def SK(F:iF X.prog X.w X.K X.mg X.base CX k f fd ps sp)(hr:k8 k X.A)(hg:Gl X x)(hm:X.mg x=Y (.ref f))(hk:gS X.K (.ref f)=J)(hb:Binds X.K fd ps ds)(hd:bN dvs ds)(hx:yS CX X E)(hdb:(x==("__debug__":Str))=W:=by decide):PE X (.Call (.Name x p) [] [] pos) (Wh sp dvs E ZO):=by
 intro pins s O H Q I h;refine gU (Ej I hg hm ?_ hdb);exact Og I.jN hk (OM (us:=[]) F hr hb hd hx I .nil h)
end
structure tB (N P:M Str) (sc:gH):Prop where
 kind:sc.kind=.function
 co:sc.isCoroutine=W
 gen:sc.isGenerator=W
 nd:N.Nodup
 pre:N.take P.length=P
 par:∀x∈P,sc.names.lookup x=Y .local\/sc.names.lookup x=Y .cell
 nofree:∀y∈sc.names,y.2≠.free
theorem E8{kindOf:Str->aaV ia}:∀{binds:M (Str×S)}{m:Str->aaV S},(∀v,(x,v)∉binds)->A6 kindOf binds m x=m x
|[],_,_=>rfl
|(n,v)::r,m,h=>by
 unfold A6;rw[E8 λw hw=>h w (ai _ hw)];split
 ·grind
 ·rfl
theorem E9{kindOf:Str->aaV ia}:∀{binds:M (Str×S)}{m:Str->aaV S},(∀v,(x,v)∉binds)->A7 kindOf binds m x=m x
|[],_,_=>rfl
|(n,v)::r,m,h=>by
 unfold A7;rw[E9 λw hw=>h w (ai _ hw)];split
 ·rfl
 ·grind
theorem E_{kindOf:Str->aaV ia}:∀{P:M Str}{vs:M S}{i:L}{m:Str->aaV S},P.Nodup->P[i]?=Y x->vs[i]?=Y v->kindOf x=Y .local->
 A6 kindOf (P.zip vs) m x=Y v
|[],_,_,_,_,h,_,_=>by simp at h
|_::_,[],_,_,_,_,h,_=>by simp at h
|p::P,w::vs,0,m,nd,h1,h2,hk=>by
 simp at h1 h2;subst h1;subst h2;show A6 kindOf ((p,w)::P.zip vs) m p=_;unfold A6;rw[E8 λv hv=>(bF.mp nd).1 (vn hv).1,aB hk];simp
|p::P,w::vs,i+1,m,nd,h1,h2,hk=>by
 unfold A6;exact E_ (i:=i) (bF.mp nd).2 (by simpa using h1) (by simpa using h2) hk
theorem Fb{kindOf:Str->aaV ia}:∀{P:M Str}{vs:M S}{i:L}{m:Str->aaV S},P.Nodup->P[i]?=Y x->vs[i]?=Y v->kindOf x≠Y .local->
 A7 kindOf (P.zip vs) m x=Y v
|[],_,_,_,_,h,_,_=>by simp at h
|_::_,[],_,_,_,_,h,_=>by simp at h
|p::P,w::vs,0,m,nd,h1,h2,hk=>by
 simp at h1 h2;subst h1;subst h2;show A7 kindOf ((p,w)::P.zip vs) m p=_;unfold A7;rw[E9 λv hv=>(bF.mp nd).1 (vn hv).1,aD hk];simp
|p::P,w::vs,i+1,m,nd,h1,h2,hk=>by
 unfold A7;exact Fb (i:=i) (bF.mp nd).2 (by simpa using h1) (by simpa using h2) hk
noncomputable def start(N:M Str)(vs:M V):St:=vs.map Y++a8 (N.length-vs.length) B
noncomputable def oA(CX:yR)(P:bM)(w:bL)(K:aa)(mg:Str->aaV S)(base:Heap)(N:M Str)(qual:Str)(scope:gH)(f:Addr)(cd:S)(A:cR)(outer:M Env)(s:ak)(H:Hp)(E:XK):Cx where
 prog:=P
 w:=w
 K:=K
 mg:=mg
 base:=base
 A:=A.deeper (nS qual scope s.heap.objs.size f cd)
 N:=N
 aet:=s
 aeE:=H
 env:=nS qual scope s.heap.objs.size f cd
 outer:=outer
 stack:=nS qual scope s.heap.objs.size f cd::outer
 ex:=[]
 calm:=J
 fn:=λ_=>J
 pn:=[]
 xe:=λe s'=>aO (a7 P w) (A.deeper (nS qual scope s.heap.objs.size f cd)) (leaving (nS qual scope s.heap.objs.size f cd) e) (λ_ s''=>CX outer H s E e s'') (λe' s''=>CX outer H s E e' s'') s'
def HM{sc:gH}(h:sc.names.lookup x=Y .cell):∃c,(e_ n sc.names []).lookup x=Y c:=by
 have q:=vO sc.names n [] (.inl h);exact Option.isSome_iff_exists.mp q
def ON{P:bM}{w:bL}{K:aa}{mg:Str->aaV S}{base:Heap}{N ps:M Str}{qual:Str}{scope:gH}{f:Addr}{cd:S}{A:cR}{outer:M Env}{s s1:ak}{H:Hp}{E:XK}{us:M S}{vs:M V}(aaU:tB N ps scope)(hd:A.handled=B)(e0:HL P w K mg base A outer s H)(hl:vs.length=ps.length)(r:bN vs us)(x:InCallC s s.heap.objs.size (A6 (nS qual scope s.heap.objs.size f cd).kindOf (ps.zip us) λ_=>B) (e_ (s.heap.objs.size+1) scope.names []) (A7 (nS qual scope s.heap.objs.size f cd).kindOf (ps.zip us) λ_=>B) s1):Inv (oA CX P w K mg base N qual scope f cd A outer s H E) [] (start N vs) H s1:=by
 have hpl:ps.length<=N.length:=by have:=lC KZ aaU.pre;rw[lE]at this;lia
 let#[h1,tk,rfl,hk]:=x.done;have noA:∀b:Addr,b∉(oA CX P w K mg base N qual scope f cd A outer s H E).ex:=λb z=>aG (show b∈([]:M Addr)from z) (by simp);refine#[#[e0.mod,aaU.kind,rfl,rfl,aW _,λy z c h1 h2=>?_,λy hy=>?_,λy c _ h=>?_,λ_=>hd,Around.frames_deeper e0.frames,.inr #[rfl,rfl],λb z=>aG z (noA b),e0.bs,e0.bsz,λb _ _=>noA b,λb z=>aG z (noA b),e0.rQ,e0.frf],
  rfl,e0.bare,Un.kept hk,#[_,x.toInCall.ns,λi y v h1 h2 h3=>?_],λy c h=>#[_,x.cell y c h],e0.hok.fresh (aW _),λy c h=>?_,λp hp=>aG (show p∈([]:M (Addr×Obj))from hp) (by simp),e0.hok.kept hk,?_]
 ·exact name_of_addr x.apart (eF h1) (eF h2)
 ·rcases hy with hy|hy
  ·exact HM hy
  ·exact aG rfl (aaU.nofree _ (eF hy))
 ·exact jG (x.above y c (eF h))
 ·have hi:i<vs.length:=by
   unfold start at h2;by_cases hi:i<vs.length
   ·exact hi
   ·rw[cj (by simpa using hi)]at h2;rw[uK]at h2;split at h2<;>cases h2
  have ha:vs[i]?=Y v:=by
   unfold start at h2;rw[fW (by simpa using hi),bT]at h2;cases e:vs[i]? with
   |none=>rw[e]at h2;cases h2
   |some a=>rw[e]at h2;cases h2;rfl
  let#[u,hu,rv]:=r.get ha;have hp:ps[i]?=Y y:=by
   rw[<-aaU.pre,List.getElem?_take_of_lt (by lia)];exact h1
  have ndP:ps.Nodup:=by rw[<-aaU.pre];exact aaU.nd.sublist (List.take_sublist _ _)
  refine#[u,rv,?_];rcases aaU.par y (dH hp)with k|k
  ·exact .inl #[k,E_ ndP hp hu k]
  ·let#[c,e]:=HM (n:=s.heap.objs.size+1) k;refine .inr #[.inl k,c,e,?_];have q:=x.cell y c e;rw[Fb ndP hp hu (by show scope.names.lookup y≠_;rw[k];decide)]at q;exact q
 ·exact e0.hok.fresh (jG (x.above y c (eF h)))
 ·unfold start;show _=N.length;rw[ao,ay,wN]
  lia
def abz{P:bM}{w:bL}{K:aa}{mg:Str->aaV S}{base:Heap}{k:L}{f:Addr}{name qual:Str}{params:Arguments}{body:M Stmt}{scope:gH}{dV kV doc pm cdv ct oc:S}{an od:aaV Addr}{osl:Array (aaV S)}{N ps:M Str}{sp:Sp}(lk:K.lookup f=Y #[oc,od,.func (iJ name qual params body scope dV kV doc pm an cdv ct),osl])(hcd:rq K cdv qual=J)(aaU:tB N ps scope)(len:∀vs H Q E,sp vs H Q E->vs.length=ps.length)(hbody:∀(A:cR) (outer:M Env) (s:ak) (H:Hp) (vs:M V) (Q:VK) (E:XK),k8 k (A.deeper (nS qual scope s.heap.objs.size f cdv))->sp vs H Q E->
   ∃t,vV (oA CX P w K mg base N qual scope f cdv A outer s H E) body t/\t { nx:=λ_ H'=>Q .non H',rt:=Q } (start N vs) H):
  iF P w K mg base CX (k+1) f (iJ name qual params body scope dV kV doc pm an cdv ct) ps sp:=by
 refine#[len,λA outer s H args us vs Q E hr e0 hb r hsp=>?_];have hl:=len _ _ _ _ hsp;have KX:=e0.mod.kin.keeps λb o e=>(e0.bs b o e).1;have lim:=e0.mod.nolimit.keeps λb o e=>(e0.bs b o e).1;have hkind:∀y∈ps.zip us,scope.names.lookup y.1=Y .local\/(scope.names.lookup y.1=Y .cell/\((e_ (s.heap.objs.size+1) scope.names []).lookup y.1).isSome=J):=λ⟨n,v⟩ hy=>by
  rcases aaU.par n (vn hy).1 with q|q
  ·exact .inl q
  ·exact .inr #[q,vO _ _ _ (.inl q)]
 refine codeAny_call_function hr.depth (KX _ _ lk) rfl aaU.co aaU.gen rfl (R9 KX hcd) (hb _ _ _ _ ?_);refine wpAny_newFunctionEnv_cells aaU.kind hkind λenv he s1 x=>?_;subst he;refine#[lim.keeps x.toInCall.keep,codeAny_func ?_];let#[t,ht,hq]:=hbody A outer s H vs Q E (hr.deeper _) hsp;have I:Inv (oA CX P w K mg base N qual scope f cdv A outer s H E) [] (start N vs) H s1:=ON aaU hr.hd e0 hl r x;refine sX (ht [] s1 (start N vs) H _ I hq) (λfl s' hs=>?_) λe s' hs=>hs;have fin:∀{σ':St}{H':Hp}{v:V}{u:S},Inv (oA CX P w K mg base N qual scope f cdv A outer s H E) [] σ' H' s'->RelV v u->Q v H'->CE outer P w H s Q u s':=
  λ{σ' H' v u} aat rv q=>#[v,H',aat.os,aat.bare,aat.base,aat.hok,rv,q]
 cases fl with
 |ret u=>
  let#[v,σ',H',aat,rv,q]:=hs;exact fin aat rv q
 |next=>
  let#[σ',H',aat,q]:=hs;exact fin (v:=V.non) (u:=f_) aat rfl q
 |brk=>
  let#[_,_,_,q]:=hs;exact aJ q
 |cont=>
  let#[_,_,_,q]:=hs;exact aJ q
end L2
end
section
namespace HT
open PySem PyProof.Rows
section
variable{prog:bM}{w:bL}{A:cR}{E:S->ak->Prop}{s:ak}
def XA{Q:S->ak->Prop}(ht:IsTup s.heap t vs.toArray)(hb:IsTup s.heap b ws.toArray)(hv:vs≠[])(h1:ws=[]->Q (.ref t) s)(h2:ws≠[]->Q (.ref s.heap.objs.size) { s with heap:=s.heap.push { cls:=.type "tuple",data:=.seq (vs++ws).toArray } })(hsz:vs.length+ws.length<=ah):aO (a7 prog w) A (h_ .Add (.ref t) (.ref b)) Q E s:=by
 let#[#[cls,dd,data,sl],ho,hc,n,hd]:=id ht;let#[#[cls2,dd2,data2,sl2],ho2,hc2,n2,hd2]:=id hb;simp only at hc hd hc2 hd2;subst hc hd hc2 hd2;have e:vs.toArray++ws.toArray=(vs++ws).toArray:=by simp
 by_cases hw:ws=[]
 ·exact J5 #[_,ho,rfl] #[_,ho2,rfl] CQ GU vP uL (uy _ _)
   (tuple_addW1 t b vs.toArray ws.toArray n n2 dd dd2 sl sl2 (by simpa using hv) (by simp[hw])) #[ho,ho2,h1 hw]
 ·refine J5 #[_,ho,rfl] #[_,ho2,rfl] CQ GU vP uL (uy _ _)
   (tuple_addW2 t b vs.toArray ws.toArray n n2 dd dd2 sl sl2 (by simpa using hv) (by simpa using hw) (by rw[bw,bw];exact hsz)) #[ho,ho2,?_]
  rw[e];exact h2 hw
noncomputable def lX(n d:L):aaV Int->L
|none=>d
|some v=>if v<0 then(v+(n:Int)).toNat else min v.toNat n
theorem B7(n d:L):lX n d B=d:=rfl
theorem vW(n d k:L):lX n d (Y (k:Int))=min k n:=by rfl
def ZR(n d:L)(hd:d<=n)(o:aaV Int):lX n d o<=n:=by
 cases o with
 |none=>exact hd
 |some v=>
  show(if v<0 then(v+(n:Int)).toNat else min v.toNat n)<=n;by_cases hv:v<0
  ·rw[aB hv];lia
  ·rw[aD hv];exact Nat.min_le_right _ _
end
end HT
namespace L2
open PySem PySem.Spec PyProof.Rows
abbrev TO:=St->Hp->(aaV Int->Hp->Prop)->Prop
def PO(X:Cx)(e:aaV Expr)(t:TO):Prop:=
 ∀(pins:M (Addr×Obj)) (s:ak) (O:St) (H:Hp) (Q:aaV Int->Hp->Prop),Inv X pins O H s->t O H Q->
  aO (a7 X.prog X.w) X.A (evalPart e X.env) (λu s'=>∃o H',Inv X pins O H' s'/\R_ u o/\Q o H') X.xe s
noncomputable def XC:TO:=λ_ H Q=>Q B H
section
variable{X:Cx}{e:Expr}{te:TE}{lo hi:aaV Expr}{tl th:TO}{pos p2:Pos}
def XD:PO X B XC:=by
 intro pins s O H Q I h;rw[GV];exact bO #[B,H,I,.none,h]
def ZS(X:Cx)(r:V->aaV Int->aaV Int->Hp->VK->Prop):Prop:=
 ∀(pins:M (Addr×Obj)) (s:ak) (O:St) (H:Hp) (x:V) (v vl vu:S) (lo hi:aaV Int) (sl:Addr) (Q:VK),Inv X pins O H s->RelV x v->s.heap.IsSliceOf sl vl vu .none->R_ vl lo->R_ vu hi->r x lo hi H Q->
  ∃T id,typeLookup (.type T) "__getitem__"=pure (Y (.builtin id))/\s.TypeIs v T/\aO (a7 X.prog X.w) X.A (A8 v (.ref sl)) (EP X pins O Q) X.xe s
def tSl(r:V->aaV Int->aaV Int->Hp->VK->Prop)(te:TE)(tl th:TO):TE:=λO H Q=>te O H λx H1=>tl O H1 λl H2=>th O H2 λu H3=>r x l u H3 Q
def SM{r:V->aaV Int->aaV Int->Hp->VK->Prop}(hr:ZS X r)(he:PE X e te)(hl:PO X lo tl)(hu:PO X hi th):PE X (.Subscript e (.Slice lo hi B p2) pos) (tSl r te tl th):=by
 intro pins s O H Q I h;refine D5 (a_ (he pins s O H _ I h) λv s1 ⟨x,H1,I1,r1,q1⟩=>?_);refine K0 (a_ (hl pins s1 O H1 _ I1 q1) λvl s2 ⟨l,H2,I2,pl,q2⟩=>a_ (hu pins s2 O H2 _ I2 q2) λvu s3 ⟨u,H3,I3,pu,q3⟩=>?_);rw[GV];refine bO ?_;have I4:Inv X pins O H3 { s3 with heap:=s3.heap.push { cls:=.type "slice",data:=.fields (List.toArray [vl,vu,.none]) } }:=I3.kept (t':=s3.toks) λb ob q=>aE _ q;let#[T,id,hT,ht,hg]:=hr pins { s3 with heap:=s3.heap.push { cls:=.type "slice",data:=.fields (List.toArray [vl,vu,.none]) } } O H3 x v vl vu l u s3.heap.objs.size Q I4 r1 (Az ..) pl pu q3;exact J6 (ops:=[.ref s3.heap.objs.size,v]) ht hT hg (by rfl)
noncomputable def MD(xs:M V)(lo hi:aaV Int):M V:=(xs.drop (HT.lX xs.length 0 lo)).take (HT.lX xs.length xs.length hi-HT.lX xs.length 0 lo)
def Ks(xs:M V)(lo hi:aaV Int):(MD xs lo hi).length<=xs.length:=by
 unfold MD;rw[lE,fE]
 lia
def abA(K:aa):R2:=λx y H Q=>∃a b xs ys,x=.ref a/\y=.ref b/\l8 K H a xs/\l8 K H b ys/\xs≠[]/\xs.length+ys.length<=ah /\
 (ys=[]->Q (.ref a) H)/\(ys≠[]->∀p,H p=B->Q (.ref p) (upd H p (.tup (xs++ys))))
def bN.Ek(r:bN xs us):us=[]↔xs=[]:=by
 cases r with
 |nil=>simp
 |cons _ _=>simp
def XE:jO X (h_ .Add) (abA X.K):=by
 intro pins s O H x y v u Q I rx ry h;let#[a,b,xs,ys,rfl,rfl,ha,hb,hx,hz,q1,q2]:=h;cases rx;cases ry;let#[its,r1,p1,_]:=I.tuple ha;let#[its2,r2,p2,_]:=I.tuple hb;refine HT.XA p1 p2 (λz=>hx (r1.Ek.mp z)) (λz=>#[.ref a,H,I,rfl,q1 (r2.Ek.mp z)]) (λz=>?_) (by rw[<-r1.length,<-r2.length];exact hz);refine#[.ref s.heap.objs.size,_,I.laid (t':=s.toks) (o:=.tup (xs++ys)) (λb ob q=>aE _ q) (aW _) ?_,rfl,q2 (λw=>z (r2.Ek.mpr w)) _ (I.hok.fresh (aW _))];exact#[by rw[ao];exact hz,_,r1.append r2,IsTup.new _ _]
end
end L2
namespace L2
open PySem PySem.Spec PyProof.Rows
noncomputable def gO(n:L)(i:Int):aaV L:=if 0<=i then(if i<n then Y i.toNat else B)else if -(n:Int)<=i then Y (i+n).toNat else B
def fQ{α:Type}(xs:M α)(i:Int):aaV α:=(gO xs.length i).bind λj=>xs[j]?
def Lg(h:gO n i=Y j):seqIndex? i n=Y j/\j<n/\-(n:Int)<=i/\i<n:=by
 unfold gO at h;by_cases h0:0<=i
 ·rw[aB h0]at h;by_cases h1:i<n
  ·rw[aB h1]at h;have e:=dh h;exact#[by rw[B0 h0 h1,e],by omega,by lia,h1]
  ·rw[aD h1]at h;cases h
 ·rw[aD h0]at h;by_cases h1:-(n:Int)<=i
  ·rw[aB h1]at h;have e:=dh h;exact#[by rw[AA (by lia) h1,e],by lia,h1,by lia]
  ·rw[aD h1]at h;cases h
def tD{α:Type}{xs:M α}{i:Int}{v:α}(h:fQ xs i=Y v):∃j,seqIndex? i xs.length=Y j/\xs[j]?=Y v/\j<xs.length/\-(xs.length:Int)<=i/\i<xs.length:=by
 unfold fQ at h;cases e:gO xs.length i with
 |none=>rw[e]at h;cases h
 |some j=>
  rw[e]at h;let#[h1,h2,h3,h4]:=Lg e;exact#[j,h1,h,h2,h3,h4]
def kG{α:Type}{xs:M α}{j:L}{v:α}(h:xs[j]?=Y v):fQ xs (j:Int)=Y v:=by
 have hj:=(cS.mp h).1;have e:gO xs.length (j:Int)=Y j:=by
  unfold gO;rw[aB (by lia),aB (by lia)];simp
 unfold fQ;rw[e];exact h
def Lh(b:Expr):Prop:=∀o i,B3 b W o i=operate [o,i] (A8 o i)
def Li(X:Cx)(r:R2):Prop:=
 ∀(value slice:Expr) (pins:M (Addr×Obj)) (s:ak) (O:St) (H:Hp) (x y:V) (v u:S) (Q:VK),Inv X pins O H s->RelV x v->RelV y u->r x y H Q->
  B3 slice W v u=operate [v,u] (A8 v u)->aO (a7 X.prog X.w) X.A (GW value slice v u) (EP X pins O Q) X.xe s
section
variable{X:Cx}{a b:Expr}{ta tb:TE}{pos:Pos}
def abB(hr:Li X r)(ha:PE X a ta)(hb:PE X b tb)(hs:Lh b):PE X (.Subscript a b pos) (ZD r ta tb):=by
 intro pins s O H Q I h;exact D5 (SI ha hb I h λv u s2 x y H2 I2 rx ry q=>hr a b pins s2 O H2 x y v u Q I2 rx ry q (hs _ _))
def rIxL(K:aa):R2:=λx y H Q=>∃p xs i v,x=.ref p/\y=.int i/\iC K H p xs/\fQ xs i=Y v/\Q v H
def rIxT(K:aa):R2:=λx y H Q=>∃p xs i v,x=.ref p/\y=.int i/\l8 K H p xs/\fQ xs i=Y v/\Q v H
def rIxS:R2:=λx y H Q=>∃z i c,x=.str z/\y=.int i/\z.length<=ah/\fQ z.cps.toList i=Y c/\Q (.str ⟨#[c]⟩) H
def XF:Li X (rIxL X.K):=by
 intro value slice pins s O H x y v u Q I rx ry h hs;let#[p,xs,i,z,rfl,rfl,hq,he,q]:=h;cases rx;let#[t,rfl]:=ry;let#[its,r,pl,hz]:=I.list hq;let#[j,h1,h2,h3,h4,h5]:=tD he;let#[w,ew,rw']:=r.get h2;have hl:=r.length;have hn:=tS;have fin:EP X pins O Q w s:=#[z,H,I,rw',q];by_cases h0:0<=i
 ·have hj:i.toNat=j:=by
   rw[B0 h0 h5]at h1;exact dh h1
  exact item_listR pl.isList h0 (by lia) (by rw[hj];simpa using ew) fin hs
 ·have hj:(i+(its.toArray.size:Int)).toNat=j:=by
   rw[AA (by lia) h4]at h1;rw[bw,<-hl];exact dh h1
  exact vQ (x:=w) pl.isList.typeIs sy.lookup
   (wpAny_getItem_list_neg (Q:=λr s'=>r=w/\EP X pins O Q r s') pl.isList (by lia) (by rw[bw]<;>lia) (by lia) (by rw[hj];simpa using ew) #[rfl,fin]) hs
def ZT:Li X (rIxT X.K):=by
 intro value slice pins s O H x y v u Q I rx ry h hs;let#[p,xs,i,z,rfl,rfl,hq,he,q]:=h;cases rx;let#[t,rfl]:=ry;let#[its,r,pl,hz]:=I.tuple hq;let#[j,h1,h2,h3,h4,h5]:=tD he;let#[w,ew,rw']:=r.get h2;have hl:=r.length;have hn:=tS;have fin:EP X pins O Q w s:=#[z,H,I,rw',q];exact vQ (x:=w) pl.typeIs AB.lookup
  (getItem_tuple (j:=j) (Q:=λr s'=>r=w/\EP X pins O Q r s') pl (by lia) (by lia) (by simp_all) (by simpa using ew) #[rfl,fin]) hs
def ZU:Li X rIxS:=by
 intro value slice pins s O H x y v u Q I rx ry h hs;let#[z,i,c,rfl,rfl,hz,he,q]:=h;let#[t,rfl]:=rx;let#[t',rfl]:=ry;let#[j,h1,h2,h3,h4,h5]:=tD he;have hl:z.cps.toList.length=z.length:=by rfl
 rw[hl]at h1 h4 h5;have hn:=tS;exact J6 (ju s z t) CT.lookup (getItem_str (c:=c) (by
  have e1:decide (i < -(2 ^ 63:Int))=W:=aN (by lia);have e2:decide (i≥2 ^ 63)=W:=aN (by lia);rw[e1,e2,Bool.or_false]) (by rw[h1];simpa using h2) #[.str ⟨#[c]⟩,H,I.tok _,#[_,rfl],q]) hs
def ME(its:M S)(n j:L)(u:S):lF (·.setIfInBounds j u) { cls:=.type "list",data:=.seq its.toArray n }={ cls:=.type "list",data:=.seq (its.set j u).toArray n }:=by
 simp[lF]
def Inv.lst{pins:M (Addr×Obj)}{O:St}{H:Hp}{s:ak}{p:Addr}{xs:M V}(I:Inv X pins O H s)(h:H p=Y (.lst xs)):∃(its:M S) (n:L),bN xs its/\s.heap.get? p=Y { cls:=.type "list",data:=.seq its.toArray n }/\xs.length<=ah:=by
 let#[z,its,n,r,e]:=I.hok p _ h;exact#[its,n,r,e,z]
def Inv.ZV{O:St}{H:Hp}{s:ak}{p:Addr}{xs ys:M V}{its its':M S}{n n':L}{f:Obj->Obj}(I:Inv X pins O H s)(h:H p=Y (.lst xs))(ho:s.heap.get? p=Y { cls:=.type "list",data:=.seq its.toArray n })(hf:f { cls:=.type "list",data:=.seq its.toArray n }={ cls:=.type "list",data:=.seq its'.toArray n' })(r:bN ys its')(hz:ys.length<=ah)(t:L):Inv X pins O (upd H p (.lst ys)) { s with heap:=s.heap.update p f,toks:=t }:=by
 have e:(s.heap.update p f).get? p=Y { cls:=.type "list",data:=.seq its'.toArray n' }:=by
  rw[wQ f ho (by rw[hf]<;>rfl),hf]
 refine I.write (x:=p) (e:=p) (by rw[h];trivial) (.inl rfl) (λb u hb q=>(nT _ _ (fj hb)).trans q) #[_,e] ?_;exact#[hz,its',n',r,e]
def abC:V->V->V->Hp->(Hp->Prop)->Prop:=λo i v H Q=>∃p xs k j,o=.ref p/\i=.int k/\H p=Y (.lst xs)/\gO xs.length k=Y j/\Q (upd H p (.lst (xs.set j v)))
def set_list:SD X abC:=by
 intro pins s O H o i v ov iv u Q I ro ri rv h;let#[p,xs,k,j,rfl,rfl,hp,hj,q]:=h;cases ro;let#[t,rfl]:=ri;let#[its,n,r,ho,hz]:=I.lst hp;let#[h1,h2,h3,h4]:=Lg hj;have hl:=r.length;have hn:=tS;have I':Inv X pins O (upd H p (.lst (xs.set j v))) { s with heap:=s.heap.update p (lF (·.setIfInBounds j u)) }:=
  I.ZV hp ho (ME its n j u) (r.set rv j) (by rw[vo];exact hz) s.toks
 by_cases h0:0<=k
 ·have hk:k.toNat=j:=by
   rw[B0 h0 h4]at h1;exact dh h1
  exact V_ ho h0 (by lia) (by rw[bw,<-hl];exact h4) (by rw[hk];exact#[_,I',q])
 ·have hk:(k+(its.toArray.size:Int)).toNat=j:=by
   rw[AA (by lia) h3]at h1;rw[bw,<-hl];exact dh h1
  exact Sa ho (by lia) (by rw[bw,<-hl];exact h3) (by lia) (by rw[hk];exact#[_,I',q])
def HN(lo hi:aaV Int)(n:L):(gW lo hi B n).1=((HT.lX n 0 lo:L):Int)/\(gW lo hi B n).2.1=((HT.lX n n hi:L):Int)/\(gW lo hi B n).2.2=1:=by
 refine#[?_,?_,rfl]
 ·cases lo with
  |none=>rfl
  |some i=>
   simp only[gW,HT.lX,CU,show(1:Int)>0 by decide,ie];by_cases h:i<0
   ·simp only[h,ie]<;>lia
   ·simp only[h,uz]<;>lia
 ·cases hi with
  |none=>rfl
  |some i=>
   simp only[gW,HT.lX,CU,show(1:Int)>0 by decide,ie];by_cases h:i<0
   ·simp only[h,ie]<;>lia
   ·simp only[h,uz]<;>lia
def GB(its:M S)(lo hi:aaV Int):AD its.toArray lo hi B=((its.drop (HT.lX its.length 0 lo)).take (HT.lX its.length its.length hi-HT.lX its.length 0 lo)).toArray:=by
 let#[h1,h2,h3]:=HN lo hi its.toArray.size;unfold AD;rw[h1,h2,h3];simp only[sliceRange_one,pick_run,bw]<;>rfl
def rSlL(K:aa):V->aaV Int->aaV Int->Hp->VK->Prop:=λx lo hi H Q=>∃a xs,x=.ref a/\iC K H a xs/\∀p,H p=B->Q (.ref p) (upd H p (.lst (MD xs lo hi)))
def XG:ZS X (rSlL X.K):=by
 intro pins s O H x v vl vu lo hi sl Q I rx hs pl pu h;let#[a,xs,rfl,hx,q]:=h;cases rx;let#[its,r,ht,hz]:=I.list hx;have hlen:=r.length;refine#["list",_,sy.lookup,ht.isList.typeIs,?_];refine uA ht.isList hs pl pu .none (by simp) ?_ (by simp_all);rw[GB,<-hlen];refine#[.ref s.heap.objs.size,_,I.laid (t':=s.toks) (o:=.lst (MD xs lo hi)) (λb ob q=>aE _ q) (aW _) ?_,rfl,q _ (I.hok.fresh (aW _))];exact#[fJ (Ks xs lo hi) hz,_,0,(r.drop (HT.lX xs.length 0 lo)).take (HT.lX xs.length xs.length hi-HT.lX xs.length 0 lo),bD _ rfl]
def HP:nY X (.builtin "len") (λxs H Q=>∃p ys,xs=[.ref p]/\(iC X.K H p ys\/l8 X.K H p ys)/\Q (.int ys.length) H):=by
 intro pins s O H xs us Q I r h;let#[p,ys,rfl,hq,q]:=h;let#[u,rfl,rx]:=vals1 r;cases rx;have hn:=tS;rcases hq with hq|hq
 ·let#[its,r',pl,hz]:=I.list hq;have hlen:=r'.length;exact Calls.call_len_list pl.isList (by simp only[bw]<;>lia) #[.int ys.length,H,I.tok _,#[s.toks+1,by rw[bw,hlen]],q]
 ·let#[its,r',pl,hz]:=I.tuple hq;have hlen:=r'.length;exact len_tuple pl (by simp only[bw]<;>lia) #[.int ys.length,H,I.tok _,#[s.toks+1,by rw[bw,hlen]],q]
def HQ:nY X (.builtin "len") (λxs H Q=>∃z,xs=[.str z]/\z.length<=ah/\Q (.int z.length) H):=by
 intro pins s O H xs us Q I r h;let#[z,rfl,hz,q]:=h;let#[u,rfl,t,rfl]:=vals1 r;have hn:=tS;exact len_str (by lia) #[.int z.length,H,I.tok _,#[_,rfl],q]
def OO(K:aa)(T:String)(x:V)(H:Hp):Prop:=match x with
|.str _=>T="str"
|.int _=>T="int"
|.ref p=>(T="list"/\∃xs,iC K H p xs)\/(T="tuple"/\∃o,K.lookup p=Y o/\o.cls=.type "tuple"/\o.dict=B) \/
  (T="dict"/\((∃kvs,H p=Y (.dK kvs))\/∃kvs,H p=Y (.dT kvs)))\/(T="set"/\∃aaU n,H p=Y (.set aaU n))
|_=>aR
def Dd(I:Inv X pins O H s)(r:RelV x v)(ty:OO X.K T x H):s.TypeIs v T/\∀a,v=.ref a->∃ob,s.heap.get? a=Y ob/\ob.dict=B:=by
 cases x with
 |str z=>
  let#[t,rfl]:=r;cases(show T="str" from ty);exact#[ju s z t,λ_ e=>nomatch e]
 |int i=>
  let#[t,rfl]:=r;cases(show T="int" from ty);exact#[D6 s i t,λ_ e=>nomatch e]
 |ref p=>
  cases r;rcases ty with⟨rfl,xs,hq⟩|⟨rfl,o,hk,hc,hd⟩|⟨rfl,hk⟩|⟨rfl,aaU,n,hk⟩
  ·let#[its,_,pl,_]:=I.list hq;refine#[pl.isList.typeIs,λa e=>?_];cases e;let#[o,n,e,c,hd,_]:=pl;exact#[o,e,hd]
  ·refine#[#[o,I.jN p o hk,hc],λa e=>?_];cases e;exact#[o,I.jN _ o hk,hd]
  ·have z:∃o,s.heap.get? p=Y o/\o.ExactDict:=by
    rcases hk with⟨kvs,hk⟩|⟨kvs,hk⟩
    ·let#[_,_,_,_,o,_,_,e,ex,_]:=I.hok p _ hk;exact#[o,e,ex]
    ·let#[_,_,_,_,o,_,_,e,ex,_]:=I.hok p _ hk;exact#[o,e,ex]
   let#[o,e,ex]:=z;refine#[#[o,e,ex.1],λa e2=>?_];cases e2;exact#[o,e,ex.2.1]
  ·let#[o,_,_,_,e,ex,_]:=I.hok p _ hk;refine#[#[o,e,ex.1],λa e2=>?_];cases e2;exact#[o,e,ex.2.1]
 |_=>exact aJ ty
variable{o e:Expr}{es:M Expr}{to:TE}{t:TA}{name:Str}{apos cpos:Pos}{T id:String}{r:V->M V->Hp->VK->Prop}
end
end L2
namespace L2
open PySem PySem.Spec PyProof.Rows
def Wi(X:Cx)(id:String)(r:V->M V->Hp->VK->Prop):Prop:=
 ∀(pins:M (Addr×Obj)) (s:ak) (O:St) (H:Hp) (x:V) (xs:M V) (v:S) (us:M S) (Q:VK),Inv X pins O H s->RelV x v->bN xs us->r x xs H Q->
  aO (a7 X.prog X.w) X.A (call (.builtin id) (v::us)) (EP X pins O Q) X.xe s
def bN.one:∀{x:V}{us:M S},bN [x] us->∃u,us=[u]/\RelV x u
|_,_,.cons r .nil=>#[_,rfl,r]
def bN.zero:∀{us:M S},bN [] us->us=[]
|_,.nil=>rfl
def bN.dropLast(h:bN xs us):bN xs.dropLast us.dropLast:=by
 induction h with
 |nil=>exact .nil
 |cons r t ih=>
  cases t with
  |nil=>exact .nil
  |cons q t'=>exact .cons r ih
theorem bN.rep(h:bN xs us):∀k:L,bN (a8 k xs).flatten (a8 k us).flatten
|0=>.nil
|k+1=>by
 rw[cI,cI,eK,eK];exact bN.append h (bN.rep h k)
def MF{α:Type}(l:M α):l.eraseIdx (l.length-1)=l.dropLast:=by
 induction l with
 |nil=>rfl
 |cons a r ih=>
  cases r with
  |nil=>rfl
  |cons b r=>
   have e:(a::b::r).length-1=((b::r).length-1)+1:=by
    have h1:(a::b::r).length=r.length+2:=rfl;have h2:(b::r).length=r.length+1:=rfl
    lia
   rw[e,List.eraseIdx_cons_succ,ih]
   all_goals rfl
theorem foldl_rep(its:M S):∀(k:L) (acc:M S),
 D7 (λx1 x2=>x1++x2) acc.toArray (a8 k its.toArray)=(acc++(a8 k its).flatten).toArray
|0,acc=>by simp
|k+1,acc=>by
 have e:acc.toArray++its.toArray=(acc++its).toArray:=by simp
 have e2:(acc++its)++(a8 k its).flatten=acc++(a8 (k+1) its).flatten:=by grind
 rw[<-e2,<-foldl_rep its k (acc++its),<-e,cI,D8]
section
variable{X:Cx}{pins:M (Addr×Obj)}{O:St}{H:Hp}{s:ak}{l b:Addr}{xs ys zs:M V}
def Inv.MG{its its':M S}{f:Array S->Array S}{t':L}(I:Inv X pins O H s)(hH:H l=Y (.lst xs))(e:s.heap.get? l=Y { cls:=.type "list",data:=.seq its.toArray n })(hf:f its.toArray=its'.toArray)(hv:bN ys its')(hz:ys.length<=ah):Inv X pins O (upd H l (.lst ys)) { s with heap:=s.heap.update l (lF f),toks:=t' }:=by
 have q:=CV e f;rw[hf]at q;refine I.write (x:=l) (e:=l) (by rw[hH];exact trivial) (.inl rfl) (λb' u hb hu=>(nT s.heap (lF f) (fj hb)).trans hu) #[_,q] ?_;exact#[hz,its',_,hv,q]
def Inv.MH{t':L}(I:Inv X pins O H s)(hv:bN ys its)(hz:ys.length<=ah):Inv X pins O (upd H s.heap.objs.size (.lst ys)) { s with heap:=s.heap.push { cls:=.type "list",data:=.seq its.toArray },toks:=t' }:=
 I.laid (λ_ _ q=>aE _ q) (aW _) #[hz,its,0,hv,bD _ rfl]
def Inv.fresh(I:Inv X pins O H s):H s.heap.objs.size=B:=I.hok.fresh (aW _)
def Inv.HR(I:Inv X pins O H s)(hH:H l=Y (.lst xs)):xs.length<=ah/\∃(its:M S) (n:L),bN xs its/\xs.length=its.length/\s.heap.get? l=Y { cls:=.type "list",data:=.seq its.toArray n }:=by
 let#[z,its,n,r,e]:=I.hok l _ hH;exact#[z,its,n,r,r.length,e]
def HS(h:n<=ah):mK n=W:=by
 exact aN (by lia)
end
section
variable{X:Cx}
def XH:V->M V->Hp->VK->Prop:=λx vs H Q=>∃l xs y,x=.ref l/\vs=[y]/\H l=Y (.lst xs)/\xs.length<ah/\Q .non (upd H l (.lst (xs++[y])))
def OP:Wi X "list.append" XH:=by
 intro pins s O H x vs v us Q I rx rv h;let#[l,xs,y,rfl,rfl,hH,hz,q]:=h;cases rx;let#[u,rfl,ru]:=rv.one;let#[z,its,n,r,hl,e]:=I.HR hH;refine gb F.slot_list_append #[_,e,rfl] F.entry_list_append (F.args_list_append_2 _ _) (Bg l its.toArray n u (by simp_all)) #[e,?_];refine#[.non,_,I.MG (its':=its++[u]) hH e (by simp) (r.append (.cons ru .nil)) ?_,rfl,q];rw[ao,bJ]
 lia
def XI:V->M V->Hp->VK->Prop:=λx vs H Q=>∃l b xs zs,x=.ref l/\vs=[.ref b]/\H l=Y (.lst xs)/\H b=Y (.lst zs)/\xs.length+zs.length<=ah/\Q .non (upd H l (.lst (xs++zs)))
def OQ:Wi X "list.extend" XI:=by
 intro pins s O H x vs v us Q I rx rv h;let#[l,b,xs,zs,rfl,rfl,hH,hB,hz,q]:=h;cases rx;let#[u,rfl,ru]:=rv.one;cases ru;let#[z,its,n,r,hl,e]:=I.HR hH;let#[z2,its2,n2,r2,hl2,e2]:=I.HR hB;have hsz:its.toArray.size+its2.toArray.size<=ah:=by grind
 have hlong:¬(!its.toArray.isEmpty&&mK (its.toArray.size+its2.toArray.size))=J:=by
  rw[HS hsz,wR];exact bq
 refine gb F.slot_list_extend #[_,e,rfl] F.entry_list_extend (F.args_list_extend_2 _ _)
  (CW l its.toArray n b its2.toArray n2 hlong (by lia) (by lia)) #[e,e2,?_]
 refine#[.non,_,I.MG (its':=its++its2) hH e (by simp) (r.append r2) ?_,rfl,q];rw[ao];omega
def rPop:V->M V->Hp->VK->Prop:=λx vs H Q=>∃l xs y,x=.ref l/\vs=[]/\H l=Y (.lst xs)/\xs[xs.length-1]?=Y y/\Q y (upd H l (.lst xs.dropLast))
def ZW:Wi X "list.pop" rPop:=by
 intro pins s O H x vs v us Q I rx rv h;let#[l,xs,y,rfl,rfl,hH,hy,q]:=h;cases rx;have hus:=rv.zero;subst hus;let#[z,its,n,r,hl,e]:=I.HR hH;let#[u,hu,ru]:=r.get hy;have hy':its.toArray[its.toArray.size-1]?=Y u:=by
  show its.toArray[its.length-1]?=Y u;rw[<-wU,<-hl];exact hu
 refine gb F.slot_list_pop #[_,e,rfl] F.entry_list_pop (F.args_list_pop_1 _) (K1 l its.toArray n u hy' (by rw[bw];lia)) #[e,?_];refine#[y,_,I.MG (its':=its.dropLast) hH e ?_ r.dropLast ?_,ru,q]
 ·rw[bw,List.eraseIdxIfInBounds_toArray,MF]
 ·rw[List.length_dropLast];omega
def ZX:V->M V->Hp->VK->Prop:=λx vs H Q=>∃l xs,x=.ref l/\vs=[]/\H l=Y (.lst xs)/\Q .non (upd H l (.lst []))
def SN:Wi X "list.clear" ZX:=by
 intro pins s O H x vs v us Q I rx rv h;let#[l,xs,rfl,rfl,hH,q]:=h;cases rx;have hus:=rv.zero;subst hus;let#[z,its,n,r,hl,e]:=I.HR hH;refine gb F.slot_list_clear #[_,e,rfl] F.entry_list_clear (F.args_list_clear_1 _) (GX l its.toArray n (by rw[bw];lia)) #[e,?_];exact#[.non,_,I.MG (its':=[]) (ys:=[]) hH e rfl .nil (iE _),rfl,q]
def len_rep{α:Type}(xs:M α)(k:L):(a8 k xs).flatten.length=k*xs.length:=by simp
end
end L2
end
section
namespace L2
open PySem PySem.Spec PyProof.Rows
section
variable{κ:Type} [kj κ]
noncomputable def jQ(kvs:M (κ×V))(k:κ):aaV V:=(kvs.find? λkv=>decide (kv.1=k)).map (·.2)
noncomputable def putK(kvs:M (κ×V))(k:κ)(v:V):M (κ×V):=
 if(kvs.any λkv=>decide (kv.1=k))=J then kvs.map (λkv=>if kv.1=k then(kv.1,v)else kv)else kvs++[(k,v)]
def B8{p:κ×V}(e:p.1=k):jQ (p::r) k=Y p.2:=by simp[jQ,j3,e]
def B9{p:κ×V}(e:¬p.1=k):jQ (p::r) k=jQ r k:=by simp[jQ,j3,e]
theorem HU(k:κ):∀kvs:M (κ×V),(kvs.any λkv=>decide (kv.1=k))=(jQ kvs k).isSome
|[]=>rfl
|p::r=>by
 rw[yG];by_cases e:p.1=k
 ·simp only[B8 e,aC e,J7,AE]
 ·rw[B9 e,aN e,Bool.false_or];exact HU k r
def Br(kvs:M (κ×V))(k:κ)(v:V):(putK kvs k v).length<=kvs.length+1:=by
 unfold putK;split
 ·simp
 ·simp
def o5.rE(r:o5 o u):o.isSome=u.isSome:=by
 cases o with
 |none=>cases u with
  |none=>rfl
  |some _=>exact(show aR from r).elim
 |some _=>cases u with
  |none=>exact(show aR from r).elim
  |some _=>rfl
def KV.val{kvs:M (κ×V)}(r:KV kvs vs)(k:κ):o5 (jQ kvs k) (tP vs k):=by
 induction r with
 |nil=>exact gI
 |@cons p q ps qs h t ih=>
  let#[h1,h2]:=h;by_cases e:p.1=k
  ·have e':=h1.symm.trans e;have b:tP (q::qs) k=Y q.2:=by simp[tP,j3,e']
   rw[B8 e,b];exact h2
  ·have e':¬q.1=k:=λz=>e (h1.trans z);have b:tP (q::qs) k=tP qs k:=by simp[tP,j3,e']
   rw[B9 e,b];exact ih
def KV.any(r:KV kvs vs)(k:κ):(kvs.any λkv=>decide (kv.1=k))=vs.any λkv=>decide (kv.1=k):=by
 induction r with
 |nil=>rfl
 |cons h t ih=>simp_all
def KV.repl(r:KV kvs vs)(k:κ)(ry:RelV y u):KV (kvs.map λkv=>if kv.1=k then(kv.1,y)else kv) (vs.map λkv=>if kv.1=k then(kv.1,u)else kv):=by
 induction r with
 |nil=>exact .nil
 |@cons p q ps qs h t ih=>
  rw[dm,dm];refine .cons ?_ ih;let#[h1,h2]:=h;by_cases e:p.1=k
  ·rw[aB e,aB (h1.symm.trans e)];exact#[h1,ry]
  ·rw[aD e,aD (λz=>e (h1.trans z))];exact#[h1,h2]
def KV.put(r:KV kvs vs)(k:κ)(ry:RelV y u):KV (putK kvs k y) (stored vs k u):=by
 unfold putK stored;rw[r.any k];by_cases e:(vs.any λkv=>decide (kv.1=k))=J
 ·rw[aB e,aB e];exact r.repl k ry
 ·rw[aD e,aD e];exact Paired.snoc r #[rfl,ry]
def KV.length(r:KV kvs vs):kvs.length=vs.length:=Paired.length r
end
def AQ(r:RelV (kV k) u):(iw P w).is k u=J:=by
 cases k with
 |inl i=>let#[t,e]:=(show ∃t,u=rK i t from r);subst e;exact Bp P w i t
 |inr x=>let#[t,e]:=(show ∃t,u=rL x t from r);subst e;exact Bq P w x t
theorem Fc:∀{ks:M Key}{us:M S},bN (ks.map kV) us->ItemsAre (iw P w) ks us
|[],_,r=>by rw[J8]at r;cases r;exact .nil
|k::ks,_,r=>by
 rw[dm]at r;cases r with
 |cons h t=>exact .cons (AQ h) (Fc t)
abbrev KT(H:Hp):M (M Key×V)->M (M Key×Addr×S)->Prop:=Paired λp q=>p.1=q.1/\H q.2.1=Y (.tup (p.1.map kV))/\RelV p.2 q.2.2
def KT.val{H:Hp}(r:KT H kvs xs)(k:M Key):o5 (jQ kvs k) ((vp xs k).map (·.2)):=by
 induction r with
 |nil=>exact gI
 |@cons p q ps qs h t ih=>
  let#[h1,_,h2]:=h;by_cases e:p.1=k
  ·have e':=h1.symm.trans e;have b:vp (q::qs) k=Y q.2:=by simp[vp,j3,e']
   rw[B8 e,b];exact h2
  ·have e':¬q.1=k:=λz=>e (h1.trans z);have b:vp (q::qs) k=vp qs k:=by simp[vp,j3,e']
   rw[B9 e,b];exact ih
def KT.repl(r:KT H kvs xs)(k:M Key)(ry:RelV y u):KT H (kvs.map λkv=>if kv.1=k then(kv.1,y)else kv) (xs.map (putAt k u)):=by
 induction r with
 |nil=>exact .nil
 |@cons p q ps qs h t ih=>
  rw[dm,dm];refine .cons ?_ ih;let#[h1,h2,h3]:=h;unfold putAt;by_cases e:p.1=k
  ·rw[aB e,aB (h1.symm.trans e)];exact#[h1,h2,ry]
  ·rw[aD e,aD (λz=>e (h1.trans z))];exact#[h1,h2,h3]
def KT.put(r:KT H kvs xs)(k:M Key)(hb:H b=Y (.tup (k.map kV)))(ry:RelV y u):KT H (putK kvs k y) (storedH xs k b u):=by
 have e:(kvs.any λkv=>decide (kv.1=k))=(vp xs k).isSome:=by
  rw[HU,(r.val k).rE,sA]
 unfold putK storedH;rw[e];by_cases q:(vp xs k).isSome=J
 ·rw[aB q,aB q];exact r.repl k ry
 ·rw[aD q,aD q];exact Paired.snoc r #[rfl,hb,ry]
def KT.keeps(r:KT H kvs xs)(ht:∀b ys,H b=Y (.tup ys)->H' b=Y (.tup ys)):KT H' kvs xs:=
 Paired.Sw r λ_ _ z=>#[z.1,ht _ _ z.2.1,z.2.2]
section
variable{P:bM}{w:bL}{H:Hp}{h:Heap}{a:Addr}
def Wj(ok:gJ P w H h)(e:Rd H a u):fq P w H h a u:=e.ok ok
def AR(ok:gJ P w H h)(e:Rd H a (.dK kvs)):kvs.length<=ah/\(a==lB)=W/\∃vs,KV kvs vs/\h.DictOf (iw P w) a vs:=
 show fq P w H h a (.dK kvs)from Wj ok e
def abD(ok:gJ P w H h)(e:H a=Y (.dK kvs)):kvs.length<=ah/\(a==lB)=W/\∃vs,KV kvs vs/\h.DictOf (iw P w) a vs:=AR ok (.inl e)
def yT(ok:gJ P w H h)(e:H a=Y (.tup (ks.map kV))):(vg (iw P w)).is h ks a:=by
 let#[_,its,r,o,h1,h2,n,h3]:=(show fq P w H h a (.tup (ks.map kV))from ok a _ e);exact#[o,its.toArray,n,h1,h2,h3,by simpa using Fc r]
def De(ok:gJ P w H h)(e:Rd H a (.dT kvs)):kvs.length<=ah/\(a==lB)=W /\
  ∃xs,KT H kvs xs/\h.DictOfH (vg (iw P w)) a xs:=by
 let#[z,y,xs,r,o,es,ep,h1,h2,h3,h4,h5]:=(show fq P w H h a (.dT kvs)from Wj ok e);refine#[z,y,xs,r,o,es,ep,h1,h2,h3,h4,λx hx=>?_,h5];have all:∀{l:M (M Key×V)}{m:M (M Key×Addr×S)},KT H l m->∀x∈m,(vg (iw P w)).is h x.1 x.2.1:=by
  intro l m q;induction q with
  |nil=>grind
  |@cons p q ps qs hq t ih=>
   intro x hx;rcases aM.mp hx with e|hx
   ·subst e;exact yT ok (by rw[<-hq.1];exact hq.2.1)
   ·exact ih x hx
 exact all r x hx
def abE(ok:gJ P w H h)(e:H a=Y (.dT kvs)):kvs.length<=ah/\(a==lB)=W /\
  ∃xs,KT H kvs xs/\h.DictOfH (vg (iw P w)) a xs:=De ok (.inl e)
end
def HV(H:Hp)(a:Addr)(y:V)(r:aaV V):Prop:=
 (∃kvs k,Rd H a (.dK kvs)/\y=kV k/\r=jQ kvs k)\/∃kvs k b,Rd H a (.dT kvs)/\y=.ref b/\H b=Y (.tup (k.map kV))/\r=jQ kvs k
def DPut(H:Hp)(a:Addr)(y v:V)(H':Hp):Prop:=
 (∃kvs k,H a=Y (.dK kvs)/\y=kV k/\kvs.length<ah/\H'=upd H a (.dK (putK kvs k v))) \/
 ∃kvs k b,H a=Y (.dT kvs)/\y=.ref b/\H b=Y (.tup (k.map kV))/\kvs.length<ah/\H'=upd H a (.dT (putK kvs k v))
section
variable{X:Cx}{pins:M (Addr×Obj)}{O:St}{H:Hp}{s:ak}{a:Addr}{y v:V}{u r:S}{o:aaV V}{A:cR}{E:S->ak->Prop}
def OR{Q:S->ak->Prop}(hu:A.units+1<eB)(I:Inv X pins O H s)(g:HV H a y (Y v))(ry:RelV y u)(h:∀w' s',Inv X pins O H s'->RelV v w'->Q w' s'):aO (a7 X.prog X.w) A (A8 (.ref a) u) Q E s:=by
 rcases g with⟨kvs,k,e,ey,l⟩|⟨kvs,k,b,e,ey,eb,l⟩
 ·subst ey;let#[z,hd,vs,rel,dd]:=AR I.hok e;let#[w',hw,rw']:=o5.some_of (v:=v) (o:=tP vs k) (by rw[l];exact rel.val k);exact wpAny_getItem_of (AQ ry) dd.mapOf hw (h w' _ (I.tok _) rw')
 ·subst ey;cases(show u=c8 b from ry);let#[z,hd,xs,rel,dd]:=De I.hok e;let#[w',hw,rw']:=o5.some_of (v:=v) (o:=(vp xs k).map (·.2)) (by rw[l];exact rel.val k);let#[p,hp,hp2]:=Option.map_eq_some_iff.mp hw;refine wpAny_getItem_heap (mL hu) (yT I.hok eb) dd hp ?_;rw[hp2];exact h w' _ (I.tok _) rw'
def ZY{Q:S->ak->Prop}(hu:A.units+1<eB)(I:Inv X pins O H s)(g:HV H a y o)(ry:RelV y u)(h:∀s',Inv X pins O H s'->Q (.bool o.isSome) s'):aO (a7 X.prog X.w) A (gR .In u (.ref a)) Q E s:=by
 rcases g with⟨kvs,k,e,ey,l⟩|⟨kvs,k,b,e,ey,eb,l⟩
 ·subst ey;let#[z,hd,vs,rel,dd]:=AR I.hok e;refine wpAny_in_of (AQ ry) hd dd.mapOf ?_;rw[<-(rel.val k).rE,<-l];exact h _ (I.tok _)
 ·subst ey;cases(show u=c8 b from ry);let#[z,hd,xs,rel,dd]:=De I.hok e;refine wpAny_in_heap (mL hu) (yT I.hok eb) hd dd ?_;have q:=(rel.val k).rE;rw[sA]at q;rw[<-q,<-l];exact h _ (I.tok _)
def Lj{Q:S->ak->Prop}(hu:A.units+1<eB)(I:Inv X pins O H s)(g:HV H a y o)(ry:RelV y u)(h:∀s',Inv X pins O H s'->Q (.bool (!o.isSome)) s'):aO (a7 X.prog X.w) A (gR .NotIn u (.ref a)) Q E s:=by
 rcases g with⟨kvs,k,e,ey,l⟩|⟨kvs,k,b,e,ey,eb,l⟩
 ·subst ey;let#[z,hd,vs,rel,dd]:=AR I.hok e;refine wpAny_notIn_of (AQ ry) hd dd.mapOf ?_;rw[<-(rel.val k).rE,<-l];exact h _ (I.tok _)
 ·subst ey;cases(show u=c8 b from ry);let#[z,hd,xs,rel,dd]:=De I.hok e;refine wpAny_notIn_heap (mL hu) (yT I.hok eb) hd dd ?_;have q:=(rel.val k).rE;rw[sA]at q;rw[<-q,<-l];exact h _ (I.tok _)
def Ll{t':L}(I:Inv X pins O H s)(mu:Oo (H a))(hs:mG a s.heap h')(he:∃q,h'.get? a=Y q)(new:fq X.prog X.w (upd H a ob) h' a ob):Inv X pins O (upd H a ob) { s with heap:=h',toks:=t' }:=
 I.write (x:=a) (e:=a) mu (.inl rfl) (λb q hb z=>(hs.2 b hb).trans z) he new
def ZZ(z:kvs.length<=ah)(hd:(a==lB)=W)(rel:KV kvs vs)(dd:h'.DictOf (iw P w) a vs):fq P w H' h' a (.dK kvs):=#[z,hd,vs,rel,dd]
def Fd{Q:Unit->ak->Prop}(hu:A.units+1<eB)(I:Inv X pins O H s)(g:DPut H a y v H')(ry:RelV y u)(rv:RelV v r)(h:∀s',Inv X pins O H' s'->Q () s'):aO (a7 X.prog X.w) A (Mn (.ref a) u r) Q E s:=by
 rcases g with⟨kvs,k,e,ey,l,eH⟩|⟨kvs,k,b,e,ey,eb,l,eH⟩
 ·subst ey eH;let#[z,hd,vs,rel,dd]:=abD I.hok e;have hz:vs.length<=ah:=by rw[<-rel.length];exact z
  have hl:(putK kvs k v).length<=ah:=by have:=Br kvs k v;lia
  refine wpAny_setItem_pairs (hsz:=hz) (AQ ry) dd λh' dd' hs=>h _ ?_;have he:∃q,h'.get? a=Y q:=let⟨q,_,_,hq,_⟩:=dd';#[q,hq]
  exact Ll I (by rw[e];exact gI) hs he (ZZ hl hd (rel.put k rv) dd')
 ·subst ey eH;cases(show u=c8 b from ry);let#[z,hd,xs,rel,dd]:=abE I.hok e;have hz:xs.length<=ah:=by rw[<-Paired.length rel];exact z
  have hl:(putK kvs k v).length<=ah:=by have:=Br kvs k v;lia
  refine wpAny_setItem_heap (hsz:=hz) (mL hu) (yT I.hok eb) dd λh' dd' hs=>h _ ?_;let#[q,es,ep,hq,h2,h3,h4,_,h5]:=dd';refine Ll I (by rw[e];exact gI) hs #[q,hq] #[hl,hd,_,(rel.put k eb rv).keeps λc ys ec=>?_,q,es,ep,hq,h2,h3,h4,h5];rw[bf (abk ec e (λz=>nomatch z))];exact ec
end
section
variable{X:Cx}{pins:M (Addr×Obj)}{O:St}{H:Hp}{s:ak}{a:Addr}{kvs:M (Key×V)}{k:Key}{u:S}{A:cR}{E:S->ak->Prop}
def abF{Q:S->ak->Prop}(I:Inv X pins O H s)(e:Rd H a (.dK kvs))(h:∀t s',Inv X pins O H s'->Q (.int kvs.length t) s'):aO (a7 X.prog X.w) A (call (.builtin "len") [.ref a]) Q E s:=by
 let#[z,hd,vs,rel,dd]:=AR I.hok e;refine call_len_dict hd dd (by rw[<-rel.length];rw[fN]at z;lia) ?_;rw[<-rel.length];exact h _ _ (I.tok _)
end
def Ku(I:Inv X pins O H s)(g:HV H a y o):s.TypeIs (.ref a) "dict":=by
 rcases g with⟨kvs,k,e,_,_⟩|⟨kvs,k,b,e,_,_,_⟩
 ·let#[_,_,vs,_,dd]:=AR I.hok e;exact dd.typeIs
 ·let#[_,_,xs,_,dd]:=De I.hok e;exact dd.typeIs
end L2
end
section
namespace Att
open PySem PySem.W PySem.Calls PyProof.Rows
def Df:∀(ns:M Int) (vs:M S),WellAll P h vs (ns.map Sb)->A9 vs ns:=by
 intro ns;induction ns with
 |nil=>
  intro vs w;rw[J8]at w;cases w;exact .nil
 |cons n ns ih=>
  intro vs w;rw[dm]at w;cases w with
  |cons a b=>
   cases a;exact .cons _ _ (ih _ b)
def OS{l:Mq}(hn:l.most=Y n)(hpre:l.row.toRowW.claim.pre args=J)(hwl:WellAll P h vals args):∃a vs ns,vals=[c8 a]/\args=[WData.list (ns.map Sb)]/\h.get? a=Y { cls:=.type "list",data:=.seq vs.toArray }/\A9 vs ns/\ns.length<=n:=by
 have hsh:=(N8 hpre).1;have hc:=(N8 hpre).2;let#[d,r,rfl,h1,h2]:=hasAllW_cons hsh;obtain rfl:=hasAllW_nil h2;let#[xs,rfl,h3]:=hasW_list h1;let#[ns,rfl]:=items_int h3;have hlen:ns.length<=n:=by
  have h4:(WTm.not (.lt (.lit (.int (n:Int))) (.len (.arg 0)))).holds [] { args:=[.list (ns.map .int)] }=J:=by
   have h4:=(holds_andW hc).1;rw[hn]at h4;exact h4
  have h5:=condW_of h4 (w_not (w_lt w_lit (w_len_list (w_arg rfl))));rw[ay]at h5;refine Nat.le_of_not_lt λq=>?_;have q':(n:Int)<((ns.length:L):Int):=by omega
  (rw[aC q']at h5;exact aG h5 (by decide))
 cases hwl with
 |cons w1 w2=>
  cases w2;cases w1 with
  |list ho hall=>exact#[_,_,ns,rfl,rfl,ho,Df ns _ hall,hlen]
def OT(l:Mq)(args:M WData):l.row.toRowW.claim.post args (.bool J) args=J:=
 postW_of (r:=l.row.toRowW) (X:=(J==J))
  (show N9 [] (.bool J) .bool=J by first|rfl|decide|simp[N9,WShape.arms,WShape.armsAll])
  (show(WTm.eq .res (.lit (.bool J))).value [] { args:=args,res:=Y (.bool J),after:=args }=Y (.bool (J==J))from w_eq_bool (w_res rfl) w_lit) rfl
def Kv{l:Mq}{XP:(Str->aaV S)->Heap->Prop}{YP:bL->Heap->Prop}(hn:l.most=Y n)(hdf:d.params.defaults=[])(call:∀(w:bL) (aet aev:ak) (mg mb:Str->aaV S) (fa:Addr) (o:Obj) (pm cd doc:S) (a:Addr) (vs:M S) (ns:M Int),
   Ground q loose [] XP w aet mg mb aev.heap->YP w aev.heap->
   aev.heap.get? fa=Y o->o.data=.func (docDef d.name d.params d.body d.scope pm cd doc)->aev.heap.CodeRec cd d.name->mg d.name=Y (.ref fa)->
   aev.heap.get? a=Y { cls:=.type "list",data:=.seq vs.toArray }->A9 vs ns->ns.length<=n->aev.gens=#[]->
   o4 (a7 l.prog w) tQ (.call (.ref fa) #[[.ref a],[]]) (λr s'=>r=.ok (.ret (.bool J))/\OldK aev.heap s'.heap/\s'.os=aev.os/\m6 s'.gens) aev):
  WalkO q loose XP YP l.row.toRowW d [] (λf vs=>D9 f vs):=by
 intro w aet aev mg mb G aap fa o pm cd doc dV kV ho hd hcd hD hmg hg args vals as hpre hlay hrd hwl hlo;obtain rfl:dV=.none:=Dflts.none hD hdf;obtain rfl:kV=.none:=Dflts.noKw hD;let#[a,vs,ns,rfl,rfl,hobj,hints,hlen]:=OS hn hpre hwl;refine enter_call (mJ (call w aet aev mg mb fa o pm cd doc a vs ns G aap ho (fd_plain hd) hcd hmg hobj hints hlen hg) λr s' hq=>?_);let#[rfl,h2,h3,h4]:=hq;exact#[.inl #[.bool J,.bool J,[],rfl,λ_=>rfl,.bool J,OT l _,λ_=>#[Su,λ_ hm=>(nomatch hm)]],h2,h3,h4]
end Att
namespace L2
open PySem PySem.Spec PyProof.Rows
theorem Fe:∀{vs:M S}{ns:M Int},A9 vs ns->bN (ns.map V.int) vs
|_,_,.nil=>.nil
|_,_,.cons n t h=>.cons #[t,rfl] (Fe h)
noncomputable def qJ(b:Addr):aaV HO:=(oS.lookup b).map λq=>.tbl #[.str q 0]
def SO(H:Hp):Prop:=∀b,(H b=B\/∃o xs,H b=Y (.bE o (.lst xs)))\/∃q,oS.lookup b=Y q/\H b=Y (.tbl #[.str q 0])
def Z0(K:aa)(h:Heap):Prop:=∀b q,oS.lookup b=Y q->K.lookup b=B/\h.get? b=Y { cls:=.none,data:=.fields #[] }/\isCodeTable h b
def OU(hn:(oS.map (·.1)).Nodup)(hp:p∈oS):oS.lookup p.1=Y p.2:=by
 generalize oS=l at hn hp;induction l with
 |nil=>cases hp
 |cons x l ih=>
  rw[dm,bF]at hn;rcases aM.mp hp with rfl|hp
  ·rw[dw];simp
  ·have ne:(p.1==x.1)=W:=by
    rw[cy];intro z;exact hn.1 (by rw[<-z];exact List.mem_map_of_mem hp)
   rw[dw,ne];exact ih hn.2 hp
def SQ{w:bL}{K:aa}{mg mb:Str->aaV S}{CX:yR}{k:L}{fa a:Addr}{fd:fC}{x:Str}{sp:Sp}{aev:ak}{vs:M S}{ns:M Int}(KX:K.In aev.heap)(hns:aev.heap.Ns fL mg)(hb:aev.heap.Ns mZ mb)(hbb:∀x:Str,x≠"__name__"->mb x=qt x)(hlim:aev.heap.NoLimit)(hbm:∃bm ob,mg "__builtins__"=Y (.ref bm)/\bm≠mZ/\aev.heap.get? bm=Y ob/\ob.cls=.type "module"/\ob.dict=Y mZ/\ob.data=.plain)(hg:aev.gens=#[])(ha:aev.heap.get? a=Y { cls:=.type "list",data:=.seq vs.toArray })(hi:A9 vs ns)(hl:ns.length<=ah)(hr:k8 k tQ)(F:∀base:Heap,K.In base->base.Ns fL mg->iF P w K mg base CX k fa fd [x] sp)(hbind:∀(s:ak) (u:S),A5 s fd #[[u],[]] [(x,u)])(hsp:∀H:Hp,SO H->iC K H a (ns.map V.int)->sp [.ref a] H (λv _=>v=.bl J) λ_ _ _=>aR)(hCX:∀H e s',CX [] H aev (λ_ _ _=>aR) e s'->aR)(hn:(oS.map (·.1)).Nodup)(ht:Z0 K aev.heap):o4 (a7 P w) tQ (.call (.ref fa) #[[.ref a],[]]) (λr s'=>r=.ok (.ret (.bool J))/\OldK aev.heap s'.heap/\s'.os=aev.os/\m6 s'.gens) aev:=by
 have rv:=Fe hi;have xh:=hi.length;have core:∀H:Hp,SO H->iC K H a (ns.map V.int)->gJ P w H aev.heap->(∀b,H b≠B->b=a\/∃q,oS.lookup b=Y q)->(H a≠B->K.lookup a=B)->Tb H->
   o4 (a7 P w) tQ (.call (.ref fa) #[[.ref a],[]]) (λr s'=>r=.ok (.ret (.bool J))/\OldK aev.heap s'.heap/\s'.os=aev.os/\m6 s'.gens) aev:=by
  intro H hO hS hok hA hK hTb;have base_of:∀{b:Addr}{o:Obj},aev.heap.get? b=Y o->H b=B->(w6 aev.heap H).get? b=Y o:=λe n=>Sx e n;have noA:∀{b:Addr}{o:Obj}{es:Array DictEntry}{ep:L},aev.heap.get? b=Y o->o.data=.dict es ep->H b=B:=λ{b o es ep} e d=>by
   cases q:H b with
   |none=>rfl
   |some u=>
    rcases hA b (by rw[q];simp)with e'|⟨z,e'⟩
    rotate_left 1
    ·rw[(ht b z e').2.1]at e;cases e;cases d
    subst e';rw[ha]at e;cases e;have d':=d;cases d'
  have nsK:∀{b:Addr}{m:Str->aaV S},aev.heap.Ns b m->(w6 aev.heap H).Ns b m:=λ{b m} ⟨o,es,ep,e,d,r⟩=>#[o,es,ep,base_of e (noA e d),d,r];have hKb:K.In (w6 aev.heap H):=λb o e=>base_of (KX b o e) (by
   cases q:H b with
   |none=>rfl
   |some u=>
    rcases hA b (by rw[q];simp)with e'|⟨z,e'⟩
    rotate_left 1
    ·rw[(ht b z e').1]at e;cases e
    subst e';rw[hK (by rw[q];simp)]at e;cases e)
  have hM:Mod K mg (w6 aev.heap H):=#[hKb,nsK hns,#[mb,nsK hb,hbb],let⟨mc,h1,h2⟩:=hlim;#[mc,nsK h1,h2],let⟨bm,ob,b1,b2,b3,b4,b5,b6⟩:=hbm;#[bm,ob,b1,b2,base_of b3 (by
   cases q:H bm with
   |none=>rfl
   |some u=>
    rcases hA bm (by rw[q];simp)with e'|⟨z,e'⟩
    ·rw[e',ha]at b3;cases b3;cases b6
    ·rw[(ht bm z e').2.1]at b3;cases b3;cases b6),b4,b5,b6]]
  have e0:HL P w K mg (w6 aev.heap H) tQ [] aev H:=#[rfl,hM,λb o e=>Xp e,AF (Oq _ _),trivial,#[λb hb=>aG (show b∈([]:M Addr)from hb) (by simp),hTb],hok,.of_eq hg];refine mJ ((F _ hKb (nsK hns)).run tQ [] aev H #[[.ref a],[]] [.ref a] [.ref a] _ _ hr e0 (hbind aev (.ref a)) (.cons rfl .nil) (hsp H hO hS)) λr s' h=>?_;cases r with
  |error e=>exact(hCX H e s' h).elim
  |ok fl=>
   cases fl with
   |next=>exact aJ h
   |brk=>exact aJ h
   |cont=>exact aJ h
   |ret u=>
    let#[v,H',os,bare,un,hok',r',q]:=h;have q':v=.bl J:=q;subst q';obtain rfl:u=lA J:=r';refine#[rfl,#[λb o e=>?_,λb o e=>un.there b o e (by simp)],os,bare];cases q:H b with
    |none=>exact .inl (un.keep b o e q (by intro z;exact aG (show b∈([]:M Addr)from z) (by simp)) (by simp))
    |some u=>
     rcases hO b with(z|⟨ob,xs,z⟩)|⟨y,y1,z⟩
     ·rw[q]at z;cases z
     ·have z2:=un.aF b ob _ z;let#[e1,_]:=hok b _ z;let#[e2,_]:=hok' b _ z2;rw[e]at e1;cases e1;exact .inl e2
     ·let#[more,z2]:=un.tbls b _ z;let#[qs,e2,_]:=(show We H' s'.heap b _ from hok' b _ z2);let#[_,e1,e3]:=ht b y y1;rw[e1]at e;cases e;exact .inr (.inl #[e3,rfl,#[],qs,rfl,by rw[e2];simp])
 have hT:∀b,qJ b≠B->∃q,oS.lookup b=Y q:=λb z=>by
  cases q:oS.lookup b with
  |none=>exact aG (by unfold qJ;rw[q];rfl) z
  |some y=>exact#[y,rfl]
 have hokT:∀{H:Hp} (b:Addr) (u:HO),qJ b=Y u->fq P w H aev.heap b u:=λb u z=>by
  cases q:oS.lookup b with
  |none=>unfold qJ at z;rw[q]at z;cases z
  |some y=>
   unfold qJ at z;rw[q]at z;cases z;exact#[#[],(ht b y q).2.1,trivial,λ_ _ e=>nomatch e]
 have tbT:Tb qJ:=λp hp=>#[#[],by unfold qJ;rw[OU hn hp];simp];have noTa:oS.lookup a=B:=by
  cases q:oS.lookup a with
  |none=>rfl
  |some y=>have e:=(ht a y q).2.1;rw[ha]at e;cases e
 cases hk:K.lookup a with
 |some o=>
  have e:=KX a o hk;rw[ha]at e;cases e;refine core qJ (λb=>?o) (.inr #[_,vs.toArray,_,hk,rfl,rfl,rfl,by rw[bw,xh];exact hl,by simpa using rv]) (λb u z=>hokT b u z) (λb z=>.inr (hT b z)) (λz=>(hT a z).elim λq e=>(ht a q e).1) tbT;cases q:oS.lookup b with
  |none=>exact .inl (.inl (by unfold qJ;rw[q];rfl))
  |some z=>exact .inr #[z,rfl,by unfold qJ;rw[q];rfl]
 |none=>
  refine core (λb=>if b=a then Y (.bE { cls:=.type "list",data:=.seq vs.toArray } (.lst (ns.map V.int)))else qJ b) (λb=>?_) (.inl (.inr #[{ cls:=.type "list",data:=.seq vs.toArray },aB rfl])) (λb u z=>?_) (λb z=>?_) (λ_=>hk) λp hp=>?_
  ·by_cases hb:b=a
   ·exact .inl (.inr #[_,_,aB hb])
   ·cases q:oS.lookup b with
    |none=>exact .inl (.inl ((aD hb).trans (by unfold qJ;rw[q];rfl)))
    |some y=>exact .inr #[y,rfl,(aD hb).trans (by unfold qJ;rw[q];rfl)]
  ·by_cases hb:b=a
   ·have z':=(aB hb).symm.trans z;cases z';subst hb;exact#[ha,by rw[ay];exact hl,vs,_,rv,ha]
   ·exact hokT b u ((aD hb).symm.trans z)
  ·by_cases hb:b=a
   ·exact .inl hb
   ·exact .inr (hT b λy=>z ((aD hb).trans y))
  ·let#[m,e]:=tbT p hp;exact#[m,(aD λz=>by rw[<-z,OU hn hp]at noTa;cases noTa).trans e]
end L2
namespace L2
open PySem PySem.Spec PyProof.Rows
def XJ{l:D_}{XP:(Str->aaV S)->Heap->Prop}{YP:bL->Heap->Prop}{K:Sd->aa}{CX:bL->yR}{sp:bL->Sp}(hn:l.most=Y n)(hn2:n<=ah)(hdf:d.params.defaults=[])(hr:k8 k tQ)(hY:∀(w:bL) (h:Heap),YP w h->(K w.params).In h)(F:∀(w:bL) (mg:Str->aaV S) (fa:Addr) (h:Heap),(K w.params).In h->h.Ns fL mg->mg d.name=Y (.ref fa)->
   ∃fd:fC,(∀(s:ak) (u:S),A5 s fd #[[u],[]] [(x,u)]) /\
    ∀base:Heap,(K w.params).In base->base.Ns fL mg->iF l.prog w (K w.params) mg base (CX w) k fa fd [x] (sp w))(hsp:∀(w:bL) (H:Hp) (a:Addr) (ns:M Int),ns.length<=n->SO H->iC (K w.params) H a (ns.map V.int)->sp w [.ref a] H (λv _=>v=.bl J) λ_ _ _=>aR)(hCX:∀(w:bL) (H:Hp) (s:ak) (e:S) (s':ak),CX w [] H s (λ_ _ _=>aR) e s'->aR)(hnd:(oS.map (·.1)).Nodup:=by decide)(hTb:∀(w:bL) (h:Heap),YP w h->Z0 (K w.params) h:=by intro _ _ _ _ _ z;cases z):
  GY q loose XP YP l.row.toRowW d [] (λf vs=>D9 f vs):=by
 refine Att.Kv hn hdf λw aet aev mg mb fa o pm cd doc a vs ns G aap ho hd hcd hmg hobj hints hlen hg=>?_;have KX:=hY w _ aap;let#[fd,hb,hF]:=F w mg fa _ KX G.T.g hmg;exact SQ KX G.T.g G.T.b G.T.builtins G.T.nolimit G.T.bmain hg hobj hints (fJ hlen hn2) hr hF hb (λH hO hS=>hsp w H a ns hlen hO hS) (λH e s'=>hCX w H aev e s') hnd (hTb w _ aap)
end L2
namespace L2
open PySem PySem.Spec PyProof.Rows
def qK(s:Stmt):Arguments:=match s with
|.FunctionDef _ a _ _ _ _ _ _ _ _=>a
|_=>{ posonlyargs:=[],args:=[],vararg:=B,kwonlyargs:=[],kw_defaults:=[],kwarg:=B,defaults:=[] }
def kH(s:Stmt):M Stmt:=match s with
|.FunctionDef _ _ b _ _ _ _ _ _ _=>b
|_=>[]
def dP(s:Stmt):gH:=match s with
|.FunctionDef _ _ _ _ _ _ sc _ _ _=>sc
|_=>{ kind:=.function,names:=[],isGenerator:=W,isCoroutine:=W }
noncomputable abbrev Wk:yR:=λ_ _ _ _ _ _=>aR
noncomputable abbrev E0:XK:=λ_ _ _=>aR
structure yg (K:aa) (x qual:Str) (st:Stmt) (f:Addr) (fd:fC):Prop where
 ex:∃(oc:S) (od:aaV Addr) (kV doc pm:S) (an:aaV Addr) (cdv ct:S) (osl:Array (aaV S)),
  fd=iJ x qual (qK st) (kH st) (dP st) .none kV doc pm an cdv ct/\K.lookup f=Y #[oc,od,.func fd,osl]/\rq K cdv qual=J
 kp:gS K (.ref f)=J
section
variable{P:bM}{w:bL}{K:aa}{mg:Str->aaV S}{base:Heap}
def yg.binds{st:Stmt}{f:Addr}{fd:fC}{ps:M Str}(F:yg K x qual st f fd)(h:∀(kV doc pm:S) (an:aaV Addr) (cdv ct:S) (us:M S),us.length=ps.length->CP (iJ x qual (qK st) (kH st) (dP st) .none kV doc pm an cdv ct) #[us,[]]=pure (ps.zip us)):Binds K fd ps []:=by
 let#[oc,od,kV,doc,pm,an,cdv,ct,osl,rfl,lk,hcd]:=F.ex;exact .all (h kV doc pm an cdv ct)
def fun_mk{st:Stmt}{f:Addr}{oc:S}{od an:aaV Addr}{osl:Array (aaV S)}{kV doc pm cdv ct:S}(l:K.lookup f=Y #[oc,od,.func (iJ x qual (qK st) (kH st) (dP st) .none kV doc pm an cdv ct),osl])(c:rq K cdv qual=J)(k:gS K (.ref f)=J):yg K x qual st f (iJ x qual (qK st) (kH st) (dP st) .none kV doc pm an cdv ct):=#[#[oc,od,kV,doc,pm,an,cdv,ct,osl,rfl,l,c],k]
end
def aZ(H H':Hp):Prop:=∀b o,H b=Y o->H' b=Y o
def aZ.refl(H:Hp):aZ H H:=λ_ _ h=>h
def aZ.trans(a:aZ H H1)(b:aZ H1 H2):aZ H H2:=λc o h=>b c o (a c o h)
end L2
end
section
namespace L2
open PySem PySem.W PySem.Calls PyProof.Rows
noncomputable def ltK:Key->Key->Bool
|.inl i,.inl j=>decide (i<j)
|.inr x,.inr y=>decide (x.cps.toList<y.cps.toList)
|_,_=>W
def B_:M Key->M Key->Bool
|p::ps,q::qs=>if p=q then B_ ps qs else ltK p q
|_,_=>W
theorem Bs{α β:Type}{R:α->β->Prop}{d:α}{e:β}:∀{xs:M α}{ys:M β},Paired R xs ys->∀i,i<xs.length->R (xs.getD i d) (ys.getD i e)
|_,_,.nil,i,h=>aG h (j4 i)
|_,_,.cons r _,0,_=>r
|_,_,.cons _ t,i+1,h=>Bs t i (nU h)
section
variable{prog:bM}{w:bL}{A:cR}{E:S->ak->Prop}{s:ak}
noncomputable def Z1:M Key->S
|.inl _::_=>.type "int"
|_=>.type "str"
def Cmp(prog:bM)(w:bL)(A:cR)(vs:M S)(lt:L->L->Bool)(h:Heap):Prop:=
 ∃κ,∀s:ak,s.heap=h->(∀(E:S->ak->Prop) (Q:SortKind->ak->Prop),Q κ s->aO (a7 prog w) A (keyKind' vs.toArray) Q E s)/\∀i j C,i<vs.length->j<vs.length->C (lt i j) s->kas_ask prog w A κ vs i j C s
def Z2(kss:M (M Key))(i j:L):Bool:=B_ (kss.getD i []) (kss.getD j [])
def ltK2(a b:Int):B_ [.inl a] [.inl b]=decide (a<b):=by
 by_cases e:a=b
 ·subst e;have:B_ [tO a] [tO a]=W:=by unfold B_;rw[aB rfl];rfl
  rw[this,aN (Int.lt_irrefl _)]
 ·unfold B_;rw[aD λz=>e (by cases z;rfl)];rfl
def HW{ss:M Int}(hv:bN (ss.map V.int) vs)(h2:2<=vs.length):Cmp prog w A vs (Z2 (ss.map λx=>[.inl x])) h:=by
 have hl:vs.length=ss.length:=by rw[<-hv.length,ay]
 have ha:∀i,i<vs.length->∃t,vs.getD i f_=.int (ss.getD i 0) t:=λi hi=>by
  have:=Bs (d:=V.non) (e:=f_) hv i (by rw[ay,<-hl];exact hi);rw[bV,bT,aH (by lia)]at this;rw[bV (l:=ss),aH (by lia)];exact this
 refine#[oneType',λs e=>#[λE Q q=>kas_kind h2 (λv hv'=>?_) (T:=.type "int") (by decide) (by decide) q,λi j C hi hj hC=>?_]]
 ·let#[i,hi,rfl]:=lU hv';let#[t,e]:=ha i hi;rw[bV,aH hi]at e;have e:vs[i]=_:=e;rw[e];exact Looks.of_pure rfl
 ·let#[t,e1]:=ha i hi;let#[u,e2]:=ha j hj;unfold kas_ask;rw[e1,e2];rw[keyLt'_oneType];refine oneLt_int ?_;have:Z2 (ss.map λx=>[.inl x]) i j=B_ [.inl (ss.getD i 0)] [.inl (ss.getD j 0)]:=by
   unfold Z2;simp only[bV,bT,aH (show i<ss.length by lia),aH (show j<ss.length by lia)];rfl
  rw[this,ltK2]at hC;exact hC
end
section
variable{κ:Type} [kj κ] [BEq κ] [LawfulBEq κ]
noncomputable def vC(val:L->κ)(i:L):M κ:=((bH i).map val).foldl qz []
def yU(val:L->κ)(i:L):vC val (i+1)=qz (vC val i) (val i):=by
 unfold vC;rw[Ea,cC,Bh];rfl
def OV(O:M κ)(v k:κ):(qz O v).any (·==k)=(O.any (·==k)||decide (k=v)):=by
 unfold qz;by_cases h:O.any (·==v)=J
 ·rw[aB h];by_cases e:k=v
  ·subst e;rw[h];simp
  ·simp[e]
 ·rw[aD h,List.any_append];by_cases e:k=v
  ·subst e;simp
  ·have hb:(v==k)=W:=by simpa[lG]using(λq:v=k=>e q.symm)
   simp[hb,e]
def Ff(O:M κ)(v:κ):(qz O v).length=if O.any (·==v)then O.length else O.length+1:=by
 unfold qz;split<;>simp
theorem El(val:L->κ):∀i,(vC val i).length<=i
|0=>aW _
|i+1=>by
 have:=El val i;rw[yU,Ff];split<;>omega
variable{prog:bM}{w:bL}{A:cR}{R:J4->ak->Prop}{I:Addr}{fp wr:M Addr}{G:Array xY->Array xY->Prop}{n:L}{P:L->S->Prop}{St:L->ak->Prop}
abbrev uP(knd:KeyKind prog w κ)(h:Heap)(aaU:Addr)(val:L->κ)(i:L):Prop:=h.SetOf knd aaU (λk'=>(vC val i).any (·==k')) (vC val i).length
def Dg{knd:KeyKind prog w κ}{h h':Heap}{aaU:Addr}{val:L->κ}{i:L}(q:uP knd h aaU val i)(e:∀o,h.get? aaU=Y o->h'.get? aaU=Y o):uP knd h' aaU val i:=by
 let#[o,es,ep,t,ho,r]:=q;exact#[o,es,ep,t,e o ho,r]
def SR(knd:KeyKind prog w κ)(aaC:WalksS prog w A.in1 I fp wr G n P St)(aaU:Addr)(hSf:aaU∉fp)(val:L->κ)(hval:∀i v,P i v->knd.is (val i) v=J/\v.scannable=J)(hb:n+1<vq):∀(k i:L) (s:ak),n-i=k->i<=n->St i s->uP knd s.heap aaU val i->(∀s',Moved (aaU::wr) G s s'->uP knd s'.heap aaU val n->R (.ok (.ret .none)) s')->
   o4 (a7 prog w) A (.builtin "set.update.loop" #[[.ref aaU,.ref I],[]]) R s:=by
 have hw:aaU∉wr:=λh=>hSf (aaC.sub _ h);have sub:∀b∈wr,b∈aaU::wr:=λb hb=>ai _ hb;intro k;induction k with
 |zero=>
  intro i s hk hi hst hS hR;obtain rfl:i=n:=by omega
  refine vt mO ?_;rw[ya iK _];show aO _ A.in1 (mH (.ref I) >>= _) _ _ s;refine aA (aaC.done s _ _ hst λs' hm=>?_);show aO _ A.in1 (ret f_) _ _ s';exact bO (hR s' (hm.mono sub) (Dg hS λo e=>hm.heap aaU _ hw e))
 |succ k ih=>
  intro i s hk hi hst hS hR;have hlt:i<n:=by omega
  refine vt mO ?_;rw[ya iK _];show aO _ A.in1 (mH (.ref I) >>= _) _ _ s;refine aA (aaC.item i s _ _ hlt hst λv s' hP hst' hm=>?_);let#[hk1,hk2]:=hval i v hP;have hS':uP knd s'.heap aaU val i:=Dg hS λo e=>hm.heap aaU _ hw e;show aO _ A.in1 (wK [v] (setAdd aaU v) >>= _) _ _ s';refine aA (ou ?_);unfold setAdd;refine ou ?_;refine aA (knd.pyHash hk1 ?_);have hroom:(vC val i).length+1<vq:=by have:=El val i;omega
  refine wpAny_setAddHashed_of (knd:=knd) (s:={ s' with toks:=s'.toks+1 }) hk1 hk2 hS' hroom λh' hsb hS2=>?_;have hSi:uP knd h' aaU val (i+1):=K3 hS2 (λk'=>by rw[yU,OV]) (by rw[yU,Ff]);refine bO #[plainId_quiet iK _,ih (i+1) _ (by omega) hlt (aaC.frame _ s' _ _ hst' (nV _) λb hb o e=>?_) hSi λs'' hm'' hS''=>?_]
  ·rw[hsb.2 b (λh:b=aaU=>hSf (by rw[<-h];exact hb))];exact e
  ·refine hR s'' (Moved.trans aaC.gtrans ((hm.mono sub).then_heap (nV _) λb o hb e=>?_) hm'') hS'';rw[hsb.2 b (λh:b=aaU=>hb (by rw[h];exact aj))];exact e
end
section
variable{κ:Type} [kj κ] [BEq κ] [LawfulBEq κ] {prog:bM}{w:bL}{A:cR}{E:S->ak->Prop}{s:ak}
noncomputable abbrev kI(led:Bool):Obj:={ cls:=.type "set",dict:=B,data:=.set #[] 0 (.fresh 0 0 led) }
def GC(knd:KeyKind prog w κ){l:Addr}{items:Array S}(val:L->κ){Q:S->ak->Prop}(hh:A.handled=B)(hl:s.heap.IsList l items)(hval:∀(i:L) (v:S),items[i]?=Y v->knd.is (val i) v=J/\v.scannable=J)(hb:items.size+1<vq)(h:∀(h':Heap) (tk:L),uP knd h' s.heap.objs.size val items.size->(∀b o,b<s.heap.objs.size->s.heap.get? b=Y o->h'.get? b=Y o)->Q (.ref s.heap.objs.size) { s with heap:=h',toks:=tk }):aO (a7 prog w) A (call (.type "set") [.ref l]) Q E s:=by
 let#[c,tl,hmro]:=fZ.mro;have hmade:=fZ.made;have hsub:=fZ.sub;refine N7 (codeAny_of_tree ?_);show aO _ _ (callAny (.type "set") _) _ _ _;refine bO #[Code.quiet_builtin _ (by decide +kernel),vt Kp ?_];rw[Around.under_plain (weight_type_call_type "set" [.ref l] []) rfl];have h1:=fZ.notType;have h2:=fZ.canCreate;have hct:=K4 (.ref l)
 repeat (any_goals (first|assumption|wp_step))
 refine mJ (code_set_new_1 (.ref l) (E:=E) (Q₁:=λobj aev=>∃led:Bool,obj=.ref s.heap.objs.size/\aev={ s with heap:=s.heap.push (kI led) }) λled=>#[led,rfl,rfl]) λr aev hr=>?_;cases r with
 |error e=>exact hr
 |ok fl=>
  cases fl with
  |ret obj=>
   let#[led,rfl,rfl]:=hr;have hS:(s.heap.push (kI led)).get? s.heap.objs.size=Y (kI led):=bD _ rfl;have hT:Shared.TypeIs { s with heap:=s.heap.push (kI led) } (.ref s.heap.objs.size) "set":=#[_,hS,rfl];have hli:=fZ.init.lookup;have hbi:=fZ.init.bind (.ref s.heap.objs.size)
   repeat (any_goals (first|assumption|wp_step))
   refine mJ (codeAny_call_builtin (R:=wants (λr aex=>r=.none/\∃h' tk,aex={ s with heap:=h',toks:=tk }/\uP knd h' s.heap.objs.size val items.size /\
     (∀b o,b<s.heap.objs.size->s.heap.get? b=Y o->h'.get? b=Y o)) E) fZ.init.plain K5 (check_set_init_1 hT ?_)) λaeX aex aeO=>?_
   ·let#[ol,hol,hcl,nl,hdl]:=hl;let#[ocls,odict,odata,oslots]:=ol;simp only at hcl hdl;subst hcl;subst hdl;have hol':(s.heap.push (kI led)).get? l=Y { cls:=.type "list",dict:=odict,data:=.seq items nl,slots:=oslots }:=aE _ hol;have hsls:=N_;have hslf:=GZ;have hne:(Value.type "list"==Value.type "dict")=W:=by decide
    have hl1:(s.heap.push (kI led)).IsList l items:=#[_,hol',rfl,nl,rfl];unfold Builtin.«set.__init__» noKeywords EY;generalize hPI:uw=PI
    wp_walk
    subst hPI;refine sC hl1 ?_;refine aA (wpAny_runValue ?_);have hlS:l<s.heap.objs.size:=aV hol;have hh3:A.in1.in1.in1.handled=B:=by simp[hh]
    have hneI:l≠(s.heap.push (kI led)).objs.size:=by rw[eS];exact bR (kE hlS)
    have hSf:s.heap.objs.size∉[(s.heap.push (kI led)).objs.size,l]:=by
     rw[eS];simp only[aM,aQ,aP,CY,not_or];exact#[bR (gK _),kU hlS]
    refine SR knd ((Oa hh3 _ l hneI items).toS) s.heap.objs.size hSf val hval hb (items.size-0) 0 _ (by omega) (iE _) #[#[_,bD _ rfl,rfl,rfl],(hl1.push _)] ?hS0 ?hR
    case hS0=>
     have hget:((s.heap.push (kI led)).push { cls:=.type "list_iterator",data:=.fields (List.toArray [.ref l,.int 0 0]) }).get? s.heap.objs.size=Y (kI led):=aE _ hS;exact K3 ((setObjOf_fresh (knd:=knd) led).setOf hget (by unfold vq;omega)) (λ_=>rfl) rfl
    case hR=>
     intro s' hm hS';let#[h',g',d',tk',os']:=s';have eg:g'=s.gens:=hm.gens;have ed:d'=s.drawn:=hm.drawn;have eo:os'=s.os:=hm.os;subst eg;subst ed;subst eo;show aO _ _ _ _ _ _;refine bO ?_;show aO _ _ (ret f_) _ _ _;refine bO #[rfl,h',tk',rfl,hS',λb o hb e=>?_];have hb1:b≠s.heap.objs.size:=bR hb;have hb2:b≠(s.heap.push (kI led)).objs.size:=by rw[eS];exact bR (kE hb)
     exact hm.heap b o (by simp only[aM,aQ,aP,CY,not_or];exact#[hb1,hb2]) (aE _ (aE _ e))
   ·cases aeX with
    |error e=>exact aeO
    |ok aeY=>
     cases aeY with
     |ret r=>
      let#[rfl,h',tk,rfl,hS',hk']:=aeO
      repeat (any_goals (first|assumption|wp_step))
      exact h _ _ hS' hk'
     |_=>exact aeO
  |_=>exact hr
end
end L2
end
section
namespace L2
open PySem PySem.W PySem.Calls PyProof.Rows PySem.SeqAt
theorem HX:∀{bs:M Bool}{its:M S},bN (bs.map V.bl) its->its=bs.map lA
|[],_,.nil=>rfl
|b::bs,_,.cons r q=>by
 rw[HX q];cases r;rfl
noncomputable def Wl(k:Bool):S->Bool
|.bool b=>b==k
|_=>W
section
variable{prog:bM}{w:bL}{A:cR}{E:S->ak->Prop}{s:ak}{l:Addr}{bs:M Bool}{its:M S}{k:Bool}{Q:S->ak->Prop}
def Z3(hy:y∈(bs.map lA).toArray):EqAt A s y (.bool k) (Wl k y):=by
 have hy:y∈bs.map lA:=by simpa using hy
 let#[b,_,rfl]:=b7.mp hy;exact EqAt.bool_bool b k
def Kw(hl:s.heap.IsList l its.toArray)(r:bN (bs.map V.bl) its)(hz:bs.length<=ah)(hk:k∈bs)(h:Q (.int (bs.idxOf k:L) s.toks) { s with toks:=s.toks+1 }):aO (a7 prog w) A (call (.builtin "list.index") [.ref l,.bool k]) Q E s:=by
 obtain rfl:=HX r;let#[#[cls,dd,data,sl],ho,hc,n,hd]:=id hl;simp only at hc hd;subst hc hd;have hj:bs.idxOf k<bs.length:=mP.mpr hk;have hs:=fN;refine gb uM #[_,ho,rfl] uB (sY _ _)
  (list_indexAt l _ n dd sl (.bool k) (Wl k) (bs.idxOf k) (by simpa using hj) (by lia) ?_ ?_) #[ho,λy hy=>Z3 hy,h]
 ·simp[Wl]
 ·intro m hm hlt;have:=vR (p:=(·==k)) (xs:=bs) (i:=m) hlt;simpa[Wl]using this
noncomputable def isI(k:Int):S->Bool
|.int b _=>b==k
|_=>W
theorem Lm:∀{ns:M Int}{its:M S},bN (ns.map V.int) its->its.length=ns.length/\∀i,i<ns.length->∃t,its[i]?=Y (.int (ns.getD i 0) t)
|[],_,.nil=>#[rfl,λi h=>aG h (j4 i)]
|b::bs,_,.cons r q=>by
 let#[h1,h2]:=Lm q;let#[t,rfl]:=r;refine#[by simp[h1],λi hi=>?_];cases i with
 |zero=>exact#[t,rfl]
 |succ i=>simpa using h2 i (by simpa using hi)
def MI{ns:M Int}{k:Int}{tk:Tok}(hl:s.heap.IsList l its.toArray)(r:bN (ns.map V.int) its)(hz:ns.length<=ah)(hk:k∈ns)(h:Q (.int (ns.idxOf k:L) s.toks) { s with toks:=s.toks+1 }):aO (a7 prog w) A (call (.builtin "list.index") [.ref l,.int k tk]) Q E s:=by
 let#[h1,h2]:=Lm r;let#[#[cls,dd,data,sl],ho,hc,n,hd]:=id hl;simp only at hc hd;subst hc hd;have hj:ns.idxOf k<ns.length:=mP.mpr hk;have hs:=fN;have hat:∀i (hi:i<its.toArray.size),isI k its.toArray[i]=(ns.getD i 0==k):=λi hi=>by
  have hi':i<ns.length:=by rw[bw,h1]at hi;exact hi
  let#[t,e]:=h2 i hi';rw[aH (by omega)]at e;have e:=dh e;simp only[List.getElem_toArray];rw[e];rfl
 refine gb uM #[_,ho,rfl] uB (sY _ _)
  (list_indexAt l _ n dd sl (.int k tk) (isI k) (ns.idxOf k) (by rw[bw,h1];exact hj) (by lia) ?_ ?_) #[ho,λy hy=>?_,h]
 ·rw[hat];have:=AG hj;rw[bV,aH hj];simp[this]
 ·intro m hm hlt;have:=vR (p:=(·==k)) (xs:=ns) (i:=m) hlt;rw[hat];have hm':m<ns.length:=kW hlt hj;rw[bV,aH hm'];simpa using this
 ·have hy:y∈its:=by simpa using hy
  let#[i,hi,e]:=lU hy;let#[t,e2]:=h2 i (by lia);rw[aH hi,e]at e2;have e2:=dh e2;subst e2;exact EqAt.int_int _ t k tk
end
end L2
end
section
namespace L2
open PySem PySem.Spec PyProof.Rows
def Sz6(vs:Array S):Prop:=vs.size=6/\vs[2]?=Y .none
noncomputable def l9(P:bM)(w:bL):yR:=λ_ _ _ _ _ _=>aR
def Ca(X:Cx)(E:XK):S->ak->Prop:=λ_ _=>aR
section
variable{X:Cx}{E:XK}
def XM:yS (l9 X.prog X.w) (X.o6 (Ca X E)) E:=λ_ _ _ _ _ _ _ z=>z.elim
def MJ(hst:X.stack=X.env::X.outer)(hf:X.env.frame=Y X.env.locals):vm (a7 X.prog X.w) X.A X.env (Ca X E):=λ_ _ z=>z.elim
end
def Z4{P:bM}{w:bL}{K:aa}{mg:Str->aaV S}{base:Heap}{N:M Str}{qual:Str}{scope:gH}{f:Addr}{cd:S}{A:cR}{outer:M Env}{s:ak}{H:Hp}{E:XK}{v:S}{s':ak}(h:Ca (oA (l9 P w) P w K mg base N qual scope f cd A outer s H E) E v s'):(oA (l9 P w) P w K mg base N qual scope f cd A outer s H E).xe v s':=h.elim
def Z5{P:bM}{w:bL}{K:aa}{mg:Str->aaV S}{base:Heap}{N:M Str}{qual:Str}{scope:gH}{f:Addr}{cd:S}{A:cR}{outer:M Env}{s:ak}{H:Hp}{E:XK}{body:M Stmt}{t:TS}(h:vV ((oA (l9 P w) P w K mg base N qual scope f cd A outer s H E).o6 (Ca (oA (l9 P w) P w K mg base N qual scope f cd A outer s H E) E)) body t):vV (oA (l9 P w) P w K mg base N qual scope f cd A outer s H E) body t:=
 λpins s1 O H1 D I hw=>sX (h pins s1 O H1 D (I.o6 _) hw) (λ_ _ q=>q.rD) λ_ _ q=>Z4 q
section
variable{P:bM}{w:bL}{A:cR}{E:S->ak->Prop}{h:Heap}{g:Array xY}{d:Drawn}{t:L}{os:OsState}
variable{nm q:Str}{C N fI:Addr}{bs bm bmB:M S}{hdct:Bool}{sn:M Str}{sub:M S}{ab:Bool}{col:aaV Bool}{dd:aaV Addr}{k0 k1 k2 k3 k5:aaV S}{aaP newId initId:String}{us:M S}{K:aa}
noncomputable abbrev tuO(us:M S):Obj:={ cls:=.type "tuple",data:=.seq us.toArray }
end
def exF(m:Bool)(e C:Addr)(od:aaV Addr)(h:Heap):Prop:=∃oe vs,h.get? e=Y oe/\oe.cls=.ref C/\oe.dict=od/\oe.data=.fields vs/\(Sz6 vs/\(m=J->vs[1]?=Y .none))
noncomputable def Z6(m:Bool)(e C:Addr)(od:aaV Addr):HO:=.ext (exF m e C od)
end L2
end
section
namespace L3
open PySem PySem.Spec L2
inductive Bf where
 |len|all|any|int|str|abs|min
 deriving kj
noncomputable def Bf.name:Bf->Str
|.len=>"len"|.all=>"all"|.any=>"any"|.int=>"int"|.str=>"str"|.abs=>"abs"|.min=>"min"
inductive Mt where
 |append|startswith|split|index|join|pop|extend|clear
 deriving kj
noncomputable def Mt.name:Mt->Str
|.append=>"append"|.startswith=>"startswith"|.split=>"split"|.index=>"index"|.join=>"join"|.pop=>"pop"|.extend=>"extend"|.clear=>"clear"
inductive Ty where
 |int|bool|str|list|tuple|dict|none
 deriving kj
noncomputable def Ty.name:Ty->Str
|.int=>"int"|.bool=>"bool"|.str=>"str"|.list=>"list"|.tuple=>"tuple"|.dict=>"dict"|.none=>"NoneType"
mutual
inductive CE where
|var (i:L)
|con (v:V)
|glo (g:L)
|bin (op:x_) (a b:CE)
|neg (a:CE)
|nset (a:CE)
|not (a:CE)
|and (a b:CE)
|or (a b:CE)
|ite (c a b:CE)
|cmp (op:yb) (a b:CE)
|chain (o1 o2:yb) (a b c:CE)
|call (g:L) (as:ja)
|blt (f:Bf) (as:ja)
|isi (a:CE) (t:Ty)
|mth (m:Mt) (o:CE) (as:ja)
|ix (a b:CE)
|sl (a:CE) (lo hi:CO)
|lst (as:ja)
|tup (as:ja)
|comp (nl:M Str) (fr:M L) (elt:CE) (tg:CG) (src:CI) (cond:CO)
|slp (a:CE) (lo hi:CO) (k:Int)
inductive ja where
|nil
|cons (a:CE) (r:ja)
inductive CO where
|none
|some (a:CE)
inductive CG where
|name (i:L)
|tup (gs:rF)
|sub (o i:CE)
inductive rF where
|nil
|cons (g:CG) (r:rF)
inductive CI where
|seq (a:CE)
|range (as:ja)
|enum (a:CE)
|zip (as:ja)
end
inductive CB where
|call (g:L) (as:ja)
|ite (c:CE) (a b:CB)
mutual
inductive CS where
|expr (e:CE)
|asg (g:CG) (e:CE)
|casg (i:L) (e:CE)
|acl (i g:L) (as:ja)
|rcl (g:L) (as:ja)
|aug (i:L) (e:CE)
|tasg (g:CG) (e:CE)
|ret (e:CE)
|ifs (c:CE) (a b:cE)
|whil (c:CE) (b:cE)
|forr (g:CG) (src:CI) (b:cE)
|brk
|cont
|never
inductive cE where
|nil
|cons (s:CS) (r:cE)
|two (s t:CS) (r:cE)
|chg (s:CS) (r:cE)
end
noncomputable def rF.len:rF->L
|.nil=>0
|.cons _ r=>r.len+1
inductive G where
|val (v:V)
|tup (a:Addr) (xs:M V)
|fn (sp:Sp) (dvs:M V)
|fh (sp:Sp)
|lam (P:Addr)
|nop
noncomputable def yV(H:Hp)(e:Addr):Hp:=λb=>if b=e then B else H b
def spE(e:Addr)(sp:Sp):Sp:=λvs H Q _=>∃C od,H e=Y (Z6 W e C od)/\sp vs (yV H e) (λv H2=>H2 e=B->Q v (upd H2 e (Z6 W e C od))) E0
def Fg(K:aa)(a:Addr)(t:Bool)(xs:M V):Prop:=
 ∃(o:Obj) (its:Array S) (n:L),K.lookup a=Y o/\o.cls=.type (if t then "tuple" else "list")/\o.dict=B/\o.data=.seq its n/\its.size<=ah/\bN xs its.toList
noncomputable def ig(H:Hp)(a:Addr):aaV (Bool×M V):=match H a with
|some (.lst xs)=>Y (W,xs)
|some (.tup xs)=>Y (J,xs)
|some (.bE _ (.lst xs))=>Y (W,xs)
|some (.bE _ (.tup xs))=>Y (J,xs)
|_=>B
def fR(K:aa)(H:Hp)(a:Addr)(t:Bool)(xs:M V):Prop:=ig H a=Y (t,xs)\/Fg K a t xs
def tupS(h:H a=Y (.tup xs)):fR K H a J xs:=.inl (by unfold ig;rw[h])
def vD(K:aa)(H:Hp)(a:Addr)(k:Bool->M V->Prop):Prop:=∃t xs,fR K H a t xs/\k t xs
inductive D where
|non|bl (b:Bool)|int (i:Int)|str (x:Str)
|lst (o:Bool) (xs:M D)
|tup (xs:M D)
|cst (xs:M D)
|adr (a:Addr) (xs:M D)
mutual
noncomputable def bE:D->D
|.non=>.non
|.bl b=>.bl b
|.int i=>.int i
|.str x=>.str x
|.lst _ xs=>.lst W (aF xs)
|.tup xs=>.tup (aF xs)
|.cst xs=>.cst (aF xs)
|.adr a xs=>.adr a (aF xs)
noncomputable def aF:M D->M D
|[]=>[]
|d::r=>bE d::aF r
end
mutual
noncomputable def be:D->Bool
|.lst o xs=>o&&c9 xs
|.tup xs=>c9 xs
|.cst _=>W
|.adr _ _=>W
|_=>J
noncomputable def c9:M D->Bool
|[]=>J
|d::r=>be d&&c9 r
end
mutual
noncomputable def jP:D->D->Bool
|.non,y=>match y with
 |.non=>J
 |_=>W
|.bl a,y=>match y with
 |.bl b=>a==b
 |.int j=>(if a then 1 else 0)==j
 |_=>W
|.int i,y=>match y with
 |.int j=>i==j
 |.bl b=>i==(if b then 1 else 0)
 |_=>W
|.str a,y=>match y with
 |.str b=>a==b
 |_=>W
|.lst _ xs,y=>match y with
 |.lst _ ys=>o7 xs ys
 |_=>W
|.tup xs,y=>match y with
 |.tup ys=>o7 xs ys
 |_=>W
|.cst _,_=>W
|.adr _ _,_=>W
noncomputable def o7:M D->M D->Bool
|[],ys=>match ys with
 |[]=>J
 |_=>W
|x::xs,ys=>match ys with
 |y::ys=>jP x y&&o7 xs ys
 |[]=>W
end
mutual
noncomputable def nu:D->L->Bool
|.lst _ xs,n=>match n with
 |0=>W
 |n+1=>gi xs n
|.tup xs,n=>match n with
 |0=>W
 |n+1=>gi xs n
|.cst _,_=>W
|.adr _ _,_=>W
|_,_=>J
noncomputable def gi:M D->L->Bool
|[],_=>J
|d::r,n=>nu d n&&gi r n
end
def dY(d:D):Bool:=nu d 12
def kJ(ds:M D):Bool:=gi ds 12
mutual
def bg(K:aa)(H:Hp):D->V->Prop
|.non,v=>v=.non
|.bl b,v=>v=.bl b
|.int i,v=>v=.int i
|.str x,v=>v=.str x/\x.length<=ah
|.lst _ ds,v=>∃a vs,v=.ref a/\Rd H a (.lst vs)/\vs.length<=ah/\aU K H ds vs
|.tup ds,v=>∃a vs,v=.ref a/\H a=Y (.tup vs)/\vs.length<=ah/\aU K H ds vs
|.cst ds,v=>∃a vs,v=.ref a/\Fg K a J vs/\vs.length<=ah/\aU K H ds vs
|.adr a ds,v=>∃vs,v=.ref a/\H a=Y (.lst vs)/\vs.length<=ah/\aU K H ds vs
def aU(K:aa)(H:Hp):M D->M V->Prop
|[],vs=>vs=[]
|d::ds,vs=>∃v r,vs=v::r/\bg K H d v/\aU K H ds r
end
def SS(K:aa)(op:x_)(x y:V)(H:Hp)(Q:VK):Prop:=match op,x,y with
|.Add,.int i,.int j=>Q (.int (i+j)) H
|.Sub,.int i,.int j=>Q (.int (i-j)) H
|.Mult,.int i,.int j=>vB i j/\Q (.int (i*j)) H
|.FloorDiv,.int i,.int j=>xg i j/\Q (.int (i / j)) H
|.Mod,.int i,.int j=>0<j/\Q (.int (i%j)) H
|.Add,.str i,.str j=>i.length+j.length<=ah/\Q (.str (i++j)) H
|.Mult,.str i,.int j=>(0<=j/\j<2 ^ 40/\i.length*j.toNat<=ah)/\Q (.str ⟨(a8 j.toNat i.cps.toList).flatten.toArray⟩) H
|.RShift,.int i,.int j=>0<=j/\Q (.int (i / 2 ^ j.toNat)) H
|.Pow,.int i,.int j=>HH i j/\Q (.int (i ^ j.toNat)) H
|.Add,.ref a,.ref b=>(∃xs ys,Rd H a (.lst xs)/\Rd H b (.lst ys)/\xs.length+ys.length<=ah/\∀p,H p=B->Q (.ref p) (upd H p (.lst (xs++ys))))
  \/ (∃xs ys,fR K H a J xs/\fR K H b J ys/\xs≠[]/\ys≠[]/\xs.length+ys.length<=ah/\∀p,H p=B->Q (.ref p) (upd H p (.tup (xs++ys))))
|.Mult,.ref a,.int k=>∃xs,Rd H a (.lst xs)/\(-(2 ^ 63)<=k/\k<2 ^ 63)/\xs.length*k.toNat<=ah/\∀p,H p=B->Q (.ref p) (upd H p (.lst (a8 k.toNat xs).flatten))
|_,_,_=>aR
def memD(x:D)(xs:M D):Bool:=xs.any λy=>jP y x
def nv(K:aa)(op:yb)(x y:V)(H:Hp)(Q:VK):Prop:=match op,x,y with
|.Lt,.int i,.int j=>Q (.bl (decide (i<j))) H
|.LtE,.int i,.int j=>Q (.bl (decide (i<=j))) H
|.Gt,.int i,.int j=>Q (.bl (decide (j<i))) H
|.GtE,.int i,.int j=>Q (.bl (decide (j<=i))) H
|.Lt,.str i,.str j=>Q (.bl (decide (i.cps.toList<j.cps.toList))) H
|.LtE,.str i,.str j=>Q (.bl (!decide (j.cps.toList<i.cps.toList))) H
|.Eq,x,y=>∃dx dy,bg K H dx x/\bg K H dy y/\dY dx=J/\dY dy=J/\Q (.bl (jP dx dy)) H
|.NotEq,x,y=>∃dx dy,bg K H dx x/\bg K H dy y/\dY dx=J/\dY dy=J/\Q (.bl (!jP dx dy)) H
|.Is,x,.non=>Q (.bl (decide (x=.non))) H
|.IsNot,x,.non=>Q (.bl (!decide (x=.non))) H
|.In,x,.ref a=>(∃t xs dx ds,fR K H a t xs/\bg K H dx x/\aU K H ds xs/\dY dx=J/\kJ ds=J/\Q (.bl (memD dx ds)) H)
  \/ (∃kvs k,Rd H a (.dK kvs)/\x=kV k/\Q (.bl (jQ kvs k).isSome) H)\/∃kvs k b,Rd H a (.dT kvs)/\x=.ref b/\H b=Y (.tup (k.map kV))/\Q (.bl (jQ kvs k).isSome) H
|.NotIn,x,.ref a=>(∃t xs dx ds,fR K H a t xs/\bg K H dx x/\aU K H ds xs/\dY dx=J/\kJ ds=J/\Q (.bl (!memD dx ds)) H)
  \/ (∃kvs k,Rd H a (.dK kvs)/\x=kV k/\Q (.bl (!(jQ kvs k).isSome)) H)\/∃kvs k b,Rd H a (.dT kvs)/\x=.ref b/\H b=Y (.tup (k.map kV))/\Q (.bl (!(jQ kvs k).isSome)) H
|_,_,_=>aR
def ny(K:aa)(x:V)(H:Hp)(Q:Bool->Prop):Prop:=match x with
|.bl b=>Q b
|.non=>Q W
|.int i=>Q (i != 0)
|.str z=>z.length<=ah/\Q (z.length != 0)
|.ref a=>(vD K H a λ_ xs=>Q (!xs.isEmpty))\/∃kvs,H a=Y (.dK kvs)/\Q (!kvs.isEmpty)
|_=>aR
def HY(K:aa)(x y:V)(H:Hp)(Q:VK):Prop:=match x,y with
|.str z,.int i=>z.length<=ah/\∃c,fQ z.cps.toList i=Y c/\Q (.str ⟨#[c]⟩) H
|.ref a,y=>(∃t xs i v,y=.int i/\fR K H a t xs/\fQ xs i=Y v/\Q v H)\/(∃kvs k v,Rd H a (.dK kvs)/\y=kV k/\jQ kvs k=Y v/\Q v H)
  \/ ∃kvs k b v,Rd H a (.dT kvs)/\y=.ref b/\H b=Y (.tup (k.map kV))/\jQ kvs k=Y v/\Q v H
|_,_=>aR
noncomputable def cut{α:Type}(xs:M α)(lo hi:aaV Int):M α:=(xs.drop (HT.lX xs.length 0 lo)).take (HT.lX xs.length xs.length hi-HT.lX xs.length 0 lo)
def Wm(K:aa)(x:V)(lo hi:aaV Int)(H:Hp)(Q:VK):Prop:=match x with
|.str z=>z.length<=ah/\Q (.str ⟨(cut z.cps.toList lo hi).toArray⟩) H
|.ref a=>(vD K H a λt xs=>t=W/\∀p,H p=B->Q (.ref p) (upd H p (.lst (cut xs lo hi))))
  \/ ∃(n:L) (xs:M V),fR K H a J xs/\lo=Y (n:Int)/\hi=B/\1<=n/\n<=xs.length/\∀p,H p=B->Q (.ref p) (upd H p (.tup (xs.drop n)))
|_=>aR
noncomputable def o8{α:Type}(xs:M α)(lo hi:aaV Int)(k:Int):M α:=(yc (gW lo hi (Y k) xs.length).1 (gW lo hi (Y k) xs.length).2.1 (gW lo hi (Y k) xs.length).2.2).filterMap (xs[·]?)
def SV(K:aa)(x:V)(lo hi:aaV Int)(k:Int)(H:Hp)(Q:VK):Prop:=match x with
|.ref a=>vD K H a λt xs=>t=W/\(k≠0/\(o8 xs lo hi k).length<=ah)/\∀p,H p=B->Q (.ref p) (upd H p (.lst (o8 xs lo hi k)))
|_=>aR
noncomputable def o9:V->Bool
|.bl J=>J
|_=>W
noncomputable def abG:V->Bool
|.bl _=>J
|_=>W
def xj(xs:M V):Bool:=xs.all abG
noncomputable def nA(i:Int):Str:=toString i
def xm(K:aa)(f:Bf)(vs:M V)(H:Hp)(Q:VK):Prop:=match f,vs with
|.len,[.str z]=>z.length<=ah/\Q (.int z.length) H
|.len,[.ref a]=>(vD K H a λ_ xs=>Q (.int xs.length) H)\/∃kvs,Rd H a (.dK kvs)/\Q (.int kvs.length) H
|.all,[.ref a]=>vD K H a λt xs=>t=W/\xj xs=J/\Q (.bl (xs.all o9)) H
|.any,[.ref a]=>vD K H a λt xs=>t=W/\xj xs=J/\Q (.bl (xs.any o9)) H
|.int,[.int i]=>Q (.int i) H
|.int,[.bl b]=>Q (.int (if b then 1 else 0)) H
|.abs,[.int i]=>Q (.int (if i<0 then -i else i)) H
|.min,[.int i,.int j]=>Q (.int (if j<i then j else i)) H
|.int,[.str z]=>z.length<=640/\∃n,intText? z=Y n/\Q (.int n) H
|.str,[.int i]=>i.natAbs.log2<1920/\Q (.str (nA i)) H
|_,_=>aR
def tT(K:aa)(t:Ty)(x:V)(H:Hp)(Q:Bool->Prop):Prop:=match x with
|.non=>Q W
|.bl _=>Q (decide (t=.bool)||decide (t=.int))
|.int _=>Q (decide (t=.int))
|.str _=>Q (decide (t=.str))
|.ref a=>(∃xs,Rd H a (.lst xs)/\Q (decide (t=.list)||decide (t=.none)))\/(∃xs,fR K H a J xs/\Q (decide (t=.tuple)||decide (t=.none)))\/∃kvs,Rd H a (.dK kvs)/\Q (decide (t=.dict))
|_=>aR
noncomputable def bZ(c:L):M L->M (M L)
|[]=>[[]]
|x::r=>if x=c then[]::bZ c r else match bZ c r with
 |h::t=>(x::h)::t
 |[]=>[[x]]
noncomputable def strOf(l:M L):Str:=⟨l.toArray⟩
def fX(H:Hp)(a:Addr):Prop:=match H a with
|some (.lst _)=>True
|_=>aR
def Wn(H:Hp)(a:Addr):Prop:=match H a with
|some (.dK _)=>True
|some (.dT _)=>True
|_=>aR
def o_(m:Mt)(x:V)(H:Hp):Prop:=match m,x with
|.append,.ref a=>fX H a
|.extend,.ref a=>fX H a
|.clear,.ref a=>fX H a
|.pop,.ref a=>fX H a
|.join,.str _=>True
|.startswith,.str _=>True
|.split,.str _=>True
|.index,.ref a=>∃xs,Rd H a (.lst xs)
|.index,.str _=>True
|_,_=>aR
def oB(K:aa)(m:Mt)(x:V)(vs:M V)(H:Hp)(Q:VK):Prop:=match m,x,vs with
|.append,.ref l,[y]=>match H l with
 |some (.lst xs)=>xs.length<ah/\Q .non (upd H l (.lst (xs++[y])))
 |_=>aR
|.extend,.ref l,[.ref b]=>match H l with
 |some (.lst xs)=>∃zs,H b=Y (.lst zs)/\xs.length+zs.length<=ah/\Q .non (upd H l (.lst (xs++zs)))
 |_=>aR
|.clear,.ref l,[]=>match H l with
 |some (.lst xs)=>Q .non (upd H l (.lst []))
 |_=>aR
|.pop,.ref l,[]=>match H l with
 |some (.lst xs)=>∃y,xs[xs.length-1]?=Y y/\Q y (upd H l (.lst xs.dropLast))
 |_=>aR
|.join,.str x,[.ref a]=>vD K H a λt xs=>t=W/\∃ss:M Str,xs=ss.map V.str/\(ss.map (·.length)).sum+ss.length*x.length<=ah/\Q (.str (dU x ss)) H
|.startswith,.str x,[.str y]=>Q (.bl (y.cps.toList.isPrefixOf x.cps.toList)) H
|.split,.str x,[.str y]=>y.length=1/\x.length+2<=ah/\∀p,H p=B->Q (.ref p) (upd H p (.lst ((bZ (y.cps.getD 0 0) x.cps.toList).map λl=>V.str (strOf l))))
|.index,.ref l,[.bl k]=>∃bs:M Bool,Rd H l (.lst (bs.map V.bl))/\k∈bs/\Q (.int (bs.idxOf k)) H
|.index,.ref l,[.int k]=>∃ns:M Int,Rd H l (.lst (ns.map V.int))/\k∈ns/\Q (.int (ns.idxOf k)) H
|.index,.str x,[.str y]=>y.length=1/\x.length<=ah/\(y.cps.getD 0 0)∈x.cps.toList/\Q (.int (x.cps.toList.idxOf (y.cps.getD 0 0))) H
|.split,.str x,[]=>(x.length<=ah/\(iL x).length<=ah)/\∀p,H p=B->Q (.ref p) (upd H p (.lst ((iL x).map V.str)))
|_,_,_=>aR
inductive Item where
|v (x:V)
|tup (xs:M V)
def mkItem(it:Item)(H:Hp)(k:V->Hp->Prop):Prop:=match it with
|.v x=>k x H
|.tup xs=>∀p,H p=B->k (.ref p) (upd H p (.tup xs))
noncomputable def lY:L->M V->M Item
|_,[]=>[]
|n,x::r=>.tup [.int (n:Int),x]::lY (n+1) r
noncomputable def rR:M V->M V->M Item
|x::xs,y::ys=>.tup [x,y]::rR xs ys
|_,_=>[]
def wZip(x y:V)(H:Hp)(k:(Hp->Prop)->M Item->Hp->Prop):Prop:=∃a b xs ys,x=.ref a/\y=.ref b/\Rd H a (.lst xs)/\Rd H b (.lst ys)/\k (λH'=>Rd H' a (.lst xs)/\Rd H' b (.lst ys)) (rR xs ys) H
def abH(K:aa)(x y:V)(H:Hp)(k:(Hp->Prop)->M Item->Hp->Prop):Prop:=∃a b xs ys,x=.ref a/\y=.ref b/\fR K H a J xs/\fR K H b J ys/\k (λH'=>fR K H' a J xs/\fR K H' b J ys) (rR xs ys) H
def MK(K:aa)(vs:M V)(H:Hp)(k:(Hp->Prop)->M Item->Hp->Prop):Prop:=match vs with
|[x,y]=>wZip x y H k\/abH K x y H k
|_=>aR
abbrev Z7:=St->Hp->((Hp->Prop)->M Item->Hp->Prop)->Prop
def forL(ok:Hp->Prop)(g:TG)(body:TS)(D:Ends):M Item->St->Hp->Prop
|[],O,H=>ok H/\D.nx O H
|it::r,O,H=>ok H/\mkItem it H λx H1=>g x O H1 fun σ2 H2=>body { D with nx:=forL ok g body D r,ct:=forL ok g body D r,bk:=D.nx } σ2 H2
def sJ(ok:Hp->Prop)(g:TG)(cond:TT)(elt:TE)(k:M V->Hp->Prop):M Item->M V->St->Hp->Prop
|[],acc,_,H=>ok H/\k acc H
|it::r,acc,O,H=>ok H/\acc.length<ah/\mkItem it H λx H1=>g x O H1 fun σ2 H2=>cond σ2 H2 λb H3=>
  if b=J then elt σ2 H3 λy H4=>sJ ok g cond elt k r (acc++[y]) σ2 H4 else sJ ok g cond elt k r acc σ2 H3
noncomputable def chars(z:Str):M V:=z.cps.toList.map λc=>V.str ⟨#[c]⟩
def Em(K:aa)(x:V)(H:Hp)(k:(Hp->Prop)->M Item->Hp->Prop):Prop:=match x with
|.str z=>z.length<=ah/\k (λ_=>True) ((chars z).map .v) H
|.ref a=>vD K H a λt xs=>k (λH'=>fR K H' a t xs) (xs.map .v) H
|_=>aR
def yW(vs:M V)(H:Hp)(k:(Hp->Prop)->M Item->Hp->Prop):Prop:=match vs with
|[.int j]=>(-(2 ^ 62)<=j/\j<2 ^ 62)/\k (λ_=>True) ((bH j.toNat).map λ(i:L)=>Item.v (.int (i:Int))) H
|[.int i,.int j]=>(-(2 ^ 62)<=i/\i<2 ^ 62/\-(2 ^ 62)<=j/\j<2 ^ 62)/\k (λ_=>True) ((bH (j-i).toNat).map λ(n:L)=>Item.v (.int (i+(n:Int)))) H
|_=>aR
def jW(O:St)(i:L)(k:V->Prop):Prop:=match O[i]? with
|some (Y v)=>k v
|_=>aR
noncomputable def pe(ss:M Str):M Str:=ss.foldl nj []
def ML:V->aaV Str
|.str x=>Y x
|.int i=>if i.natAbs.log2<1920 then Y (nA i)else B
|_=>B
def Wo(O:L2.St):M (Str×L)->Str->aaV Str
|[],a=>Y a
|p::r,a=>match O[p.2]? with
 |some (Y v)=>(ML v).bind λy=>Wo O r (a++p.1++y)
 |_=>B
def Wp(x:V)(H:Hp)(Q:VK):Prop:=∃b ss,x=.ref b/\Rd H b (.lst (ss.map V.str))/\ss.length<4000/\Q (.int (pe ss).length) H
mutual
def wE(K:aa)(U:M G)(E:XK):CE->TE
|.var i=>λO H Q=>jW O i λv=>Q v H
|.con v=>λ_ H Q=>Q v H
|.glo g=>λ_ H Q=>match U[g]? with
 |some (.val v)=>Q v H
 |some (.tup a _)=>Q (.ref a) H
 |_=>aR
|.bin op a b=>λO H Q=>wE K U E a O H λx H1=>wE K U E b O H1 λy H2=>SS K op x y H2 Q
|.nset a=>λO H Q=>wE K U E a O H λx H1=>Wp x H1 Q
|.neg a=>λO H Q=>wE K U E a O H λx H1=>match x with
 |.int i=>Q (.int (-i)) H1
 |_=>aR
|.not a=>λO H Q=>wE K U E a O H λx H1=>ny K x H1 λb=>Q (.bl (!b)) H1
|.and a b=>λO H Q=>wE K U E a O H λx H1=>match x with
 |.bl c=>if c=J then wE K U E b O H1 Q else Q (.bl W) H1
 |_=>aR
|.or a b=>λO H Q=>wE K U E a O H λx H1=>match x with
 |.bl c=>if c=J then Q (.bl J) H1 else wE K U E b O H1 Q
 |_=>aR
|.ite c a b=>λO H Q=>wT K U E c O H λk H1=>if k=J then wE K U E a O H1 Q else wE K U E b O H1 Q
|.cmp op a b=>λO H Q=>wE K U E a O H λx H1=>wE K U E b O H1 λy H2=>nv K op x y H2 Q
|.chain o1 o2 a b c=>λO H Q=>wE K U E a O H λx H1=>wE K U E b O H1 λy H2=>nv K o1 x y H2 λz H3=>match z with
 |.bl k=>if k=J then wE K U E c O H3 λu H4=>nv K o2 y u H4 Q else Q (.bl W) H3
 |_=>aR
|.call g as=>λO H Q=>match U[g]? with
 |some (.fn sp dvs)=>wEs K U E as O H λvs H1=>sp (vs++dvs) H1 Q E
 |_=>aR
|.blt f as=>λO H Q=>wEs K U E as O H λvs H1=>xm K f vs H1 Q
|.isi a t=>λO H Q=>wE K U E a O H λx H1=>tT K t x H1 λb=>Q (.bl b) H1
|.mth m o as=>λO H Q=>wE K U E o O H λx H1=>o_ m x H1/\wEs K U E as O H1 λvs H2=>oB K m x vs H2 Q
|.ix a b=>λO H Q=>wE K U E a O H λx H1=>wE K U E b O H1 λy H2=>HY K x y H2 Q
|.sl a lo hi=>λO H Q=>wE K U E a O H λx H1=>wO K U E lo O H1 λl H2=>wO K U E hi O H2 λh H3=>Wm K x l h H3 Q
|.lst as=>λO H Q=>wEs K U E as O H λvs H1=>vs.length<=ah/\∀p,H1 p=B->Q (.ref p) (upd H1 p (.lst vs))
|.tup as=>λO H Q=>wEs K U E as O H λvs H1=>vs.length<=ah/\∀p,H1 p=B->Q (.ref p) (upd H1 p (.tup vs))
|.comp nl fr elt tg src cond=>λO H Q=>wI K U E src O H λok items H1=>
  sJ ok (wG K U E0 tg) (wC K U E0 cond) (wE K U E0 elt) (λvs H2=>∀p,H2 p=B->Q (.ref p) (upd H2 p (.lst vs))) items [] (nl.map (λ_=>B)++fr.map (λi=>O.getD i B)) H1
|.slp a lo hi k=>λO H Q=>wE K U E a O H λx H1=>wO K U E lo O H1 λl H2=>wO K U E hi O H2 λh H3=>SV K x l h k H3 Q
def wT(K:aa)(U:M G)(E:XK):CE->TT
|.not a=>λO H Q=>wT K U E a O H λb H1=>Q (!b) H1
|.and a b=>λO H Q=>wT K U E a O H λc H1=>if c=J then wT K U E b O H1 Q else Q W H1
|.or a b=>λO H Q=>wT K U E a O H λc H1=>if c=J then Q J H1 else wT K U E b O H1 Q
|.ite c a b=>λO H Q=>wT K U E c O H λk H1=>if k=J then wT K U E a O H1 Q else wT K U E b O H1 Q
|.cmp op a b=>λO H Q=>wE K U E a O H λx H1=>wE K U E b O H1 λy H2=>nv K op x y H2 λz H3=>match z with
 |.bl k=>Q k H3
 |_=>aR
|.chain o1 o2 a b c=>λO H Q=>wE K U E a O H λx H1=>wE K U E b O H1 λy H2=>nv K o1 x y H2 λz H3=>match z with
 |.bl k=>if k=J then wE K U E c O H3 λu H4=>nv K o2 y u H4 λz H5=>match z with
  |.bl k=>Q k H5
  |_=>aR
  else Q W H3
 |_=>aR
|.var i=>λO H Q=>jW O i λv=>ny K v H λb=>Q b H
|.ix a b=>λO H Q=>wE K U E a O H λx H1=>wE K U E b O H1 λy H2=>HY K x y H2 λv H3=>ny K v H3 λb=>Q b H3
|.call g as=>λO H Q=>match U[g]? with
 |some (.fn sp dvs)=>wEs K U E as O H λvs H1=>sp (vs++dvs) H1 (λx H2=>ny K x H2 λb=>Q b H2) E
 |_=>aR
|.blt f as=>λO H Q=>wEs K U E as O H λvs H1=>xm K f vs H1 λx H2=>ny K x H2 λb=>Q b H2
|.isi a t=>λO H Q=>wE K U E a O H λx H1=>tT K t x H1 λb=>ny K (.bl b) H1 λb=>Q b H1
|.mth m o as=>λO H Q=>wE K U E o O H λx H1=>o_ m x H1/\wEs K U E as O H1 λvs H2=>oB K m x vs H2 λy H3=>ny K y H3 λb=>Q b H3
|_=>λ_ _ _=>aR
def wEs(K:aa)(U:M G)(E:XK):ja->TA
|.nil=>λ_ H Q=>Q [] H
|.cons a r=>λO H Q=>wE K U E a O H λx H1=>wEs K U E r O H1 λxs H2=>Q (x::xs) H2
def wO(K:aa)(U:M G)(E:XK):CO->St->Hp->(aaV Int->Hp->Prop)->Prop
|.none=>λ_ H Q=>Q B H
|.some a=>λO H Q=>wE K U E a O H λx H1=>match x with
 |.int i=>Q (Y i) H1
 |_=>aR
def wC(K:aa)(U:M G)(E:XK):CO->TT
|.none=>λ_ H Q=>Q J H
|.some a=>wT K U E a
def wG(K:aa)(U:M G)(E:XK):CG->TG
|.name i=>λv O H Q=>Q (O.set i (Y v)) H
|.tup gs=>λv O H Q=>match v with
 |.ref a=>vD K H a λt xs=>t=J/\xs.length=gs.len/\Fi K U E gs xs O H Q
 |_=>aR
|.sub o i=>λv O H Q=>wE K U E o O H λx H1=>wE K U E i O H1 λy H2=>match x with
 |.ref a=>match H2 a with
  |some (.lst xs)=>∃k j,y=.int k/\gO xs.length k=Y j/\Q O (upd H2 a (.lst (xs.set j v)))
  |some (.dK kvs)=>∃k,y=kV k/\kvs.length<ah/\Q O (upd H2 a (.dK (putK kvs k v)))
  |some (.dT kvs)=>∃k b,y=.ref b/\H2 b=Y (.tup (k.map kV))/\kvs.length<ah/\Q O (upd H2 a (.dT (putK kvs k v)))
  |_=>aR
 |_=>aR
def Fi(K:aa)(U:M G)(E:XK):rF->HD
|.nil=>λvs O H Q=>match vs with
 |[]=>Q O H
 |_=>aR
|.cons g r=>λvs O H Q=>match vs with
 |v::vr=>wG K U E g v O H fun σ' H'=>Fi K U E r vr σ' H' Q
 |_=>aR
def wI(K:aa)(U:M G)(E:XK):CI->Z7
|.seq a=>λO H k=>wE K U E a O H λx H1=>Em K x H1 k
|.range as=>λO H k=>wEs K U E as O H λvs H1=>yW vs H1 k
|.zip as=>λO H k=>wEs K U E as O H λvs H1=>MK K vs H1 k
|.enum a=>λO H k=>wE K U E a O H λx H1=>match x with
 |.ref b=>∃xs,Rd H1 b (.lst xs)/\k (λH'=>Rd H' b (.lst xs)) (lY 0 xs) H1
 |_=>aR
end
mutual
def wS(K:aa)(U:M G)(E:XK):CS->TS
|.expr e=>λD O H=>wE K U E e O H λ_ H1=>D.nx O H1
|.asg g e=>λD O H=>wE K U E e O H λx H1=>wG K U E g x O H1 D.nx
|.casg i e=>λD O H=>wE K U E e O H λx H1=>D.nx (O.set i (Y x)) H1
|.acl i g as=>λD O H=>wE K U E (.call g as) O H λx H1=>wG K U E (.name i) x O H1 D.nx
|.aug i e=>L2.Zw i (wE K U E e) (L2.ipI λi j=>i+j)
|.tasg g e=>λD O H=>wE K U E e O H λx H1=>wG K U E g x O H1 D.nx
|.ret e=>λD O H=>wE K U E e O H D.rt
|.rcl g as=>λD O H=>wE K U E (.call g as) O H D.rt
|.ifs c a b=>λD O H=>wT K U E c O H λk H1=>if k=J then wSs K U E a D O H1 else wSs K U E b D O H1
|.whil c b=>λD O H=>∃aaC:L->St->Hp->Prop,(∃m,aaC m O H)/\∀m O H,aaC m O H->
  wT K U E c O H λk H1=>if k=J then ∃N:St->Hp->Prop,(∀σ' H',N σ' H'->∃m',m'<m/\aaC m' σ' H')/\wSs K U E b { D with nx:=N,ct:=N,bk:=D.nx } O H1 else D.nx O H1
|.forr g src b=>λD O H=>wI K U E src O H λok items H1=>forL ok (wG K U E g) (wSs K U E b) D items O H1
|.brk=>λD O H=>D.bk O H
|.cont=>λD O H=>D.ct O H
|.never=>λ_ _ _=>aR
def wSs(K:aa)(U:M G)(E:XK):cE->TS
|.nil=>λD O H=>D.nx O H
|.cons s r=>λD O H=>wS K U E s { D with nx:=wSs K U E r D } O H
|.two s t r=>λD O H=>wS K U E s { D with nx:=wS K U E t { D with nx:=wSs K U E r D } } O H
|.chg s r=>λD O H=>wS K U E s { D with nx:=wSs K U E r D } O H
end
end L3
end
section
namespace L3
open PySem PySem.Spec PyProof.Rows L2
def fR.sq{K:aa}(h:fR K H a t xs):(t=W/\iC K H a xs)\/(t=J/\l8 K H a xs):=by
 rcases h with h|⟨o,its,n,hk,hc,hd,hs,hz,r⟩
 ·unfold ig at h;split at h<;>first|(cases h)|skip
  ·exact .inl #[rfl,.inl (.inl (by assumption))]
  ·exact .inr #[rfl,.inl (.inl (by assumption))]
  ·exact .inl #[rfl,.inl (.inr #[_,by assumption])]
  ·exact .inr #[rfl,.inl (.inr #[_,by assumption])]
 ·cases t with
  |false=>exact .inl #[rfl,.inr #[o,its,n,hk,hc,hd,hs,hz,r]]
  |true=>exact .inr #[rfl,.inr #[o,its,n,hk,hc,hs,hz,r]]
def fR.nc{K:aa}(h:fR K H a J xs):l8 K H a xs:=by
 rcases h.sq with⟨z,_⟩|⟨_,z⟩
 ·cases z
 ·exact z
def fR.Ln{K:aa}(h:fR K H a W xs):iC K H a xs:=by
 rcases h.sq with⟨_,z⟩|⟨z,_⟩
 ·exact z
 ·cases z
section
variable{X:Cx}
def toList_replicate(j:L)(x:Str):(⟨(a8 j x.cps).foldl (·++·) #[]⟩:Str)=⟨(a8 j x.cps.toList).flatten.toArray⟩:=by
 have h:∀(j:L) (acc:Array L),((a8 j x.cps).foldl (·++·) acc)=acc++(a8 j x.cps.toList).flatten.toArray:=by
  intro j;induction j with
  |zero=>intro acc;simp
  |succ j ih=>
   intro acc;rw[cI,D8,ih,cI,eK];apply Array.ext';simp
 rw[h];simp
def MM:jO X (h_ .Mult) (λx y H Q=>∃i j,x=.str i/\y=.int j/\(0<=j/\j<2 ^ 40/\i.length*j.toNat<=ah)/\Q (.str ⟨(a8 j.toNat i.cps.toList).flatten.toArray⟩) H):=by
 intro pins s O H x y v u Q I rx ry h;let#[i,j,rfl,rfl,#[h0,h1,h2],q]:=h;let#[t,rfl]:=rx;let#[t',rfl]:=ry;have hs:=fN;refine SB.mul #[?_,λhn hc=>?_,λhn hc=>?_] λt' k=>#[.str (Mr i j),H,I.tok _,#[_,rfl],?_]
 ·have e1:decide (j < -(2 ^ 63:Int))=W:=aN (by lia);have e2:decide (j≥2 ^ 63)=W:=aN (by lia);rw[e1,e2];rfl
 ·have hj:0<j:=by omega
  intro hgt;have h3:=hgt;have h4:=(Int.ediv_lt_iff_lt_mul hj).mp h3;have h5:((i.length*j.toNat:L):Int)=(i.length:Int)*j:=by
   rw[Int.natCast_mul,Int.toNat_of_nonneg h0]
  omega
 ·unfold Oh;simp only[decide_eq_false_iff_not]
  lia
 ·have e:Mr i j=⟨(a8 j.toNat i.cps.toList).flatten.toArray⟩:=by
   unfold Mr;by_cases h3:j<1
   ·have:j.toNat=0:=by lia
    rw[aB h3,this];rfl
   ·rw[aD h3];by_cases h4:(j==1||i.length==0)=J
    ·rw[aB h4];rw[vv]at h4;rcases h4 with h4|h4
     ·have:j=1:=by simpa using h4
      subst this;simp
     ·have h5:i.length=0:=by simpa using h4
      have h6:i.cps.toList=[]:=by
       apply ir;simpa[m9]using h5
      rw[h6];cases i with
      |mk c=>
       simp at h6;subst h6;simp
    ·rw[aD h4,toList_replicate]
  rw[e];exact q
def Inv.Z8(I:L2.Inv X pins O H s)(hH:Rd H l (.lst xs)):xs.length<=ah/\∃(its:M S) (n:L),bN xs its/\xs.length=its.length/\s.heap.get? l=Y { cls:=.type "list",data:=.seq its.toArray n }:=by
 let#[z,its,n,r,e]:=hH.ok I.hok;exact#[z,its,n,r,r.length,e]
def op_cat':jO X (h_ .Add) (λx y H Q=>∃l b xs zs,x=.ref l/\y=.ref b/\Rd H l (.lst xs)/\Rd H b (.lst zs)/\xs.length+zs.length<=ah/\∀p,H p=B->Q (.ref p) (upd H p (.lst (xs++zs)))):=by
 intro pins s O H x y v u Q I rx ry h;let#[l,b,xs,zs,rfl,rfl,hH,hB,hz,q]:=h;cases rx;cases ry;let#[z,its,n,r,hl,e]:=Inv.Z8 I hH;let#[z2,its2,n2,r2,hl2,e2]:=Inv.Z8 I hB;refine Wa e e2 ?_ (by grind);have ea:its.toArray++its2.toArray=(its++its2).toArray:=by simp
 rw[ea];exact#[.ref _,_,I.MH (r.append r2) (by rw[ao];omega),rfl,q _ I.fresh]
def op_rep':jO X (h_ .Mult) (λx y H Q=>∃l k xs,x=.ref l/\y=.int k/\Rd H l (.lst xs)/\-(2 ^ 63)<=k/\k<2 ^ 63/\xs.length*k.toNat<=ah/\∀p,H p=B->Q (.ref p) (upd H p (.lst (a8 k.toNat xs).flatten))):=by
 intro pins s O H x y v u Q I rx ry h;let#[l,k,xs,rfl,rfl,hH,h1,h2,hz,q]:=h;cases rx;let#[t,rfl]:=ry;let#[z,its,n,r,hl,e]:=Inv.Z8 I hH;have hlen:its.toArray.size*k.toNat<=ah:=by rw[bw,<-hl];exact hz
 have hcap:¬its.toArray.size*k.toNat>(2 ^ 63-1) / 8:=by
  have:(ah:L)<=(2 ^ 63-1) / 8:=by decide
  lia
 have hfit:¬(!G0 k)=J:=by
  rw[fitsIndex_both h1 h2];exact bq
 have hlong:¬mK (its.toArray.size*k.toNat)=J:=by
  rw[HS hlen];exact bq
 have hnew:D7 (λx1 x2=>x1++x2) #[] (a8 (if its.toArray.isEmpty=J then 0 else k.toNat) its.toArray)=(a8 k.toNat its).flatten.toArray:=by
  have f0:∀m:L,D7 (λx1 x2=>x1++x2) #[] (a8 m its.toArray)=(a8 m its).flatten.toArray:=λm=>by
   have:=foldl_rep its m [];rw[iT]at this;exact this
  rw[f0];cases its with
  |nil=>simp
  |cons a r'=>rfl
 refine wpAny_binaryOp_repeat_ref (by decide) #[_,e,rfl] (λs'=>D6 s' k t) noFill_list_mul F.fills_int_mul F.slot_int_rmul repeat_list F.slot_int_index.lookup
  (gb F.slot_int_rmul (D6 s k t) F.entry_int_rmul (F.args_int_rmul_2 _ _) (int___rmul___int_list k t l its.toArray n)
   #[e,rfl,#[_,e,rfl],gb F.slot_list_mul #[_,e,rfl] F.entry_list_mul (F.args_list_mul_2 _ _) (B4 l its.toArray n k t hfit hcap hlong) #[e,?_]])
 rw[hnew];exact#[.ref _,_,I.MH (r.rep k.toNat) (by rw[len_rep,J9];exact hz),rfl,q _ I.fresh]
def abI(op:x_):jO X (h_ op) (SS X.K op):=by
 intro pins s O H x y v u Q I rx ry h;cases op<;>first|(cases x<;>first|exact aJ h|(cases y<;>exact aJ h))|skip
 case Add=>
  cases x<;>first|exact aJ h|(cases y<;>first|exact aJ h|skip)
  ·exact ZF pins s O H _ _ v u Q I rx ry #[_,_,rfl,rfl,h]
  ·exact MB pins s O H _ _ v u Q I rx ry #[_,_,rfl,rfl,h]
  ·rcases h with⟨xs,ys,h1,h2,h3,h4⟩|⟨xs,ys,h1,h2,h3,h4,h5,h6⟩
   ·exact op_cat' pins s O H _ _ v u Q I rx ry #[_,_,xs,ys,rfl,rfl,h1,h2,h3,h4]
   ·have t1:=h1.nc;have t2:=h2.nc;exact XE pins s O H _ _ v u Q I rx ry #[_,_,xs,ys,rfl,rfl,t1,t2,h3,h5,λz=>aG z h4,λ_=>h6]
 case Sub=>
  cases x<;>first|exact aJ h|(cases y<;>first|exact aJ h|skip)
  ·exact ZG pins s O H _ _ v u Q I rx ry #[_,_,rfl,rfl,h]
 case Mult=>
  cases x<;>first|exact aJ h|(cases y<;>first|exact aJ h|skip)
  ·exact ZH pins s O H _ _ v u Q I rx ry #[_,_,rfl,rfl,h]
  ·exact MM pins s O H _ _ v u Q I rx ry #[_,_,rfl,rfl,h]
  ·let#[xs,h1,#[h2,h3],h4,h5]:=h;exact op_rep' pins s O H _ _ v u Q I rx ry #[_,_,xs,rfl,rfl,h1,h2,h3,h4,h5]
 case FloorDiv=>
  cases x<;>first|exact aJ h|(cases y<;>first|exact aJ h|skip)
  ·exact Xv pins s O H _ _ v u Q I rx ry #[_,_,rfl,rfl,h]
 case Mod=>
  cases x<;>first|exact aJ h|(cases y<;>first|exact aJ h|skip)
  ·exact ZI pins s O H _ _ v u Q I rx ry #[_,_,rfl,rfl,h]
 case RShift=>
  cases x<;>first|exact aJ h|(cases y<;>first|exact aJ h|skip)
  ·exact ZK pins s O H _ _ v u Q I rx ry #[_,_,rfl,rfl,h]
 case Pow=>
  cases x<;>first|exact aJ h|(cases y<;>first|exact aJ h|skip)
  ·exact ZJ pins s O H _ _ v u Q I rx ry #[_,_,rfl,rfl,h]
def OW:jO X (gR .LtE) (λx y H Q=>∃i j,x=.str i/\y=.str j/\Q (.bl (!decide (j.cps.toList<i.cps.toList))) H):=by
 intro pins s O H x y v u Q I rx ry h;let#[i,j,rfl,rfl,q]:=h;let#[t,rfl]:=rx;let#[t',rfl]:=ry;exact Zb (C_ I q rfl)
section
open PySem.SeqAt
variable{pins:M (Addr×Obj)}{O:L2.St}{H:Hp}{s:ak}
theorem aU.len'{K:aa}:∀{ds:M D}{vs:M V},aU K H ds vs->vs.length=ds.length
|[],_,h=>by cases h;rfl
|d::ds,_,h=>by
 let#[v,r,rfl,_,h3]:=h;simp[aU.len' h3]
def Rd.rS{K:aa}(h:Rd H a (.lst xs)):iC K H a xs:=.inl h
mutual
theorem En(I:L2.Inv X pins O H s):∀(dx dy:D) (v:V) (n m:L),nu dx n=J->nu dy m=J->bg X.K H dx v->bg X.K H dy v->jP dx dy=J
|.non,dy,v,n,m,hn,hm,r,q=>by
 cases r;cases dy with
 |non=>rfl
 |str z=>cases q.1
 |lst o es=>let#[a,vs,z,_]:=q;cases z
 |tup es=>let#[a,vs,z,_]:=q;cases z
 |cst es=>cases hm
 |adr _ es=>cases hm
 |_=>cases q
|.bl b,dy,v,n,m,hn,hm,r,q=>by
 cases r;cases dy with
 |bl c=>cases q;simp[jP]
 |str z=>cases q.1
 |lst o es=>let#[a,vs,z,_]:=q;cases z
 |tup es=>let#[a,vs,z,_]:=q;cases z
 |cst es=>cases hm
 |adr _ es=>cases hm
 |_=>cases q
|.int b,dy,v,n,m,hn,hm,r,q=>by
 cases r;cases dy with
 |int c=>cases q;simp[jP]
 |str z=>cases q.1
 |lst o es=>let#[a,vs,z,_]:=q;cases z
 |tup es=>let#[a,vs,z,_]:=q;cases z
 |cst es=>cases hm
 |adr _ es=>cases hm
 |_=>cases q
|.str b,dy,v,n,m,hn,hm,r,q=>by
 let#[rfl,_]:=r;cases dy with
 |str c=>cases q.1;simp[jP]
 |lst o es=>let#[a,vs,z,_]:=q;cases z
 |tup es=>let#[a,vs,z,_]:=q;cases z
 |cst es=>cases hm
 |adr _ es=>cases hm
 |_=>cases q
|.lst o ds,dy,v,n,m,hn,hm,r,q=>by
 let#[a,vs,rfl,h2,h3,h4]:=r;cases n with
 |zero=>cases hn
 |succ n=>
 cases dy with
 |lst o' es=>
  let#[a',us,e,k2,k3,k4]:=q;cases e;cases m with
  |zero=>cases hm
  |succ m=>
  have e:=I.tR (Rd.rS h2) (Rd.rS k2);subst e;exact Cb I ds es vs n m hn hm h4 k4
 |tup es=>
  let#[a',us,e,k2,k3,k4]:=q;cases e;let#[its,_,#[o1,n1,e1,c1,_],_]:=I.list (Rd.rS h2);let#[its2,_,#[o2,e2,c2,_],_]:=I.tuple (tupS k2).nc;rw[e1]at e2;cases e2;rw[c1]at c2;exact aG c2 (by decide)
 |str z=>cases q.1
 |cst es=>cases hm
 |adr _ es=>cases hm
 |_=>cases q
|.tup ds,dy,v,n,m,hn,hm,r,q=>by
 let#[a,vs,rfl,h2,h3,h4]:=r;cases n with
 |zero=>cases hn
 |succ n=>
 cases dy with
 |tup es=>
  let#[a',us,e,k2,k3,k4]:=q;cases e;cases m with
  |zero=>cases hm
  |succ m=>
  have e:=I.uO (tupS h2).nc (tupS k2).nc;subst e;exact Cb I ds es vs n m hn hm h4 k4
 |lst o es=>
  let#[a',us,e,k2,k3,k4]:=q;cases e;let#[its,_,#[o1,n1,e1,c1,_],_]:=I.list (Rd.rS k2);let#[its2,_,#[o2,e2,c2,_],_]:=I.tuple (tupS h2).nc;rw[e1]at e2;cases e2;rw[c1]at c2;exact aG c2 (by decide)
 |str z=>cases q.1
 |cst es=>cases hm
 |adr _ es=>cases hm
 |_=>cases q
|.cst _,dy,v,n,m,hn,hm,r,q=>by cases hn
|.adr _ _,dy,v,n,m,hn,hm,r,q=>by cases hn
theorem Cb(I:L2.Inv X pins O H s):∀(ds es:M D) (vs:M V) (n m:L),gi ds n=J->gi es m=J->aU X.K H ds vs->aU X.K H es vs->o7 ds es=J
|[],es,vs,n,m,hn,hm,r,q=>by
 cases r;cases es with
 |nil=>rfl
 |cons e es=>let#[_,_,z,_]:=q;cases z
|d::ds,es,vs,n,m,hn,hm,r,q=>by
 let#[v,r',rfl,r1,r2]:=r;cases es with
 |nil=>cases q
 |cons e es=>
  let#[w,q',z,q1,q2]:=q;cases z;have hn':nu d n=J/\gi ds n=J:=by simpa[gi]using hn
  have hm':nu e m=J/\gi es m=J:=by simpa[gi]using hm
  show(jP d e&&o7 ds es)=J;rw[En I d e v n m hn'.1 hm'.1 r1 q1,Cb I ds es r' n m hn'.2 hm'.2 r2 q2];rfl
end
structure Eqs (A:cR) (s:ak) (v u:S) (b:Bool):Prop where
 eq:EqAt A s v u b
 rc:RcAt A s v u b
 ne:RcNeAt A s v u (!b)
def qL(A:cR)(s:ak):M D->M D->M S->M S->Prop
|d::ds,e::es,v::vs,u::us=>EqAt A s v u (jP d e)/\qL A s ds es vs us
|_,_,_,_=>True
theorem qL.get:∀{ds es:M D}{vs us:M S} (j:L) {d e:D}{v u:S},qL A s ds es vs us->ds[j]?=Y d->es[j]?=Y e->vs[j]?=Y v->us[j]?=Y u->EqAt A s v u (jP d e)
|d::ds,e::es,v::vs,u::us,0,_,_,_,_,h,a,b,c,f=>by
 simp at a b c f;subst a b c f;exact h.1
|d::ds,e::es,v::vs,u::us,j+1,_,_,_,_,h,a,b,c,f=>qL.get j h.2 (by simpa using a) (by simpa using b) (by simpa using c) (by simpa using f)
|[],_,_,_,j,_,_,_,_,_,a,_,_,_=>by simp at a
|_::_,[],_,_,j,_,_,_,_,_,_,b,_,_=>by simp at b
|_::_,_::_,[],_,j,_,_,_,_,_,_,_,c,_=>by simp at c
|_::_,_::_,_::_,[],j,_,_,_,_,_,_,_,_,f=>by simp at f
def eqAt'(ds es:M D)(j:L):Bool:=match ds[j]?,es[j]? with
|some d,Y e=>jP d e
|_,_=>J
theorem Cc:∀(ds es:M D),ds.length=es.length->(bH ds.length).all (eqAt' ds es)=o7 ds es
|[],[],_=>rfl
|d::ds,e::es,h=>by
 have ih:=Cc ds es (by simpa using h);rw[aT,nW,yH,jH];show(jP d e&&(bH ds.length).all (eqAt' (d::ds) (e::es)∘Nat.succ))=(jP d e&&o7 ds es);rw[<-ih];congr 1
|[],_::_,h=>by simp at h
|_::_,[],h=>by simp at h
theorem Cd:∀(ds es:M D),ds.length≠es.length->o7 ds es=W
|[],[],h=>aG rfl h
|[],_::_,_=>rfl
|_::_,[],_=>rfl
|d::ds,e::es,h=>by
 show(jP d e&&o7 ds es)=W;rw[Cd ds es (λz=>h (by simp[z]))];simp
def OX(hl:s.heap.IsList a its.toArray)(hb:s.heap.IsList b its2.toArray)(l1:its.length=ds.length)(l2:its2.length=es.length)(hu:A.units<eB)(he:qL A.in1 s ds es its its2):RcAt A s (.ref a) (.ref b) (o7 ds es)/\RcNeAt A s (.ref a) (.ref b) (!o7 ds es):=by
 by_cases hz:ds.length=es.length
 ·have hsz:its.toArray.size=its2.toArray.size:=by simp;lia
  have he':∀j (h1:j<its.toArray.size) (h2:j<its2.toArray.size),EqAt A.in1 s its.toArray[j] its2.toArray[j] (eqAt' ds es j):=by
   intro j h1 h2;have g1:j<its.length:=by simpa using h1
   have g2:j<its2.length:=by simpa using h2
   have e1:=aH (l:=ds) (i:=j) (by lia);have e2:=aH (l:=es) (i:=j) (by lia);have:=he.get j e1 e2 (aH g1) (aH g2);unfold eqAt';rw[e1,e2];simpa using this
  have r1:=RcAt.lists hl hb hsz hu he';have r2:=RcNeAt.lists hl hb hsz hu he';have ez:its.toArray.size=ds.length:=by simp;omega
  rw[ez,Cc ds es hz]at r1 r2;exact#[r1,r2]
 ·have hsz:(its.toArray.size != its2.toArray.size)=J:=by simp;lia
  rw[Cd ds es hz];exact#[RcAt.lists_lengths hl hb hsz hu,RcNeAt.lists_lengths hl hb hsz hu]
def MN(hl:s.heap.IsTuple a its.toArray)(hb:s.heap.IsTuple b its2.toArray)(l1:its.length=ds.length)(l2:its2.length=es.length)(hu:A.units<eB)(he:qL A.in1 s ds es its its2):RcAt A s (.ref a) (.ref b) (o7 ds es)/\RcNeAt A s (.ref a) (.ref b) (!o7 ds es):=by
 have he':∀j (h1:j<its.toArray.size) (h2:j<its2.toArray.size),EqAt A.in1 s its.toArray[j] its2.toArray[j] (eqAt' ds es j):=by
  intro j h1 h2;have g1:j<its.length:=by simpa using h1
  have g2:j<its2.length:=by simpa using h2
  have e1:=aH (l:=ds) (i:=j) (by lia);have e2:=aH (l:=es) (i:=j) (by lia);have:=he.get j e1 e2 (aH g1) (aH g2);unfold eqAt';rw[e1,e2];simpa using this
 have r1:=RcAt.tuples hl hb hu he';have r2:=RcNeAt.tuples hl hb hu he';have key:((bH (min its.toArray.size its2.toArray.size)).all (eqAt' ds es)&&its.toArray.size==its2.toArray.size)=o7 ds es:=by
  by_cases hz:ds.length=es.length
  ·have e1:min its.toArray.size its2.toArray.size=ds.length:=by simp;lia
   have e2:(its.toArray.size==its2.toArray.size)=J:=by simp;lia
   rw[e1,e2,Cc ds es hz,G1]
  ·have e2:(its.toArray.size==its2.toArray.size)=W:=by simp;lia
   rw[e2,wR,Cd ds es hz]
 rw[key]at r1 r2;exact#[r1,r2]
def PlainL.is(p:PlainL h a its):h.IsList a its:=by
 let#[o,n,e,c,_,d]:=p;exact#[o,e,c,n,d]
def IsTup.is(p:IsTup h a its):h.IsTuple a its:=p
mutual
theorem G_(I:L2.Inv X pins O H s):∀(dx dy:D) (n m:L) (x y:V) (v u:S) (A:cR),nu dx n=J->nu dy m=J->bg X.K H dx x->L2.RelV x v->bg X.K H dy y->L2.RelV y u->A.units+n<eB->Eqs A s v u (jP dx dy)
|.non,dy,n,m,x,y,v,u,A,hn,hm,r,rv,q,qu,hu=>by
 have hu':A.units<eB:=by omega
 cases r;cases rv;cases dy with
 |non=>cases q;cases qu;exact#[EqAt.same _,RcAt.none_none,RcNeAt.none_none]
 |bl b=>cases q;cases qu;exact#[EqAt.none_bool b,RcAt.none_bool b,RcNeAt.none_bool b]
 |int i=>cases q;let#[t,rfl]:=qu;exact#[EqAt.none_int i t,RcAt.none_int i t,RcNeAt.none_int i t]
 |str z=>let#[rfl,_]:=q;let#[t,rfl]:=qu;exact#[EqAt.none_str z t,RcAt.none_str z t,RcNeAt.none_str z t]
 |lst o es=>
  let#[b,us,rfl,k2,k3,k4]:=q;cases qu;let#[its,_,p,_]:=I.list (Rd.rS k2);exact#[EqAt.none_list (PlainL.is p) hu',RcAt.none_list (PlainL.is p) hu',RcNeAt.none_list (PlainL.is p) hu']
 |tup es=>
  let#[b,us,rfl,k2,k3,k4]:=q;cases qu;let#[its,_,p,_]:=I.tuple (tupS k2).nc;exact#[EqAt.none_tuple (IsTup.is p) hu',RcAt.none_tuple (IsTup.is p) hu',RcNeAt.none_tuple (IsTup.is p) hu']
 |cst _=>cases hm
 |adr _ _=>cases hm
|.bl a,dy,n,m,x,y,v,u,A,hn,hm,r,rv,q,qu,hu=>by
 have hu':A.units<eB:=by omega
 cases r;cases rv;cases dy with
 |non=>cases q;cases qu;exact#[EqAt.bool_none a,RcAt.bool_none a,RcNeAt.bool_none a]
 |bl b=>cases q;cases qu;exact#[EqAt.bool_bool a b,RcAt.bool_bool a b,RcNeAt.bool_bool a b]
 |int i=>cases q;let#[t,rfl]:=qu;exact#[EqAt.bool_int a i t,RcAt.bool_int a i t,RcNeAt.bool_int a i t]
 |str z=>let#[rfl,_]:=q;let#[t,rfl]:=qu;exact#[EqAt.bool_str a z t,RcAt.bool_str a z t,RcNeAt.bool_str a z t]
 |lst o es=>
  let#[b,us,rfl,k2,k3,k4]:=q;cases qu;let#[its,_,p,_]:=I.list (Rd.rS k2);exact#[EqAt.bool_list a (PlainL.is p) hu',RcAt.bool_list a (PlainL.is p) hu',RcNeAt.bool_list a (PlainL.is p) hu']
 |tup es=>
  let#[b,us,rfl,k2,k3,k4]:=q;cases qu;let#[its,_,p,_]:=I.tuple (tupS k2).nc;exact#[EqAt.bool_tuple a (IsTup.is p) hu',RcAt.bool_tuple a (IsTup.is p) hu',RcNeAt.bool_tuple a (IsTup.is p) hu']
 |cst _=>cases hm
 |adr _ _=>cases hm
|.int a,dy,n,m,x,y,v,u,A,hn,hm,r,rv,q,qu,hu=>by
 have hu':A.units<eB:=by omega
 cases r;let#[tt,rfl]:=rv;cases dy with
 |non=>cases q;cases qu;exact#[EqAt.int_none a tt,RcAt.int_none a tt,RcNeAt.int_none a tt]
 |bl b=>cases q;cases qu;exact#[EqAt.int_bool a tt b,RcAt.int_bool a tt b,RcNeAt.int_bool a tt b]
 |int i=>cases q;let#[t,rfl]:=qu;exact#[EqAt.int_int a tt i t,RcAt.int_int a tt i t,RcNeAt.int_int a tt i t]
 |str z=>let#[rfl,_]:=q;let#[t,rfl]:=qu;exact#[EqAt.int_str a tt z t,RcAt.int_str a tt z t,RcNeAt.int_str a tt z t]
 |lst o es=>
  let#[b,us,rfl,k2,k3,k4]:=q;cases qu;let#[its,_,p,_]:=I.list (Rd.rS k2);exact#[EqAt.int_list a tt (PlainL.is p) hu',RcAt.int_list a tt (PlainL.is p) hu',RcNeAt.int_list a tt (PlainL.is p) hu']
 |tup es=>
  let#[b,us,rfl,k2,k3,k4]:=q;cases qu;let#[its,_,p,_]:=I.tuple (tupS k2).nc;exact#[EqAt.int_tuple a tt (IsTup.is p) hu',RcAt.int_tuple a tt (IsTup.is p) hu',RcNeAt.int_tuple a tt (IsTup.is p) hu']
 |cst _=>cases hm
 |adr _ _=>cases hm
|.str a,dy,n,m,x,y,v,u,A,hn,hm,r,rv,q,qu,hu=>by
 have hu':A.units<eB:=by omega
 let#[rfl,_]:=r;let#[tt,rfl]:=rv;cases dy with
 |non=>cases q;cases qu;exact#[EqAt.str_none a tt,RcAt.str_none a tt,RcNeAt.str_none a tt]
 |bl b=>cases q;cases qu;exact#[EqAt.str_bool a tt b,RcAt.str_bool a tt b,RcNeAt.str_bool a tt b]
 |int i=>cases q;let#[t,rfl]:=qu;exact#[EqAt.str_int a tt i t,RcAt.str_int a tt i t,RcNeAt.str_int a tt i t]
 |str z=>let#[rfl,_]:=q;let#[t,rfl]:=qu;exact#[EqAt.str_str a tt z t,RcAt.str_str a tt z t,RcNeAt.str_str a tt z t]
 |lst o es=>
  let#[b,us,rfl,k2,k3,k4]:=q;cases qu;let#[its,_,p,_]:=I.list (Rd.rS k2);exact#[EqAt.str_list a tt (PlainL.is p) hu',RcAt.str_list a tt (PlainL.is p) hu',RcNeAt.str_list a tt (PlainL.is p) hu']
 |tup es=>
  let#[b,us,rfl,k2,k3,k4]:=q;cases qu;let#[its,_,p,_]:=I.tuple (tupS k2).nc;exact#[EqAt.str_tuple a tt (IsTup.is p) hu',RcAt.str_tuple a tt (IsTup.is p) hu',RcNeAt.str_tuple a tt (IsTup.is p) hu']
 |cst _=>cases hm
 |adr _ _=>cases hm
|.lst o ds,dy,n,m,x,y,v,u,A,hn,hm,r,rv,q,qu,hu=>by
 have hu':A.units<eB:=by omega
 have hr:=r;let#[a,vs,rfl,h2,h3,h4]:=r;cases rv;let#[its,rits,p,_]:=I.list (Rd.rS h2);have hn0:=hn;cases n with
 |zero=>cases hn
 |succ n=>
 cases dy with
 |non=>cases q;cases qu;exact#[EqAt.list_none (PlainL.is p) hu',RcAt.list_none (PlainL.is p) hu',RcNeAt.list_none (PlainL.is p) hu']
 |bl b=>cases q;cases qu;exact#[EqAt.list_bool b (PlainL.is p) hu',RcAt.list_bool b (PlainL.is p) hu',RcNeAt.list_bool b (PlainL.is p) hu']
 |int i=>cases q;let#[t,rfl]:=qu;exact#[EqAt.list_int i t (PlainL.is p) hu',RcAt.list_int i t (PlainL.is p) hu',RcNeAt.list_int i t (PlainL.is p) hu']
 |str z=>let#[rfl,_]:=q;let#[t,rfl]:=qu;exact#[EqAt.list_str z t (PlainL.is p) hu',RcAt.list_str z t (PlainL.is p) hu',RcNeAt.list_str z t (PlainL.is p) hu']
 |lst o' es=>
  have hq:=q;let#[b,us,rfl,k2,k3,k4]:=q;cases qu;let#[its2,rits2,p2,_]:=I.list (Rd.rS k2);have hm0:=hm;cases m with
  |zero=>cases hm
  |succ m=>
  let#[r1,r2]:=OX (A:=A) (ds:=ds) (es:=es) (PlainL.is p) (PlainL.is p2) (by rw[<-rits.length,aU.len' h4]) (by rw[<-rits2.length,aU.len' k4]) hu' (HZ I ds es n m vs us its its2 A.in1 hn hm h4 rits k4 rits2 (by show A.units+1+n<eB;omega));refine#[?_,r1,r2];by_cases e:a=b
  ·subst e;have z:=En I (.lst o ds) (.lst o' es) (.ref a) (n+1) (m+1) hn0 hm0 hr hq;rw[z];exact EqAt.same _
  ·exact EqAt.of_refs e r1
 |tup es=>
  let#[b,us,rfl,k2,k3,k4]:=q;cases qu;let#[its2,_,p2,_]:=I.tuple (tupS k2).nc;exact#[EqAt.list_tuple (PlainL.is p) (IsTup.is p2) hu',RcAt.list_tuple (PlainL.is p) (IsTup.is p2) hu',RcNeAt.list_tuple (PlainL.is p) (IsTup.is p2) hu']
 |cst _=>cases hm
 |adr _ _=>cases hm
|.tup ds,dy,n,m,x,y,v,u,A,hn,hm,r,rv,q,qu,hu=>by
 have hu':A.units<eB:=by omega
 have hr:=r;let#[a,vs,rfl,h2,h3,h4]:=r;cases rv;let#[its,rits,p,_]:=I.tuple (tupS h2).nc;have hn0:=hn;cases n with
 |zero=>cases hn
 |succ n=>
 cases dy with
 |non=>cases q;cases qu;exact#[EqAt.tuple_none (IsTup.is p) hu',RcAt.tuple_none (IsTup.is p) hu',RcNeAt.tuple_none (IsTup.is p) hu']
 |bl b=>cases q;cases qu;exact#[EqAt.tuple_bool b (IsTup.is p) hu',RcAt.tuple_bool b (IsTup.is p) hu',RcNeAt.tuple_bool b (IsTup.is p) hu']
 |int i=>cases q;let#[t,rfl]:=qu;exact#[EqAt.tuple_int i t (IsTup.is p) hu',RcAt.tuple_int i t (IsTup.is p) hu',RcNeAt.tuple_int i t (IsTup.is p) hu']
 |str z=>let#[rfl,_]:=q;let#[t,rfl]:=qu;exact#[EqAt.tuple_str z t (IsTup.is p) hu',RcAt.tuple_str z t (IsTup.is p) hu',RcNeAt.tuple_str z t (IsTup.is p) hu']
 |tup es=>
  have hq:=q;let#[b,us,rfl,k2,k3,k4]:=q;cases qu;let#[its2,rits2,p2,_]:=I.tuple (tupS k2).nc;have hm0:=hm;cases m with
  |zero=>cases hm
  |succ m=>
  let#[r1,r2]:=MN (A:=A) (ds:=ds) (es:=es) (IsTup.is p) (IsTup.is p2) (by rw[<-rits.length,aU.len' h4]) (by rw[<-rits2.length,aU.len' k4]) hu' (HZ I ds es n m vs us its its2 A.in1 hn hm h4 rits k4 rits2 (by show A.units+1+n<eB;omega));refine#[?_,r1,r2];by_cases e:a=b
  ·subst e;have z:=En I (.tup ds) (.tup es) (.ref a) (n+1) (m+1) hn0 hm0 hr hq;rw[z];exact EqAt.same _
  ·exact EqAt.of_refs e r1
 |lst o es=>
  let#[b,us,rfl,k2,k3,k4]:=q;cases qu;let#[its2,_,p2,_]:=I.list (Rd.rS k2);exact#[EqAt.tuple_list (IsTup.is p) (PlainL.is p2) hu',RcAt.tuple_list (IsTup.is p) (PlainL.is p2) hu',RcNeAt.tuple_list (IsTup.is p) (PlainL.is p2) hu']
 |cst _=>cases hm
 |adr _ _=>cases hm
|.cst _,dy,n,m,x,y,v,u,A,hn,hm,r,rv,q,qu,hu=>by cases hn
|.adr _ _,dy,n,m,x,y,v,u,A,hn,hm,r,rv,q,qu,hu=>by cases hn
theorem HZ(I:L2.Inv X pins O H s):∀(ds es:M D) (n m:L) (vs us:M V) (its its2:M S) (A:cR),gi ds n=J->gi es m=J->aU X.K H ds vs->bN vs its->aU X.K H es us->bN us its2->A.units+n<eB->qL A s ds es its its2
|[],es,n,m,vs,us,its,its2,A,hn,hm,r,rv,q,qu,hu=>by cases its<;>trivial
|d::ds,[],n,m,vs,us,its,its2,A,hn,hm,r,rv,q,qu,hu=>by cases its<;>trivial
|d::ds,e::es,n,m,vs,us,its,its2,A,hn,hm,r,rv,q,qu,hu=>by
 have hn':nu d n=J/\gi ds n=J:=by simpa[gi]using hn
 have hm':nu e m=J/\gi es m=J:=by simpa[gi]using hm
 let#[x,vr,rfl,r1,r2]:=r;let#[y,ur,rfl,q1,q2]:=q;cases rv with
 |cons rv1 rv2=>
  cases qu with
  |cons qu1 qu2=>
   exact#[(G_ I d e n m x y _ _ A hn'.1 hm'.1 r1 rv1 q1 qu1 hu).eq,HZ I ds es n m vr ur _ _ A hn'.2 hm'.2 r2 rv2 q2 qu2 hu]
end
end
def abJ(hu:X.A.units+60<eB):jO X (gR .Eq) (λx y H Q=>∃dx dy,bg X.K H dx x/\bg X.K H dy y/\dY dx=J/\dY dy=J/\Q (.bl (jP dx dy)) H):=by
 intro pins s O H x y v u Q I rx ry h;let#[dx,dy,h1,h2,h3,h4,q]:=h;exact(G_ I dx dy 12 12 x y v u X.A h3 h4 h1 rx h2 ry (by lia)).rc X.prog X.w X.xe _ #[.bl (jP dx dy),H,I,rfl,q]
def abK(hu:X.A.units+60<eB):jO X (gR .NotEq) (λx y H Q=>∃dx dy,bg X.K H dx x/\bg X.K H dy y/\dY dx=J/\dY dy=J/\Q (.bl (!jP dx dy)) H):=by
 intro pins s O H x y v u Q I rx ry h;let#[dx,dy,h1,h2,h3,h4,q]:=h;exact(G_ I dx dy 12 12 x y v u X.A h3 h4 h1 rx h2 ry (by lia)).ne X.prog X.w X.xe _ #[.bl (!jP dx dy),H,I,rfl,q]
def Dh:∀(ds:M D) (its:M S),its.length=ds.length->(∀(j:L) d v,ds[j]?=Y d->its[j]?=Y v->uC A s v x (jP d dx))->
  ∃e:S->Bool,(∀y,y∈its.toArray->uC A s y x (e y))/\its.toArray.any e=memD dx ds:=by
 intro ds its hl he
 classical
 refine#[λv=>decide (∃(j:L) (d:D),its[j]?=Y v/\ds[j]?=Y d/\jP d dx=J),λy hy=>?_,?_]
 ·have hy:y∈its:=by simpa using hy
  let#[j,hj,ej]:=lU hy;dsimp only;by_cases h:∃(j:L) (d:D),its[j]?=Y y/\ds[j]?=Y d/\jP d dx=J
  ·rw[aC h];let#[k,d,h1,h2,h3]:=h;have:=he k d y h2 h1;rw[h3]at this;exact this
  ·rw[aN h];have e1:ds[j]?=Y ds[j]:=aH (by omega);have e2:its[j]?=Y y:=by rw[aH hj,ej]
   have:=he j _ y e1 e2;cases q:jP ds[j] dx with
   |true=>exact aG #[j,_,e2,e1,q] h
   |false=>rw[q]at this;exact this
 ·rw[iU];unfold memD;simp only[List.any_toArray,oO,cK];constructor
  ·rintro⟨v,_,j,d,h1,h2,h3⟩;exact#[d,dH h2,h3]
  ·rintro⟨d,hd,h3⟩;let#[j,hj,ej]:=lU hd;have g1:its[j]?=Y its[j]:=aH (by omega);exact#[its[j],jI _,j,d,g1,by rw[aH hj,ej],h3]
theorem tU(hu:X.A.units+60<eB)(I:L2.Inv X pins O H s)(rx:bg X.K H dx x)(rv:L2.RelV x v)(hx:nu dx 12=J):∀{ds:M D}{xs:M V}{its:M S},aU X.K H ds xs->bN xs its->gi ds 12=J->∀(j:L) d w,ds[j]?=Y d->its[j]?=Y w->uC X.A.in1 s w v (jP d dx)
|[],_,_,_,_,_,j,d,w,h,_=>by simp at h
|e::ds,_,_,r,rr,ho,j,d,w,h1,h2=>by
 let#[y,ys,rfl,r1,r2]:=r;have ho':nu e 12=J/\gi ds 12=J:=by simpa[gi]using ho
 cases rr with
 |cons ra rb=>
  cases j with
  |zero=>
   simp at h1 h2;subst h1 h2;exact(G_ I e dx 12 12 y x _ v X.A.in1 ho'.1 hx r1 ra rx rv (by lia)).eq
  |succ j=>exact tU hu I rx rv hx r2 rb ho'.2 j d w (by simpa using h1) (by simpa using h2)
def AS(hu:X.A.units+60<eB)(op:yb):jO X (gR op) (nv X.K op):=by
 intro pins s O H x y v u Q I rx ry h;unfold nv at h;split at h
 ·exact abu pins s O H _ _ v u Q I rx ry #[_,_,rfl,rfl,h]
 ·exact abv pins s O H _ _ v u Q I rx ry #[_,_,rfl,rfl,h]
 ·exact abw pins s O H _ _ v u Q I rx ry #[_,_,rfl,rfl,h]
 ·exact abx pins s O H _ _ v u Q I rx ry #[_,_,rfl,rfl,h]
 ·exact OB pins s O H _ _ v u Q I rx ry #[_,_,rfl,rfl,h]
 ·exact OW pins s O H _ _ v u Q I rx ry #[_,_,rfl,rfl,h]
 ·exact abJ hu pins s O H _ _ v u Q I rx ry h
 ·exact abK hu pins s O H _ _ v u Q I rx ry h
 ·exact ZM pins s O H _ _ v u Q I rx ry #[rfl,h]
 ·exact Xw pins s O H _ _ v u Q I rx ry #[rfl,h]
 ·rename_i a;cases(show u=c8 a from ry);rcases h with⟨t,xs,dx,ds,hx,h1,h2,h3,h4,q⟩|⟨kvs,k,hk,rfl,q⟩|⟨kvs,k,b,hk,rfl,hb,q⟩
  ·cases t with
   |false=>
    let#[its,r,p,_]:=I.list hx.Ln;let#[e,e1,e2]:=Dh (A:=X.A.in1) (s:=s) (x:=v) (dx:=dx) ds its (by rw[<-r.length,aU.len' h2]) (tU hu I h1 rx h3 h2 r h4);exact Ms e (PlainL.is p) e1 #[.bl (its.toArray.any e),H,I,rfl,by rw[e2];exact q]
   |true=>
    let#[its,r,p,_]:=I.tuple hx.nc;let#[e,e1,e2]:=Dh (A:=X.A.in1) (s:=s) (x:=v) (dx:=dx) ds its (by rw[<-r.length,aU.len' h2]) (tU hu I h1 rx h3 h2 r h4);exact K6 e (IsTup.is p) e1 #[.bl (its.toArray.any e),H,I,rfl,by rw[e2];exact q]
  ·exact ZY (by lia) I (.inl #[kvs,k,hk,rfl,rfl]) rx λs3 I3=>#[.bl (jQ kvs k).isSome,H,I3,rfl,q]
  ·exact ZY (by lia) I (.inr #[kvs,k,b,hk,rfl,hb,rfl]) rx λs3 I3=>#[.bl (jQ kvs k).isSome,H,I3,rfl,q]
 ·rename_i a;cases(show u=c8 a from ry);rcases h with⟨t,xs,dx,ds,hx,h1,h2,h3,h4,q⟩|⟨kvs,k,hk,rfl,q⟩|⟨kvs,k,b,hk,rfl,hb,q⟩
  ·cases t with
   |false=>
    let#[its,r,p,_]:=I.list hx.Ln;let#[e,e1,e2]:=Dh (A:=X.A.in1) (s:=s) (x:=v) (dx:=dx) ds its (by rw[<-r.length,aU.len' h2]) (tU hu I h1 rx h3 h2 r h4);exact J_ e (PlainL.is p) e1 #[.bl (!its.toArray.any e),H,I,rfl,by rw[e2];exact q]
   |true=>
    let#[its,r,p,_]:=I.tuple hx.nc;let#[e,e1,e2]:=Dh (A:=X.A.in1) (s:=s) (x:=v) (dx:=dx) ds its (by rw[<-r.length,aU.len' h2]) (tU hu I h1 rx h3 h2 r h4);exact Hx e (IsTup.is p) e1 #[.bl (!its.toArray.any e),H,I,rfl,by rw[e2];exact q]
  ·exact Lj (by lia) I (.inl #[kvs,k,hk,rfl,rfl]) rx λs3 I3=>#[.bl (!(jQ kvs k).isSome),H,I3,rfl,q]
  ·exact Lj (by lia) I (.inr #[kvs,k,b,hk,rfl,hb,rfl]) rx λs3 I3=>#[.bl (!(jQ kvs k).isSome),H,I3,rfl,q]
 ·exact h.elim
def Wq:ZC X (λx H Q=>ny X.K x H λb=>Q b H):=by
 intro pins s O H x v Q I rx h;refine ZN pins s O H x v Q I rx ?_;cases x with
 |bl b=>exact#[b,rfl,h]
 |non=>exact#[W,rfl,h]
 |int i=>exact#[_,rfl,h]
 |str z=>
  let#[hz,h]:=h;refine#[_,#[hz,rfl],?_];have e:((z.length:Int) != 0)=(z.length != 0):=by
   rw[iU];simp
  rw[e];exact h
 |ref a=>
  rcases h with⟨t,xs,hx,h⟩|⟨kvs,hk,h⟩
  ·refine#[_,?_,h];rcases hx.sq with⟨_,z⟩|⟨_,z⟩
   ·exact .inl #[xs,z,rfl]
   ·exact .inr (.inl #[xs,z,rfl])
  ·exact#[_,.inr (.inr #[kvs,hk,rfl]),h]
 |_=>exact aJ h
def Lo(hu:X.A.units+60<eB):Li X (λx y H Q=>∃a v,x=.ref a/\HV H a y (Y v)/\Q v H):=by
 intro value slice pins s O H x y v u Q I rx ry h hs;let#[a,z,rfl,g,q]:=h;cases(show v=c8 a from rx);have hT:=Ku I g;unfold GW;refine aA ?_;rw[getitemInPython_of_ne hT.not_modules];refine aA (wpAny_specialOf hT Hz.lookup ?_);have fin:aO (a7 X.prog X.w) X.A (B3 slice W (.ref a) u) (λr aeD=>aO (a7 X.prog X.w) X.A (letTemporaryGo value (.ref a) r >>= λ_=>pure r) (EP X pins O Q) X.xe aeD) X.xe s:=by
  rw[hs];exact wpAny_operating (sX (OR (by lia) I g ry λw' s3 I3 rw'=>(#[z,H,I3,rw',q]:EP X pins O Q w' s3)) (λr aeD aeP=>aA (wpAny_letTemporaryGo (bO aeP))) λ_ _ x=>x)
 first
  |exact bO (aA fin)
  |exact aA (bO (aA fin))
  |exact aA fin
def ixOk(hu:X.A.units+60<eB):Li X (HY X.K):=by
 intro value slice pins s O H x y v u Q I rx ry h;unfold HY at h;split at h
 ·let#[hz,c,e,q]:=h;exact ZU value slice pins s O H _ _ v u Q I rx ry #[_,_,c,rfl,rfl,hz,e,q]
 ·rcases h with⟨t,xs,i,w,rfl,hx,e,q⟩|⟨kvs,k,w,hk,rfl,e,q⟩|⟨kvs,k,b,w,hk,rfl,hb,e,q⟩
  ·rcases hx.sq with⟨_,z⟩|⟨_,z⟩
   ·exact XF value slice pins s O H _ _ v u Q I rx ry #[_,xs,_,w,rfl,rfl,z,e,q]
   ·exact ZT value slice pins s O H _ _ v u Q I rx ry #[_,xs,_,w,rfl,rfl,z,e,q]
  ·exact Lo hu value slice pins s O H _ _ v u Q I rx ry #[_,w,rfl,.inl #[kvs,k,hk,rfl,e.symm],q]
  ·exact Lo hu value slice pins s O H _ _ v u Q I rx ry #[_,w,rfl,.inr #[kvs,k,b,hk,rfl,hb,e.symm],q]
 ·exact h.elim
end
def Hf(n d:L)(v:Int):max 0 (min (if v<0 then v+(n:Int)else v) (n:Int))=((HT.lX n d (Y v):L):Int):=by
 show max 0 (min (if v<0 then v+(n:Int)else v) (n:Int))=(((if v<0 then(v+(n:Int)).toNat else min v.toNat n):L):Int);by_cases hv:v<0
 ·simp only[aB hv];lia
 ·simp only[aD hv];lia
def Eo(a b:L):yc (a:Int) (b:Int) 1=(bH (b-a)).map λm=>a+m:=by
 unfold yc;have h1:(1:Int)>0:=by lia
 simp only[h1,ie];have e3:(if(a:Int)<(b:Int)then((b:Int)-(a:Int)+1-1) / 1 else 0).toNat=b-a:=by lia
 rw[e3];congr 1;funext k
 lia
def idx_eq(lo hi:aaV Int)(n:L):dS lo hi 1 n=(bH (HT.lX n n hi-HT.lX n 0 lo)).map λm=>HT.lX n 0 lo+m:=by
 rw[<-Eo];have h1:(1:Int)>0:=by lia
 unfold dS;simp only[h1,ie];cases lo with
 |none=>cases hi with
  |none=>rfl
  |some v=>simp only[Hf n n v];rfl
 |some w=>cases hi with
  |none=>simp only[Hf n 0 w];rfl
  |some v=>simp only[Hf n n v,Hf n 0 w]
def MO{α:Type}(l:M α)(i:L):∀k:L,((bH k).map λ(m:L)=>i+m).filterMap (l[·]?)=(l.drop i).take k:=by
 intro k;induction k with
 |zero=>simp
 |succ k ih=>
  rw[Ea,cC,List.filterMap_append,ih,List.map_singleton,lT,List.filterMap_nil];cases h:l[i+k]? with
  |none=>
   have hl:=sZ.mp h;simp only[bK];rw[gC (by rw[fE];omega),gC (by rw[fE];omega)]
  |some c=>
   rw[List.take_succ,rO,h];rfl
def SW(a:Array L):∀is:M L,is.filterMap (a[·]?)=is.filterMap (a.toList[·]?)
|[]=>rfl
|i::r=>by simp
def H9(x:Str)(lo hi:aaV Int):(dS lo hi 1 x.length).filterMap (x.cps[·]?)=cut x.cps.toList lo hi:=by
 have len:x.cps.toList.length=x.length:=by rfl
 rw[SW,idx_eq,MO];unfold cut;rw[len]
def Z9{α:Type}(l:M α)(lo hi:aaV Int):(cut l lo hi).length<=l.length:=by
 unfold cut;rw[lE,fE]
 lia
def XN(x:Str)(lo hi:aaV Int)(h:(dS lo hi 1 x.length).length=x.length):cut x.cps.toList lo hi=x.cps.toList:=by
 have len:x.cps.toList.length=x.length:=by simp[m9]
 rw[idx_eq,ay,kF]at h;have h2:=HT.ZR x.length x.length (aW _) hi;unfold cut;rw[len];by_cases hz:x.length=0
 ·have:x.cps.toList=[]:=ir (by lia);rw[this];simp
 ·have e0:HT.lX x.length 0 lo=0:=by lia
  rw[e0,rA,gC (by lia)]
section
variable{X:Cx}
def slOk:ZS X (Wm X.K):=by
 intro pins s O H x v vl vu lo hi sl Q I rx hs pl pu h;unfold Wm at h;split at h
 ·rename_i z;let#[hz,q]:=h;let#[t,rfl]:=rx;refine#["str",_,CT.lookup,ju s z t,?_];have key:∀l u:aaV (Int×Tok),vl=partValue l->vu=partValue u->l.map (·.1)=lo->u.map (·.1)=hi->aO (a7 X.prog X.w) X.A (A8 (.str z t) (.ref sl)) (EP X pins O Q) X.xe s:=by
   rintro l u rfl rfl rfl rfl;have hs':=hs;refine wpAny_getItem_str_slice (st:=B) hs' rfl ?_;have len:z.cps.toList.length=z.length:=by rfl
   have hle:=Z9 z.cps.toList (l.map (·.1)) (u.map (·.1));have ec:=H9 z (l.map (·.1)) (u.map (·.1));have fin:∀t' k,EP X pins O Q (.str ⟨(cut z.cps.toList (l.map (·.1)) (u.map (·.1))).toArray⟩ t') { s with toks:=k }:=λt' k=>#[V.str ⟨(cut z.cps.toList (l.map (·.1)) (u.map (·.1))).toArray⟩,H,I.tok _,#[t',rfl],q];show(if((1:Int)==1&&(dS (l.map (·.1)) (u.map (·.1)) 1 z.length).length==z.length)=J then Made.val (.str z t)else Made.str ⟨((dS (l.map (·.1)) (u.map (·.1)) 1 z.length).filterMap (z.cps[·]?)).toArray⟩).post (EP X pins O Q) s;rw[ec];by_cases hc:((1:Int)==1&&(dS (l.map (·.1)) (u.map (·.1)) 1 z.length).length==z.length)=J
   ·rw[aB hc];have hall:cut z.cps.toList (l.map (·.1)) (u.map (·.1))=z.cps.toList:=XN z _ _ (by
     rw[cU]at hc;simpa using hc.2)
    have f:=fin t s.toks;rw[hall]at f;exact f
   ·rw[aD hc];exact#[by show(List.toArray _).size<=ah;rw[bw];lia,fin _ _]
  cases pl with
  |none=>cases pu with
   |none=>exact key B B rfl rfl rfl rfl
   |int j tj=>exact key B (Y (j,tj)) rfl rfl rfl rfl
  |int i ti=>cases pu with
   |none=>exact key (Y (i,ti)) B rfl rfl rfl rfl
   |int j tj=>exact key (Y (i,ti)) (Y (j,tj)) rfl rfl rfl rfl
 ·rcases h with⟨t,xs,hx,ht,q⟩|⟨n,xs,hx,rfl,rfl,h1,h2,q⟩
  ·rcases hx.sq with⟨_,z⟩|⟨hf,z⟩
   ·exact XG pins s O H _ v vl vu lo hi sl Q I rx hs pl pu #[_,xs,rfl,z,q]
   ·rw[ht]at hf;cases hf
  ·cases rx;let#[its,r,pt,hz]:=I.tuple hx.nc;have hlen:=r.length;cases pl with
   |int _ tl=>
    cases pu;refine#["tuple",_,AB.lookup,IsTup.typeIs pt,?_];refine getItem_tuple_from pt hs h1 (by grind) ?_ (by grind);refine#[.ref s.heap.objs.size,_,I.laid (o:=.tup (xs.drop n)) (λb ob q=>aE _ q) (aW _) #[by rw[fE];lia,its.drop n,r.drop n,IsTup.new _ _],rfl,q _ (I.hok.fresh (aW _))]
 ·exact h.elim
theorem Fj:∀{xs:M V}{its:M S}{i:L} (r:bN xs its) (h:i<xs.length) (h':i<its.length),RelV xs[i] its[i]
|_,_,_,.nil,h,_=>aG h (j4 _)
|_,_,0,.cons r1 _,_,_=>r1
|_,_,i+1,.cons _ r2,h,h'=>Fj r2 (nU h) (nU h')
theorem yX(r:bN xs its):∀is:M L,bN (is.filterMap (xs[·]?)) (is.filterMap (its[·]?))
|[]=>.nil
|i::is=>by
 have hl:=r.length;by_cases h:i<xs.length
 ·have h':i<its.length:=by lia
  rw[jJ (aH h),jJ (aH h')];exact .cons (Fj r h h') (yX r is)
 ·rw[jK (by simp;lia),jK (by simp;lia)];exact yX r is
def Z_{te:TE}{lo hi:aaV Expr}{tl th:TO}{k:Int}{j:L}{kp p2 pos:Pos}(he:PE X e te)(hl:PO X lo tl)(hu:PO X hi th):PE X (.Subscript e (.Slice lo hi (Y (.Constant (.int k) j kp)) p2) pos) (λO H Q=>te O H λx H1=>tl O H1 λl H2=>th O H2 λu H3=>SV X.K x l u k H3 Q):=by
 intro pins s O H Q I h;refine D5 (a_ (he pins s O H _ I h) λv s1 ⟨x,H1,I1,r1,q1⟩=>?_);refine K0 (a_ (hl pins s1 O H1 _ I1 q1) λvl s2 ⟨l,H2,I2,pl,q2⟩=>a_ (hu pins s2 O H2 _ I2 q2) λvu s3 ⟨u,H3,I3,pu,q3⟩=>?_);rw[G2];refine a_ (Ou pins s3 O H3 (λy H'=>y=.int k/\H'=H3) I3 #[rfl,rfl]) λvk s4 ⟨y,H4,I4,r4,ey,eH⟩=>?_;subst ey eH;let#[tk,rfl]:=r4;have I5:L2.Inv X pins O H4 { s4 with heap:=s4.heap.push { cls:=.type "slice",data:=.fields (List.toArray [vl,vu,.int k tk]) } }:=I4.kept λb ob q=>aE _ q;cases x with
 |ref a=>
  cases r1;let#[t,xs,hx,ht,#[hk,hz],q]:=q3;subst ht;let#[its,r,ht,hz']:=I5.list hx.Ln;have hlen:=r.length;refine J6 ht.isList.typeIs sy.lookup ?_ (by with_unfolding_all rfl);refine uA ht.isList (Az ..) pl pu (.int k tk) (by simpa using hk) ?_ (by rw[bw];lia);have e1:AD its.toArray l u (Y k)=(o8 its l u k).toArray:=by
   unfold AD o8;simp
  rw[e1];refine#[.ref _,_,I5.laid (λb ob q=>aE _ q) (aW _) ?_,rfl,q _ (I5.hok.fresh (aW _))];refine#[hz,_,0,?_,bD _ rfl];have:=yX r (yc (gW l u (Y k) xs.length).1 (gW l u (Y k) xs.length).2.1 (gW l u (Y k) xs.length).2.2);unfold o8;rw[<-hlen];exact this
 |_=>exact aJ q3
end
def Bf.val:Bf->S
|.len=>.builtin "len"|.all=>.builtin "all"|.any=>.builtin "any"|.int=>.type "int"|.str=>.type "str"|.abs=>.builtin "abs"|.min=>.builtin "min"
def Bf.boot:∀f:Bf,qt f.name=Y f.val:=by
 intro f;cases f<;>decide +kernel
def Bf.ok(f:Bf):f.name≠"__name__"/\(f.name==("__debug__":Str))=W:=by
 cases f<;>decide +kernel
section
variable{X:Cx}
def Di{Q:S->ak->Prop}{E:S->ak->Prop}(hc:X.calm=J)(I:L2.Inv X pins O H s)(hx:iC X.K H a xs)(h:∀(its:M S),bN xs its->xs.length<=ah->∀aex:ak,aex={ s with heap:=s.heap.push { cls:=.type "list_iterator",data:=.fields (List.toArray [.ref a,.int 0 0]) } }->
   Walks X.prog X.w X.A.in1 s.heap.objs.size [s.heap.objs.size,a] [s.heap.objs.size] its.toArray.size (λi v=>its.toArray[i]?=Y v) (λi h=>h.IsListIter s.heap.objs.size a i/\h.IsList a its.toArray)->
   (aex.heap.IsListIter s.heap.objs.size a 0/\aex.heap.IsList a its.toArray)->(∀b∈[s.heap.objs.size,a],b<aex.heap.objs.size)->
   (∀h' tk,(∀b o,b∉[s.heap.objs.size]->aex.heap.get? b=Y o->h'.get? b=Y o)->L2.Inv X pins O H { aex with heap:=h',toks:=tk })->Q (.ref s.heap.objs.size) aex):
  aO (a7 X.prog X.w) X.A.in1 (uw (.ref a)) Q E s:=by
 let#[its,r,pl,hz]:=I.list hx;have hlt:a<s.heap.objs.size:=by let#[o,n,e,_]:=pl;exact aV e
 refine sC pl.isList ?_;have hh:X.A.in1.handled=B:=I.ok.hd hc;refine h its r hz _ rfl (Oa hh s.heap.objs.size a (bR hlt) its.toArray) #[#[_,bD _ rfl,rfl,rfl],pl.isList.push _] (λb hb=>?_) λh' tk k=>?_
 ·rw[eS];rcases aM.mp hb with rfl|hb
  ·exact gK _
  ·rw[aQ.mp hb];exact kE hlt
 ·exact I.kept λb o e=>k b o (λz=>aG (aV e) (by rw[aQ.mp z];exact eN _)) (aE _ e)
def range_all{p:L->Bool}{xs:M V}(f:V->Bool)(h:∀i x,xs[i]?=Y x->p i=f x):(bH xs.length).all p=xs.all f:=by
 rw[iU,cV,cV];constructor
 ·intro q x hx;let#[i,hi]:=qB hx;rw[<-h i x hi];exact q i (iz.mpr (cS.mp hi).1)
 ·intro q i hi;have hi:=iz.mp hi;rw[h i xs[i] (aH hi)];exact q _ (jI hi)
def Lp{A:cR}{xs:M V}{its:M S}(rv:bN xs its)(hb:xj xs=J){i:L}{v:S}{s':ak}{Q':Bool->ak->Prop}{E':S->ak->Prop}(hi:its[i]?=Y v)(hQ:Q' ((xs[i]?.map o9).getD W) s'):aO (a7 X.prog X.w) A (J3 v) Q' E' s':=by
 have hlen:=rv.length;have hl:i<xs.length:=by grind
 have hxi:xs[i]?=Y xs[i]:=aH hl;let#[u,hu,ru]:=rv.get hxi;rw[hi]at hu;cases hu;have hQ:Q' ((xs[i]?.map o9).getD W) s':=hQ;rw[hxi]at hQ;have hbl:∃b,xs[i]=.bl b:=by
  have:=cV.mp hb _ (jI hl);revert this;cases xs[i]<;>intro this<;>first|exact⟨_,rfl⟩|(exact aG (show W=J from this) bq)
 let#[b,eb]:=hbl;rw[eb]at ru hQ;cases ru;refine gh ?_;cases b<;>exact hQ
def GD(hc:X.calm=J):nY X (.builtin "all") (λvs H Q=>∃a xs,vs=[.ref a]/\iC X.K H a xs/\xj xs=J/\Q (.bl (xs.all o9)) H):=by
 intro pins s O H vs us Q I r h;let#[a,xs,rfl,hx,hb,q]:=h;let#[u,rfl,ru]:=vals1 r;cases ru;refine call_all_walk (Di hc I hx λits rv hz aex e aaC st hfp fin=>#[_,_,_,_,_,_,λi=>(xs[i]?.map o9).getD W,rfl,aaC,st,?_,λh' tk k=>?_])
 ·intro i v s' Q' E' hP hQ;exact Lp rv hb (by simpa using hP) hQ
 ·have e1:its.toArray.size=xs.length:=by rw[bw];exact rv.length.symm
  rw[e1];have e2:=range_all (p:=λi=>(xs[i]?.map o9).getD W) (xs:=xs) o9 (λi x hi=>by rw[hi];rfl);rw[e2];exact#[.bl _,H,fin h' tk k,rfl,q]
def range_any{p:L->Bool}{xs:M V}(f:V->Bool)(h:∀i x,xs[i]?=Y x->p i=f x):(bH xs.length).any p=xs.any f:=by
 rw[iU,oO,oO];constructor
 ·rintro⟨i,hi,q⟩;have hi:=iz.mp hi;rw[h i xs[i] (aH hi)]at q;exact#[_,jI hi,q]
 ·rintro⟨x,hx,q⟩;let#[i,hi]:=qB hx;rw[<-h i x hi]at q;exact#[i,iz.mpr (cS.mp hi).1,q]
def GF(hc:X.calm=J):nY X (.builtin "any") (λvs H Q=>∃a xs,vs=[.ref a]/\iC X.K H a xs/\xj xs=J/\Q (.bl (xs.any o9)) H):=by
 intro pins s O H vs us Q I r h;let#[a,xs,rfl,hx,hb,q]:=h;let#[u,rfl,ru]:=vals1 r;cases ru;refine call_any_walk (Di hc I hx λits rv hz aex e aaC st hfp fin=>#[_,_,_,_,_,_,λi=>(xs[i]?.map o9).getD W,rfl,aaC,st,?_,λh' tk k=>?_])
 ·intro i v s' Q' E' hP hQ;exact Lp rv hb (by simpa using hP) hQ
 ·have e1:its.toArray.size=xs.length:=by rw[bw];exact rv.length.symm
  rw[e1];have e2:=range_any (p:=λi=>(xs[i]?.map o9).getD W) (xs:=xs) o9 (λi x hi=>by rw[hi];rfl);rw[e2];exact#[.bl _,H,fin h' tk k,rfl,q]
def H_:nY X (.type "int") (λvs H Q=>∃z n,vs=[.str z]/\z.length<=640/\intText? z=Y n/\Q (.int n) H):=by
 intro pins s O H vs us Q I r h;let#[z,n,rfl,hz,hn,q]:=h;let#[u,rfl,ru]:=vals1 r;let#[t,rfl]:=ru;exact Mu hn hz #[.int n,H,I.tok _,#[_,rfl],q]
def AQ(h:RelV (kV k) u):(iw P w).is k u=J:=by
 cases k with
 |inl i=>let#[t,rfl]:=h;exact Bp P w i t
 |inr x=>let#[t,rfl]:=h;exact Bq P w x t
def abL(hc:X.calm=J)(hu:X.A.units+60<eB)(f:Bf):nY X f.val (xm X.K f):=by
 intro pins s O H vs us Q I r h;cases f<;>cases vs<;>first|exact aJ h|skip
 case len.cons y w=>
  cases y<;>first|exact aJ h|(cases w<;>first|exact aJ h|skip)
  ·let#[hz,q]:=h;exact HQ pins s O H _ us Q I r #[_,rfl,hz,q]
  ·rcases h with⟨t,xs,hx,q⟩|⟨kvs,hk,q⟩
   ·refine HP pins s O H _ us Q I r #[_,xs,rfl,?_,q];rcases hx.sq with⟨_,z⟩|⟨_,z⟩
    ·exact .inl z
    ·exact .inr z
   ·let#[u,rfl,ru]:=vals1 r;cases ru;exact abF I hk λt s' I'=>#[.int kvs.length,H,I',#[t,rfl],q]
 case all.cons y w=>
  cases y<;>first|exact aJ h|(cases w<;>first|exact aJ h|skip)
  ·let#[t,xs,hx,ht,hb,q]:=h;subst ht;exact GD hc pins s O H _ us Q I r #[_,xs,rfl,hx.Ln,hb,q]
 case any.cons y w=>
  cases y<;>first|exact aJ h|(cases w<;>first|exact aJ h|skip)
  ·let#[t,xs,hx,ht,hb,q]:=h;subst ht;exact GF hc pins s O H _ us Q I r #[_,xs,rfl,hx.Ln,hb,q]
 case int.cons y w=>
  cases y<;>first|exact aJ h|(cases w<;>first|exact aJ h|skip)
  ·exact E7 pins s O H _ us Q I r (.inr #[_,rfl,h])
  ·exact E7 pins s O H _ us Q I r (.inl #[_,rfl,h])
  ·let#[hz,n,hn,q]:=h;exact H_ pins s O H _ us Q I r #[_,n,rfl,hz,hn,q]
 case str.cons y w=>
  cases y<;>first|exact aJ h|(cases w<;>first|exact aJ h|skip)
  ·exact HJ pins s O H _ us Q I r #[_,rfl,h.1,h.2]
 case abs.cons y w=>
  cases y<;>first|exact aJ h|(cases w<;>first|exact aJ h|skip)
  ·exact SJ pins s O H _ us Q I r #[_,rfl,h]
 case min.cons y w=>
  cases y<;>first|exact aJ h|(cases w<;>first|exact aJ h|skip)
  rename_i y w;cases y<;>first|exact aJ h|(cases w<;>first|exact aJ h|skip)
  ·exact OC hc pins s O H _ us Q I r #[_,_,rfl,h]
end
end L3
end
section
namespace L3
open PySem PySem.Spec PyProof.Rows L2
open PySem.Builtin PySem.Builtin.Str
def Ia{y:Str}(h:y.length=1):y=⟨#[y.cps.getD 0 0]⟩:=by
 let#[a]:=y;let#[l]:=a
 match l,h with
 |[c],_=>rfl
theorem Ib(c:L):∀(l:M L) (a:L),l[a]?=Y c->l.idxOf c<=a
|[],a,h=>by simp at h
|n::r,0,h=>by
 have e:n=c:=by simpa using h
 rw[Eb,e];simp
|n::r,a+1,h=>by
 have ih:=Ib c r a (by simpa using h);rw[Eb];cases n==c<;>simp<;>omega
def OY(x:Str)(c:L)(hm:c∈x.cps.toList):∃rest,occurrences x ⟨#[c]⟩ 0 x.length 1=x.cps.toList.idxOf c::rest:=by
 rcases Wb x ⟨#[c]⟩ 1 (aW 1)with⟨h1,h2⟩|⟨a,r,h1,h2,h3⟩
 ·exfalso;let#[i,hi]:=qB hm;exact h2 i ((sD x c i).mpr hi)
 ·refine#[r,?_];rw[h1];congr 1;have ha:=(sD x c a).mp h2;have hlt:=mP.mpr hm;have hg:x.cps.toList[x.cps.toList.idxOf c]?=Y c:=by
   rw[aH hlt,AG hlt]
  have h4:¬x.cps.toList.idxOf c<a:=λq=>h3 _ q ((sD x c _).mpr hg);have h5:=Ib c _ _ ha
  lia
def OZ(x y:Str):(decide (0+y.length<=x.length)&&subAt x y 0)=y.cps.toList.isPrefixOf x.cps.toList:=by
 rw[iU,List.isPrefixOf_iff_prefix,Wc,cU,lG,rA];have l1:y.cps.toList.length=y.length:=by simp[m9]
 have l2:x.cps.toList.length=x.length:=by simp[m9]
 constructor
 ·rintro⟨_,h⟩;rw[<-h];exact List.take_prefix _ _
 ·intro h;refine#[?_,?_]
  ·have:=h.length_le;simp only[cK]
   lia
  ·rw[List.prefix_iff_eq_take]at h;rw[<-l1];exact h.symm
def Fk(c:L):∀l,bZ c l≠[]
|[]=>by simp[bZ]
|x::r=>by
 unfold bZ;split
 ·simp
 ·split<;>simp
theorem Bt(c:L):∀l:M L,c∉l->bZ c l=[l]
|[],_=>rfl
|x::r,hp=>by
 have hx:¬x=c:=λz=>hp (by rw[z];exact aj);have hr:=λz=>hp (ai _ z);unfold bZ;rw[aD hx,Bt c r hr]
theorem xo(c:L):∀(p l:M L),c∉p->bZ c (p++c::l)=p::bZ c l
|[],l,_=>by
 show bZ c (c::l)=_;rw[bZ,aB rfl]
|x::r,l,hp=>by
 have hx:¬x=c:=λz=>hp (by rw[z];exact aj);have hr:=λz=>hp (ai _ z);show bZ c (x::(r++c::l))=_;rw[bZ,aD hx,xo c r l hr]
theorem lN(c:L):∀(ps:M (M L)) (l:M L),ps≠[]->(∀p∈ps,c∉p)->l=[c].intercalate ps->bZ c l=ps
|[],_,h,_,_=>aG rfl h
|[p],l,_,hp,e=>by
 have e:l=p:=by simpa[iA]using e
 subst e;have hp:=hp l aj;exact Bt c l hp
|p::q::ps,l,_,hp,e=>by
 have e:l=p++c::[c].intercalate (q::ps):=by
  rw[e];simp[iA]
 have hpp:=hp p aj;have ih:=lN c (q::ps) _ (by simp) (λz hz=>hp z (ai _ hz)) rfl;subst e;rw[xo c p _ hpp,ih]
theorem join_list(c:L):∀ps:M Str,ps≠[]->(dU ⟨#[c]⟩ ps).cps.toList=[c].intercalate (ps.map λp=>p.cps.toList)
|[],h=>aG rfl h
|[p],_=>by
 show p.cps.toList=_;simp[iA]
|p::q::r,_=>by
 have ih:=join_list c (q::r) (by simp);show(p++⟨#[c]⟩++dU ⟨#[c]⟩ (q::r)).cps.toList=_;have e:(p++⟨#[c]⟩++dU ⟨#[c]⟩ (q::r)).cps=p.cps++#[c]++(dU ⟨#[c]⟩ (q::r)).cps:=rfl;rw[e,yN,yN,ih];simp[iA]
def SX(x:Str)(c:L):jB x ⟨#[c]⟩=(bZ c x.cps.toList).map strOf:=by
 have h1:=Se x ⟨#[c]⟩;have h2:=Sf x c;have hne:jB x ⟨#[c]⟩≠[]:=by
  have z:=split_len x c;have z2:(0:Int)<=cnt c x.cps.toList:=by
   have:∀l:M L,(0:Int)<=cnt c l:=by
    intro l;induction l with
    |nil=>exact K7 0
    |cons n r ih=>rw[cnt_cons];split<;>lia
   exact this _
  intro e;rw[e]at z;have z:(0:Int)=1+cnt c x.cps.toList:=z;omega
 have h3:=lN c ((jB x ⟨#[c]⟩).map λp=>p.cps.toList) x.cps.toList (by simpa using hne) (λp hp=>by
  let#[q,hq,rfl]:=b7.mp hp;exact h2 q hq) (by rw[<-join_list c _ hne,h1])
 rw[h3,bW];have:∀l:M Str,l.map (strOf∘λp=>p.cps.toList)=l:=by
  intro l;induction l with
  |nil=>rfl
  |cons a r ih=>rw[dm,ih];rfl
 rw[this]
section
variable{prog:bM}{w:bL}{A:cR}{E:S->ak->Prop}{s:ak}
def MP{Q:S->ak->Prop}(hy:(y.length==0)=W)(hsz:x.length+2<=ah)(h:∀l tk,l.map (·.1)=jB x y->Q (.ref s.heap.objs.size) { s with heap:=s.heap.push { cls:=.type "list",data:=.seq (Gx l).toArray },toks:=tk }):aO (a7 prog w) A (call (.builtin "str.split") [.str x t,.str y u]) Q E s:=by
 have F0:Fr s.heap s.heap.objs.size { s.heap with objs:=s.heap.objs } (λ_=>B)->True:=λ_=>trivial;have hn:(partsBetween x (occurrences x y 0 x.length (x.length+1)) y.length).length<=ah:=by
  have e1:=Mv x y 0 x.length (x.length+1);rw[length_partsBetween];lia
 cases h1:(decide (x.length<y.length)||decide (strKind x<strKind y))
 ·cases hf:(occurrences x y 0 x.length (x.length+1)).isEmpty
  ·refine gb F.slot_str_split (ju _ _ _) F.entry_str_split (F.args_str_split_2 _ _) (meets_str_split_sep x y t u h1 hy hf (by lia) hn) ?_;rw[K8];refine h (numbered s.toks _) _ ((EZ _ _).trans ?_);unfold jB;simp[h1,hf]
  ·refine gb F.slot_str_split (ju _ _ _) F.entry_str_split (F.args_str_split_2 _ _) (meets_str_split_not_found x y t u h1 hy hf) ?_;refine h [(x,t)] s.toks ?_;unfold jB;simp[h1,hf]
 ·refine gb F.slot_str_split (ju _ _ _) F.entry_str_split (F.args_str_split_2 _ _) (meets_str_split_cannot_occur x y t u h1) ?_;refine h [(x,t)] s.toks ?_;unfold jB;simp[h1]
def Ky{Q:S->ak->Prop}(hx:x.length<=ah)(hn:(iL x).length<=ah)(h:∀l tk,l.map (·.1)=iL x->Q (.ref s.heap.objs.size) { s with heap:=s.heap.push { cls:=.type "list",data:=.seq (Gx l).toArray },toks:=tk }):aO (a7 prog w) A (call (.builtin "str.split") [.str x t]) Q E s:=by
 by_cases hc:(kq x (x.length+1)==[(0,x.length)])=J
 ·have e1:iL x=[x]:=by unfold iL;rw[aB hc]
  have hn':(kq x (x.length+1)).length<=ah:=by
   rw[eq_of_beq hc];show 1<=ah;decide
  refine gb F.slot_str_split (ju _ _ _) F.entry_str_split (F.args_str_split_1 _) (wV x t hx hn') ?_;rw[aB hc];exact h [(x,t)] s.toks e1.symm
 ·have e1:iL x=(kq x (x.length+1)).map λp=>Sg x p.1 p.2:=by unfold iL;rw[aD hc];rfl
  have hn':(kq x (x.length+1)).length<=ah:=by
   rw[e1,ay]at hn;exact hn
  refine gb F.slot_str_split (ju _ _ _) F.entry_str_split (F.args_str_split_1 _) (wV x t hx hn') ?_;rw[aD hc,K8];exact h (numbered s.toks _) _ ((EZ _ _).trans (by rw[e1];rfl))
theorem yY:∀(l:M (Str×Tok)),bN ((l.map (·.1)).map V.str) (Gx l)
|[]=>.nil
|(x,t)::r=>.cons #[t,rfl] (yY r)
end
section
variable{X:Cx}
noncomputable def Hg:Mt->V->String
|_,.str _=>"str"
|_,_=>"list"
noncomputable def MQ:Mt->V->String
|.append,_=>"list.append"
|.extend,_=>"list.extend"
|.clear,_=>"list.clear"
|.pop,_=>"list.pop"
|.join,.str _=>"str.join"
|.startswith,_=>"str.startswith"
|.split,_=>"str.split"
|.index,.str _=>"str.index"
|.index,_=>"list.index"
|_,_=>""
structure XO (T:String) (m:Mt) (id:String):Prop where
 pa:PlainAttrs T
 slot:Slot T m.name id
 ty:typeOf (.builtin id)=pure (.type "method_descriptor")
def Ic(m:Mt)(x:V)(H:Hp)(h:o_ m x H):XO (Hg m x) m (MQ m x):=by
 cases m<;>cases x<;>first
  |exact aJ h
  |exact⟨F.plainAttrs_list,F.slot_list_append,F.type_list_append⟩
  |exact⟨F.plainAttrs_list,F.slot_list_insert,F.type_list_insert⟩
  |exact⟨F.plainAttrs_str,F.slot_str_startswith,F.type_str_startswith⟩
  |exact⟨F.plainAttrs_str,F.slot_str_upper,F.type_str_upper⟩
  |exact⟨F.plainAttrs_str,F.slot_str_split,F.type_str_split⟩
  |exact⟨F.plainAttrs_str,F.slot_str_count,F.type_str_count⟩
  |exact⟨F.plainAttrs_str,F.slot_str_index,F.type_str_index⟩
  |exact⟨F.plainAttrs_str,F.slot_str_join,F.type_str_join⟩
  |exact⟨F.plainAttrs_dict,F.slot_dict_get,F.type_dict_get⟩
  |exact⟨F.plainAttrs_list,F.slot_list_pop,F.type_list_pop⟩
  |exact⟨F.plainAttrs_list,F.slot_list_count,F.type_list_count⟩
  |exact⟨F.plainAttrs_list,F.slot_list_index,F.type_list_index⟩
  |exact⟨F.plainAttrs_list,F.slot_list_extend,F.type_list_extend⟩
  |exact⟨F.plainAttrs_list,F.slot_list_clear,F.type_list_clear⟩
def Lq(I:L2.Inv X pins O H s)(r:RelV x v)(h:o_ m x H):s.TypeIs v (Hg m x)/\∀a,v=.ref a->∃ob,s.heap.get? a=Y ob/\ob.dict=B:=by
 have hl:∀a,x=.ref a->fX H a->OO X.K "list" x H:=by
  rintro a rfl h;unfold fX at h;split at h
  ·exact .inl #[rfl,_,.inl (.inl (by assumption))]
  ·exact h.elim
 have hd:∀a,x=.ref a->Wn H a->OO X.K "dict" x H:=by
  rintro a rfl h;unfold Wn at h;split at h
  ·exact .inr (.inr (.inl #[rfl,.inl #[_,by assumption]]))
  ·exact .inr (.inr (.inl #[rfl,.inr #[_,by assumption]]))
  ·exact h.elim
 have hr:∀a,x=.ref a->(∃xs,Rd H a (.lst xs))->OO X.K "list" x H:=by
  rintro a rfl ⟨xs,h⟩;exact .inl #[rfl,xs,.inl h]
 cases m<;>cases x<;>first|exact aJ h|exact Dd I r (hl _ rfl h)|exact Dd I r (hr _ rfl h)|exact Dd I r rfl|exact Dd I r (hd _ rfl h)
theorem Ie:∀{ss:M Str}{its:M S},bN (ss.map V.str) its->StrsAre its ss
|[],_,h=>by cases h;first|exact .nil|trivial|rfl
|x::ss,_,h=>by
 cases h with
 |cons a b=>
  let#[t,rfl]:=a;exact .cons x t (Ie b)
def Lr(hu:X.A.units+60<eB)(I:L2.Inv X pins O H s)(rx:RelV x v)(rv:bN vs us)(h:oB X.K m x vs H Q):aO (a7 X.prog X.w) X.A (call (.builtin (MQ m x)) (v::us)) (EP X pins O Q) X.xe s:=by
 cases m<;>cases x<;>first|exact aJ h|skip
 case append.ref l=>
  cases vs<;>first|exact aJ h|skip
  rename_i y r;cases r<;>first|exact aJ h|skip
  ·dsimp only[oB]at h;split at h
   ·exact OP pins s O H _ _ v us Q I rx rv #[_,_,_,rfl,rfl,by assumption,h.1,h.2]
   ·exact h.elim
 case startswith.str z=>
  cases vs<;>first|exact aJ h|skip
  rename_i c r;cases c<;>first|exact aJ h|(cases r<;>first|exact aJ h|skip)
  rename_i y
  ·let#[u,rfl,ru]:=vals1 rv;let#[t,rfl]:=rx;let#[t',rfl]:=ru;show aO _ _ (call (.builtin "str.startswith") _) _ _ _;refine Ob F.slot_str_startswith (ju s _ t) F.entry_str_startswith (F.args_str_startswith_2 _ _) (gives_str_startswith _ _ t t') ?_;replace h:Q (.bl (y.cps.toList.isPrefixOf z.cps.toList)) H:=h;rw[<-OZ]at h;exact#[.bl _,H,I,rfl,h]
 case split.str z=>
  cases vs with
  |nil=>
   let#[#[h1,h2],h]:=h;cases rv;let#[t,rfl]:=rx;show aO _ _ (call (.builtin "str.split") _) _ _ _;refine Ky h1 h2 λl tk el=>?_;rw[<-el]at h h2;exact#[.ref s.heap.objs.size,_,I.MH (yY l) (by rw[ay];exact h2),rfl,h _ (I.hok.fresh (aW _))]
  |cons c r=>
   cases c<;>first|exact aJ h|(cases r<;>first|exact aJ h|skip)
   rename_i y;let#[h1,h2,h]:=h;let#[u,rfl,ru]:=vals1 rv;let#[t,rfl]:=rx;let#[t',rfl]:=ru;show aO _ _ (call (.builtin "str.split") _) _ _ _;refine MP (by rw[h1];rfl) h2 λl tk el=>?_;have e1:((bZ (y.cps.getD 0 0) z.cps.toList).map λl=>V.str (strOf l))=(l.map (·.1)).map V.str:=by
    rw[el];have e2:jB z y=jB z ⟨#[y.cps.getD 0 0]⟩:=by rw[<-Ia h1]
    rw[e2,SX,bW];rfl
   rw[e1]at h;have hz:((l.map (·.1)).map V.str).length<=ah:=by
    rw[ay,el];have e2:jB z y=jB z ⟨#[y.cps.getD 0 0]⟩:=by rw[<-Ia h1]
    rw[e2];have:=split_weight z ⟨#[y.cps.getD 0 0]⟩ (aW 1);omega
   exact#[.ref s.heap.objs.size,_,I.MH (yY l) hz,rfl,h _ (I.hok.fresh (aW _))]
 case index.str z=>
  cases vs<;>first|exact aJ h|skip
  rename_i c r;cases c<;>first|exact aJ h|(cases r<;>first|exact aJ h|skip)
  rename_i y
  ·let#[h1,h2,h3,h]:=h;let#[u,rfl,ru]:=vals1 rv;let#[t,rfl]:=rx;let#[t',rfl]:=ru;let#[rest,e]:=OY z _ h3;rw[<-Ia h1]at e;show aO _ _ (call (.builtin "str.index") _) _ _ _;exact Ob F.slot_str_index (ju s _ t) F.entry_str_index (F.args_str_index_2 _ _) (gives_str_index _ _ t t' _ rest e) #[.int _,H,I.tok _,#[_,rfl],h]
 case index.ref l=>
  cases vs<;>first|exact aJ h|skip
  rename_i c r;cases c<;>first|exact aJ h|(cases r<;>first|exact aJ h|skip)
  ·let#[bs,hx,hk,q]:=h;let#[u,rfl,ru]:=vals1 rv;cases rx;cases ru;let#[its,r,p,hz]:=I.list (.inl hx:iC X.K H l _);exact Kw (PlainL.is p) r (by rw[ay]at hz;exact hz) hk #[.int _,H,I.tok _,#[_,rfl],q]
  ·let#[ns,hx,hk,q]:=h;let#[u,rfl,ru]:=vals1 rv;cases rx;let#[t,rfl]:=ru;let#[its,r,p,hz]:=I.list (.inl hx:iC X.K H l _);exact MI (PlainL.is p) r (by rw[ay]at hz;exact hz) hk #[.int _,H,I.tok _,#[_,rfl],q]
 case join.str z=>
  cases vs<;>first|exact aJ h|skip
  rename_i c r;cases c<;>first|exact aJ h|(cases r<;>first|exact aJ h|skip)
  rename_i a
  ·let#[t,xs,hx,ht,ss,rfl,hz,q]:=h;subst ht;let#[u,rfl,ru]:=vals1 rv;let#[tt,rfl]:=rx;cases ru;let#[its,r,p,_]:=I.list hx.Ln;refine K9 (PlainL.is p) (Ie r) (by have:=fN;lia) λt' k=>#[.str _,H,I.tok _,#[_,rfl],?_];have e:∀(a:Str) (b:M Str),Zc a b=dU a b:=λa b=>Gy a b
   first|(rw[e];exact q)|exact(e _ _▸q)
 case pop.ref l=>
  cases vs<;>first|exact aJ h|skip
  ·dsimp only[oB]at h;split at h
   ·let#[y,h1,h2]:=h;exact ZW pins s O H _ _ v us Q I rx rv #[_,_,y,rfl,rfl,by assumption,h1,h2]
   ·exact h.elim
 case extend.ref l=>
  cases vs<;>first|exact aJ h|skip
  rename_i c r;cases c<;>first|exact aJ h|(cases r<;>first|exact aJ h|skip)
  rename_i b
  ·dsimp only[oB]at h;split at h
   ·let#[zs,h1,h2,h3]:=h;exact OQ pins s O H _ _ v us Q I rx rv #[_,_,_,zs,rfl,rfl,by assumption,h1,h2,h3]
   ·exact h.elim
 case clear.ref l=>
  cases vs<;>first|exact aJ h|skip
  ·dsimp only[oB]at h;split at h
   ·exact SN pins s O H _ _ v us Q I rx rv #[_,_,rfl,rfl,by assumption,h]
   ·exact h.elim
noncomputable def Ty.val:Ty->S
|.int=>.type "int"|.bool=>.type "bool"|.str=>.type "str"|.list=>.type "list"|.tuple=>.type "tuple"|.dict=>.type "dict"|.none=>.type "NoneType"
def Ty.boot:∀t:Ty,t≠.none->qt t.name=Y t.val:=by
 intro t h;cases t<;>first|decide +kernel|exact aG rfl h
def aaa{Q:Bool->Prop}(I:L2.Inv X pins O H s)(rx:RelV x v)(h:tT X.K ty x H Q)(ht:ty≠.none):aO (a7 X.prog X.w) X.A (call (.builtin "isinstance") [v,ty.val]) (EP X pins O λu H'=>H'=H/\∃b,u=.bl b/\Q b) X.xe s:=by
 have key:∀(t:S) (b:Bool),qI X.K H x t->rm X.K t ty.val=Y b->Q b->aO (a7 X.prog X.w) X.A (call (.builtin "isinstance") [v,ty.val]) (EP X pins O λu H'=>H'=H/\∃b,u=.bl b/\Q b) X.xe s:=
  λt b h1 h2 h3=>OJ I rx h1 h2 λtk=>#[.bl b,H,I.tok _,rfl,rfl,b,rfl,h3]
 cases x with
 |non=>exact key _ W .non (by cases ty<;>first|rfl|exact aG rfl ht) h
 |bl b=>
  cases ty with
  |bool=>exact key _ J (.bl b) rfl h
  |int=>exact key _ J (.bl b) rfl h
  |none=>exact aG rfl ht
  |_=>exact key _ W (.bl b) rfl h
 |int i=>
  cases ty with
  |int=>exact key _ J (.int i) rfl h
  |none=>exact aG rfl ht
  |_=>exact key _ W (.int i) rfl h
 |str z=>
  cases ty with
  |str=>exact key _ J (.str z) rfl h
  |none=>exact aG rfl ht
  |_=>exact key _ W (.str z) rfl h
 |ref a=>
  rcases h with⟨xs,hx,h⟩|⟨xs,hx,h⟩|⟨kvs,hk,h⟩
  ·rcases hx with e|⟨o,e⟩
   ·cases ty with
    |list=>exact key _ J (.lst e) rfl h
    |none=>exact aG rfl ht
    |_=>exact key _ W (.lst e) rfl h
   ·cases ty with
    |list=>exact key _ J (.bE e) rfl h
    |none=>exact aG rfl ht
    |_=>exact key _ W (.bE e) rfl h
  ·let#[its,_,#[o,h1,h2,_],_]:=I.tuple hx.nc;cases(show v=c8 a from rx);have key2:∀b:Bool,rm X.K (.type "tuple") ty.val=Y b->Q b->aO (a7 X.prog X.w) X.A (call (.builtin "isinstance") [.ref a,ty.val]) (EP X pins O λu H'=>H'=H/\∃b,u=.bl b/\Q b) X.xe s:=
    λb e q=>dO rN I.jN #[o,h1,h2] e (λz=>nomatch z) λtk=>#[.bl b,H,I.tok _,rfl,rfl,b,rfl,q]
   cases ty with
   |tuple=>exact key2 J rfl h
   |none=>exact aG rfl ht
   |_=>exact key2 W rfl h
  ·rcases hk with hk|⟨ob,hk⟩
   ·cases ty with
    |dict=>exact key _ J (.dK hk) rfl h
    |none=>exact aG rfl ht
    |_=>exact key _ W (.dK hk) rfl h
   ·cases(show v=c8 a from rx);let#[_,_,_,vs,_,o,es,ep,h1,h2,_]:=(show fq X.prog X.w H s.heap a (.bE ob (.dK kvs))from I.hok a _ hk);have key2:∀b:Bool,rm X.K (.type "dict") ty.val=Y b->Q b->aO (a7 X.prog X.w) X.A (call (.builtin "isinstance") [.ref a,ty.val]) (EP X pins O λu H'=>H'=H/\∃b,u=.bl b/\Q b) X.xe s:=
     λb e q=>dO kD I.jN #[o,h1,h2.1] e (λz=>nomatch z) λtk=>#[.bl b,H,I.tok _,rfl,rfl,b,rfl,q]
    cases ty with
    |dict=>exact key2 J rfl h
    |none=>exact aG rfl ht
    |_=>exact key2 W rfl h
 |_=>exact aJ h
end
end L3
end
section
namespace L3
open PySem PySem.Spec PyProof.Rows L2
noncomputable def Wr(z:Str):It:=#[λi _=>i<z.length,λi H x H'=>H'=H/\∃c,z.cps[i]?=Y c/\x=.str ⟨#[c]⟩,λi _=>z.length<=i]
def SY{w:bL}{K:aa}{tg:Expr}(it:Addr)(z:Str)(t:Tok)(T:String)(hT:T="str_ascii_iterator"\/T="str_iterator"):Turn P w K tg (Wr z) [it] it (λi h=>h.IsStrIter it T z t i) where
 mem:=by simp
 obj:=λi h st b hb=>by
  have e:b=it:=by simpa using hb
  subst e;let#[o,e,c,d]:=st;exact#[o,e,λv z=>by rw[d]at z;cases z]
 keep:=λi h h' st k=>let⟨o,ho,r⟩:=st;#[o,k it (by simp) o ho,r]
 item:=by
  intro X hP hw hK hc i pins s O H E I hf st hg;subst hP hw hK;let#[f0,f1,f2,f3,f4,f5]:=hf it (by simp);have hh:=I.ok.hd hc;have aaC:Walks X.prog X.w X.A it [it] [it] z.cps.size (SignAt z) (λi h=>h.IsStrIter it T z t i):=by
   rcases hT with rfl|rfl
   ·exact Walks.strAscii hh it z t
   ·exact Walks.strWide hh it z t
  refine aaC.item i s _ _ hg st λv h' tk hv st' kk=>?_;let#[c,u,hc,rfl]:=hv;have I1:L2.Inv X pins O H { s with heap:=h',toks:=tk }:=I.turned (λb o hb e=>kk b o (by simpa using hb) e) f0 f1 f3 f4 f5;let#[o,e,c',d]:=id st';refine#[_,rfl,G9 e c' d (by rcases hT with rfl|rfl<;>decide) #[.str ⟨#[c]⟩,H,I1,#[u,rfl],#[rfl,c,hc,rfl],st',λb hb=>(hf b hb).1]]
 done:=by
  intro X hP hw hK hc i pins s O H E I hf st hg;subst hP hw hK;let#[f0,f1,f2,f3,f4,f5]:=hf it (by simp);have hn:=Array.getElem?_eq_none_iff.mpr hg;rcases hT with rfl|rfl
  ·exact wpAny_pyNext_ascii_end (I.ok.hd hc) st hn λh' eb=>#[rfl,I.turned (λb o hb e=>eb b o hb e) f0 f1 f3 f4 f5]
  ·exact wpAny_pyNext_wide_end (I.ok.hd hc) st hn λh' eb=>#[rfl,I.turned (λb o hb e=>eb b o hb e) f0 f1 f3 f4 f5]
 self:=λ_ _ _ _ _ st h=>by
  rcases hT with rfl|rfl
  ·exact wpAny_pyIter_striter_ascii st h
  ·exact wpAny_pyIter_striter_wide st h
def Inv.tE{t':L}{ch:M Addr}(I:L2.Inv X pins O H s)(hf:∀b∈ch,oz X pins H b)(k:∀b o,b∉ch->s.heap.get? b=Y o->h'.get? b=Y o)(free:∀b o,b∉ch->s.heap.get? b=Y o->H b=B->H' b=B)(grow:∀b o,H b=Y o->H' b=Y o)(hok:gJ X.prog X.w H' h'):L2.Inv X pins O H' { s with heap:=h',toks:=t' }:=by
 refine I.step (λb hb=>?_) (λb o _ _ hc e _=>k b o hc e) (λb o _ _ hc e _=>#[o.slots,k b o hc e]) free
  (λb o hc e=>#[o,k b o hc e]) (λ_ _ e=>grow _ _ e) (λ_ _ _ e=>grow _ _ e) (λb ps e=>#[#[],by rw[grow _ _ e];simp]) (λm hm=>?_) hok I.bare
 ·let#[f0,f1,f2,f3,f4,f5]:=hf b hb;exact#[f3,f1,f4,f5]
 ·let#[o,es,ep,ho,r]:=hm;exact#[o,es,ep,k _ o (λz=>(hf _ z).2.1 rfl) ho,r]
def mV{X:Cx}{pins:M (Addr×Obj)}{H:Hp}{h h':Heap}{ch:M Addr}(x:gJ X.prog X.w H h)(hf:∀b∈ch,H b=B)(k:∀b o,b∉ch->h.get? b=Y o->h'.get? b=Y o):gJ X.prog X.w H h':=λb u e=>by
 refine(x b u e).stay (λc v hc q=>k c v (λz=>?_) q) (λ_ q=>q) (λ_ _ q=>q) λ_ _ _ q=>q;rcases hc with rfl|hc
 ·simp_all
 ·simp_all
def aab(a:Addr):It:=
 #[λi H=>∃xs x,Rd H a (.lst xs)/\xs[i]?=Y x,λi H x H'=>∃p v,H p=B/\x=.ref p/\H'=upd H p (.tup [.int (i:Int),v])/\∀xs,Rd H a (.lst xs)->xs[i]?=Y v,λi H=>∃xs,Rd H a (.lst xs)/\xs.length<=i]
def O0{P:bM}{w:bL}{K:aa}{elts:M Expr}{x1}{pos:Pos}(a e it:Addr)(hne:e≠it):Turn P w K (.Tuple elts x1 pos) (aab a) [e,it] e (λi h=>(∃old,IsEnum h e it (i:Int) old)/\h.IsListIter it a i) where
 mem:=by simp
 obj:=λi h st b hb=>by
  let#[#[old,st1],st2]:=st;have hb:b=e\/b=it:=by simpa using hb
  rcases hb with rfl|rfl
  ·exact#[_,st1,λv z=>by cases z]
  ·let#[o,e,c,d]:=st2;exact#[o,e,λv z=>by rw[d]at z;cases z]
 keep:=λi h h' st k=>by
  let#[#[old,st1],st2]:=st;exact#[#[old,k e (by simp) _ st1],st2.at λo q=>k it (by simp) o q]
 item:=by
  intro X hP hw hK hc i pins s O H E I hf st hg;subst hP hw hK;let#[#[old,st1],st2]:=st;let#[xs,x,hq,hx]:=hg;let#[its,rv,p,hz]:=I.list (.inl hq:iC X.K H a xs);let#[u,hu,ru]:=rv.get hx;refine wpAny_pyNext_enum_item st1 st2 p.isList (by simpa using hu) hne λh1 heo hit1 ht1 hz1 hk1=>?_;refine#[_,rfl,wpAny_letOwnedTupleGo_enum heo λh2 he2 hs2=>?_];have lee:=aV st1;have ne_e:=kU lee;have ht2:=(hs2.2 _ ne_e).trans ht1;have hk2:∀b o,b∉[e,it]->s.heap.get? b=Y o->h2.get? b=Y o:=λb o hb q=>by
   have hb:b≠e/\b≠it:=by simpa using hb
   exact(hs2.2 b hb.1).trans (hk1 b o hb.1 hb.2 q)
  have hn:=I.hok.fresh (aW _);have hfr:=λb hb=>(hf b hb).1;have hok2:gJ X.prog X.w (upd H s.heap.objs.size (.tup [.int (i:Int),x])) h2:=by
   have h0:=mV (pins:=pins) I.hok hfr hk2;intro b o q;by_cases hb:b=s.heap.objs.size
   ·subst hb;rw[dF]at q;cases q;refine#[by show(2:L)<=_;have:=fN;lia,[.int (i:Int) s.toks,u],.cons #[_,rfl] (.cons ru .nil),#[_,ht2,rfl,_,rfl]]
   ·rw[bf hb]at q;exact(h0 b o q).stay (λ_ _ _ r=>r) (λc r=>by rw[bf (bX r hn)];exact r) (λc ys r=>by rw[bf (bX r hn)];exact r) λc o ys r=>by rw[bf (bX r hn)];exact r
  have I2:L2.Inv X pins O (upd H s.heap.objs.size (.tup [.int (i:Int),x])) { s with heap:=h2,toks:=s.toks+1 }:=
   Inv.tE I hf hk2 (λb o hb q n=>by rw[bf (bR (aV q))];exact n) (λb o q=>by rw[bf (bX q hn)];exact q) hok2
  refine#[.ref s.heap.objs.size,_,I2,rfl,#[_,x,hn,rfl,rfl,λys hy=>by rw[I.tR (.inl hy) (.inl hq:iC X.K H a xs)];exact hx],#[#[u,?_],?_],λb hb=>?_]
  ·have:((i:Int)+1)=((i+1:L):Int):=by lia
   rw[<-this];exact he2
  ·exact hit1.at λo q=>(hs2.2 it (fj hne)).trans q
  ·have hlt:b<s.heap.objs.size:=by
    have hb:b=e\/b=it:=by simpa using hb
    rcases hb with rfl|rfl
    ·exact lee
    ·let#[o,q,_]:=st2;exact aV q
   rw[bf (bR hlt)];exact hfr b hb
 done:=by
  intro X hP hw hK hc i pins s O H E I hf st hg;subst hP hw hK;let#[#[old,st1],st2]:=st;let#[xs,hq,hx]:=hg;let#[its,rv,p,hz]:=I.list (.inl hq:iC X.K H a xs);have hl:=rv.length;have hfr:=λb hb=>(hf b hb).1;refine wpAny_pyNext_enum_end (I.ok.hd hc) st1 st2 p.isList (by simp;lia) λh' eb=>#[rfl,?_];have hk:∀b o,b∉[e,it]->s.heap.get? b=Y o->h'.get? b=Y o:=λb o hb q=>eb b o (λz=>hb (by simp[z])) q;exact Inv.tE (ch:=[e,it]) I hf hk (λ_ _ _ _ n=>n) (λ_ _ q=>q) (mV (X:=X) (pins:=pins) I.hok hfr hk)
 self:=λ_ _ _ _ _ st h=>by
  let#[#[old,st1],_]:=st;exact Bj st1 h
structure ph (aat:It) (ok:Hp->Prop) (items:M Item):Prop where
 go:∀i H it,ok H->items[i]?=Y it->aat.go i H
 yld:∀i H it x H',ok H->items[i]?=Y it->aat.yld i H x H'->∀k,mkItem it H k->k x H'
 stop:∀i H,ok H->items.length<=i->aat.stop i H
def O1{K:aa}:ph (Itl K a) (λH=>iC K H a xs) (xs.map .v) where
 go:=λi H it ok hi=>by
  rw[bT]at hi;cases e:xs[i]? with
  |none=>rw[e]at hi;cases hi
  |some x=>exact#[xs,x,ok,e]
 yld:=λi H it x H' ok hi hy k hk=>by
  let#[rfl,hy]:=hy;rw[bT,hy xs ok]at hi;cases hi;exact hk
 stop:=λi H ok hi=>#[xs,ok,by rw[ay]at hi;exact hi]
theorem yZ:∀(xs:M V) (n i:L),(lY n xs)[i]?=(xs[i]?).map λx=>Item.tup [.int ((n+i:L):Int),x]
|[],n,i=>by simp[lY]
|x::r,n,0=>by simp[lY]
|x::r,n,i+1=>by
 simp only[lY,nq,yZ r (n+1) i];have:n+1+i=n+(i+1):=by lia
 rw[this]
theorem Fo:∀(xs:M V) (n:L),(lY n xs).length=xs.length
|[],_=>rfl
|x::r,n=>by simp[lY,Fo r (n+1)]
def O2:ph (aab a) (λH=>Rd H a (.lst xs)) (lY 0 xs) where
 go:=λi H it ok hi=>by
  rw[yZ]at hi;cases e:xs[i]? with
  |none=>rw[e]at hi;cases hi
  |some x=>exact#[xs,x,ok,e]
 yld:=λi H it x H' ok hi hy k hk=>by
  let#[p,v,hp,rfl,rfl,hy]:=hy;rw[yZ,hy xs ok,mQ]at hi;cases hi;exact hk p hp
 stop:=λi H ok hi=>#[xs,ok,by rw[Fo]at hi;exact hi]
def S0{K:aa}:ph (Itt K a) (λH=>l8 K H a xs) (xs.map .v) where
 go:=λi H it ok hi=>by
  rw[bT]at hi;cases e:xs[i]? with
  |none=>rw[e]at hi;cases hi
  |some x=>exact#[xs,x,ok,e]
 yld:=λi H it x H' ok hi hy k hk=>by
  let#[rfl,hy]:=hy;rw[bT,hy xs ok]at hi;cases hi;exact hk
 stop:=λi H ok hi=>#[xs,ok,by rw[ay]at hi;exact hi]
def S3:ph (Wr z) (λ_=>True) ((chars z).map .v) where
 go:=λi H it ok hi=>by
  have:=(cS.mp hi).1;have:i<z.length:=by simpa[chars,m9]using this
  exact this
 yld:=λi H it x H' ok hi hy k hk=>by
  let#[rfl,c,hc,rfl]:=hy;unfold chars at hi;rw[bW,bT,wU,hc]at hi;cases hi;exact hk
 stop:=λi H ok hi=>by
  have:z.length<=i:=by simpa[chars,m9]using hi
  exact this
def MR{lo:Int}:ph (Wg lo n) (λ_=>True) ((bH n).map λ(i:L)=>Item.v (.int (lo+(i:Int)))) where
 go:=λi H it ok hi=>by
  have:=(cS.mp hi).1;have:i<n:=by simpa using this
  exact this
 yld:=λi H it x H' ok hi hy k hk=>by
  let#[rfl,rfl]:=hy;have hl:=(cS.mp hi).1;have hl:i<n:=by simpa using hl
  rw[bT,qH hl]at hi;cases hi;exact hk
 stop:=λi H ok hi=>by
  have:n<=i:=by simpa using hi
  exact this
def ph.mono{ok ok':Hp->Prop}(h:ph aat ok items)(m:∀H,ok' H->ok H):ph aat ok' items:=
 #[λi H it o=>h.go i H it (m H o),λi H it x H' o=>h.yld i H it x H' (m H o),λi H o=>h.stop i H (m H o)]
def S4{ok:Hp->Prop}{items:M Item}{g:TG}{body:TS}{D:Ends}{O:L2.St}{H:Hp}(hJ:ph aat ok items)(h:forL ok g body D items O H):∃aaC:L->L->L2.St->Hp->Prop,(∃m,aaC 0 m O H)/\∀i m O H,aaC i m O H->
   (aat.stop i H/\D.nx O H)\/(aat.go i H/\∃N:L2.St->Hp->Prop,(∀σ' H',N σ' H'->∃m',m'<m/\aaC (i+1) m' σ' H')/\∀x H',aat.yld i H x H'->g x O H' fun σ2 H2=>body { D with nx:=N,ct:=N,bk:=D.nx } σ2 H2):=by
 refine#[λi m O H=>m=items.length-i/\i<=items.length/\forL ok g body D (items.drop i) O H,#[items.length,by simp,iE _,by simpa using h],?_];rintro i m O H ⟨rfl,hi,p⟩;by_cases hlt:i<items.length
 ·rw[s9 hlt]at p;let#[hok,p]:=p;have e:=aH hlt;refine .inr #[hJ.go i H _ hok e,forL ok g body D (items.drop (i+1)),fun σ' H' p'=>#[items.length-(i+1),by omega,rfl,hlt,p'],λx H' y=>?_];exact hJ.yld i H _ x H' hok e y _ p
 ·rw[nX (by omega)]at p;let#[hok,p]:=p;exact .inl #[hJ.stop i H hok (by omega),p]
section
variable{X:Cx}{tg:Expr}
def S5(X:Cx)(pins:M (Addr×Obj))(O:L2.St)(tg:Expr)(k:(Hp->Prop)->M Item->Hp->Prop)(itv:S)(s2:ak):Prop:=
 ∃(it:Addr) (fp:M Addr) (tn:L->Heap->Prop) (aat:It) (H':Hp),itv=.ref it/\L2.Inv X pins O H' s2/\Turn X.prog X.w X.K tg aat fp it tn/\tn 0 s2.heap/\(∀b∈fp,oz X pins H' b)/\∃ok items,ph aat ok items/\k ok items H'
def Fp(X:Cx)(tg iter:Expr)(wi:Z7):Prop:=
 ∀(pins:M (Addr×Obj)) (s:ak) (O:L2.St) (H:Hp) (k:(Hp->Prop)->M Item->Hp->Prop),L2.Inv X pins O H s->wi O H k->
  aO (a7 X.prog X.w) X.A (eval iter X.env) (λv s1=>aO (a7 X.prog X.w) X.A (uw v) (S5 X pins O tg k) X.xe s1) X.xe s
def abM(hp:vm (a7 X.prog X.w) X.A X.env X.xe)(hc:X.calm=J)(hi:Fp X tg iter wi)(hg:PG X tg g)(hb:vV X body tb)(hs:∀x,kC iter X.env x=pure x):PS X (.For tg iter body [] pos) (λD O H=>wi O H λok items H1=>forL ok g tb D items O H1):=by
 intro pins s O H D I h;have hI:PI X tg iter (fun σ0 H0 R=>wi σ0 H0 (λok items H1=>forL ok g tb D items O H1)/\∀ok items H1 aat,forL ok g tb D items O H1->ph aat ok items->R aat H1):=by
  intro pins' s' σ' H' R I' h';refine a_ (hi pins' s' σ' H' _ I' h'.1) λv s1 h1=>a_ h1 λitv s2 h2=>?_;let#[it,fp,tn,aat,H2,e,I2,T,st,hf,ok,items,hJ,hk]:=h2;exact#[it,fp,tn,aat,H2,e,I2,T,st,hf,h'.2 ok items H2 aat hk hJ]
 exact ZA hp hc hI hg hb hs pins s O H D I #[h,λok items H1 aat hk hJ=>S4 hJ hk]
def XQ{e:Expr}{te:TE}(he:PE X e te):Fp X tg e (λO H k=>te O H λx H1=>Em X.K x H1 k):=by
 intro pins s O H k I h;refine a_ (he pins s O H _ I h) λv s1 ⟨x,H1,I1,r1,q1⟩=>?_;cases x with
 |str z=>
  let#[t,rfl]:=r1;let#[hz,q]:=q1;have fin:∀T,T="str_ascii_iterator"\/T="str_iterator"->S5 X pins O tg k (.ref s1.heap.objs.size) { s1 with heap:=s1.heap.push { cls:=.type T,data:=.fields (List.toArray [.str z t,.int 0 0]) } }:=λT hT=>by
   refine#[s1.heap.objs.size,[s1.heap.objs.size],_,_,H1,rfl,I1.kept λb o e=>aE _ e,SY s1.heap.objs.size z t T hT,#[_,bD _ rfl,rfl,rfl],λb hb=>?_,_,_,S3,q];have e:b=s1.heap.objs.size:=by simpa using hb
   subst e;exact I1.w_ (aW _) (I1.hok.fresh (aW _))
  cases ha:z.cps.all (·<128)
  ·exact wpAny_pyIter_wide ha (fin _ (.inr rfl))
  ·exact wpAny_pyIter_ascii ha (fin _ (.inl rfl))
 |ref a=>
  let#[t,xs,hx,q]:=q1;cases r1;rcases hx.sq with⟨rfl,z⟩|⟨rfl,z⟩
  ·let#[its,rv,p,hz]:=I1.list z;refine sC p.isList ?_;refine#[s1.heap.objs.size,[s1.heap.objs.size],_,_,H1,rfl,I1.kept λb o e=>aE _ e,Ox a _,#[_,bD _ rfl,rfl,rfl],λb hb=>?_,λH'=>fR X.K H' a W xs,_,O1.mono λH' o=>?_,q]
   ·have e:b=s1.heap.objs.size:=by simpa using hb
    subst e;exact I1.w_ (aW _) (I1.hok.fresh (aW _))
   ·rcases o.sq with⟨_,z⟩|⟨hf,_⟩
    ·exact z
    ·cases hf
  ·let#[its,rv,p,hz]:=I1.tuple z;refine rP p ?_;refine#[s1.heap.objs.size,[s1.heap.objs.size],_,_,H1,rfl,I1.kept λb o e=>aE _ e,Mw a _,#[_,bD _ rfl,rfl,rfl],λb hb=>?_,λH'=>fR X.K H' a J xs,_,S0.mono λH' o=>?_,q]
   ·have e:b=s1.heap.objs.size:=by simpa using hb
    subst e;exact I1.w_ (aW _) (I1.hok.fresh (aW _))
   ·rcases o.sq with⟨hf,_⟩|⟨_,z⟩
    ·cases hf
    ·exact z
 |_=>exact aJ q1
def range_it'{k:(Hp->Prop)->M Item->Hp->Prop}{E:S->ak->Prop}{lo hi:Int}{t u v:Tok}{tk:L}(I:L2.Inv X pins O H s)(h1:-(2 ^ 62)<=lo)(h2:lo<2 ^ 62)(h3:-(2 ^ 62)<=hi)(h4:hi<2 ^ 62)(q:k (λ_=>True) ((bH (hi-lo).toNat).map λ(i:L)=>Item.v (.int (lo+(i:Int)))) H):aO (a7 X.prog X.w) X.A (uw (.ref s.heap.objs.size)) (S5 X pins O tg k) E { s with heap:=s.heap.push { cls:=.type "range",data:=.fields (List.toArray [.int lo t,.int hi u,.int 1 v]) },toks:=tk }:=by
 refine a_ (SH (tg:=tg) (R:=λaat H'=>aat=Wg lo (hi-lo).toNat/\H'=H) I h1 h2 h3 h4 #[rfl,rfl]) λitv s2 h=>?_;let#[it,fp,tn,aat,H',e,I2,T,st,hf,rfl,rfl]:=h;exact#[it,fp,tn,_,H',e,I2,T,st,hf,_,_,MR,q]
def S6{x1:L}{tp:Pos}{e:Expr}{te:TE}{p pos:Pos}(hg:Gl X "enumerate")(hm:X.mg "enumerate"=B)(he:PE X e te)(hs:fB [e] X.env=[(W,eval e X.env)]):Fp X (.Tuple elts x1 tp) (.Call (.Name "enumerate" p) [e] [] pos) (λO H k=>te O H λx H1=>match x with
   |.ref b=>∃xs,Rd H1 b (.lst xs)/\k (λH'=>Rd H' b (.lst xs)) (lY 0 xs) H1
   |_=>aR):=by
 intro pins s O H k I h;have ha:=Lf he OL hs;refine Call_ (l7 I hg hm boot_enumerate (gw (a_ (ha pos pins s O H (λvs H1=>match vs with
   |[x]=>(match x with
    |.ref b=>∃xs,Rd H1 b (.lst xs)/\k (λH'=>Rd H' b (.lst xs)) (lY 0 xs) H1
    |_=>aR)
   |_=>aR) I h) λus s1 ⟨vs,H1,I1,r1,q⟩=>?_) hs rfl))
 match vs,r1,q with
 |[],r1,q=>exact q.elim
 |_::_::_,r1,q=>exact q.elim
 |[x],r1,q=>
  let#[u,rfl,ru]:=vals1 r1;cases x with
  |ref b=>
   cases ru;let#[xs,hx,q]:=q;let#[its,rv,pl,hz]:=I1.list (.inl hx:iC X.K H1 b xs);refine call_enumerate_list pl.isList λh' he' hi' hz' hk'=>?_;refine Bj he' ?_;refine#[s1.heap.objs.size+1,[s1.heap.objs.size+1,s1.heap.objs.size],_,_,H1,rfl,I1.kept hk',O0 b _ _ (Nat.succ_ne_self _),#[#[_,he'],hi'],λc hc=>?_,_,_,O2,q];have hc:c=s1.heap.objs.size+1\/c=s1.heap.objs.size:=by simpa using hc
   rcases hc with rfl|rfl
   ·exact I1.w_ (nV _) (I1.hok.fresh (nV _))
   ·exact I1.w_ (aW _) (I1.hok.fresh (aW _))
  |_=>exact aJ q
def O3{p pos:Pos}(hg:Gl X "range")(hm:X.mg "range"=B)(ha:PA X (e::es) ta)(he:fB (e::es) X.env=(W,eval e X.env)::fB es X.env)(hpl:(qx pos (fB es X.env)).any (·.1)=W):Fp X tg (.Call (.Name "range" p) (e::es) [] pos) (λO H k=>ta O H λvs H1=>yW vs H1 k):=by
 intro pins s O H k I h;refine Call_ (l7 I hg hm boot_range (gw (a_ (ha pos pins s O H _ I h) λus s1 ⟨vs,H1,I1,r1,q⟩=>?_) he hpl));have q:yW vs H1 k:=q;unfold yW at q;split at q
 ·let#[#[q1,q2],q]:=q;let#[u,rfl,ru]:=vals1 r1;let#[t,rfl]:=ru;refine call_range_1 (range_it' I1 (by lia) (by lia) q1 q2 ?_);simpa using q
 ·let#[#[q1,q2,q3,q4],q]:=q;let#[u,u',rfl,ru,ru']:=vals2 r1;let#[t,rfl]:=ru;let#[t',rfl]:=ru';exact call_range_2 (range_it' I1 q1 q2 q3 q4 q)
 ·exact q.elim
end
section
variable{P:bM}{w:bL}{H:Hp}{h h':Heap}{a:Addr}{o:HO}
def O4(x:gJ P w H h)(hn:H a=B)(new:fq P w (upd H a o) h a o):gJ P w (upd H a o) h:=λb u e=>by
 by_cases hb:b=a
 ·subst hb;rw[dF]at e;cases e;exact new
 ·rw[bf hb]at e;exact(x b u e).stay (λc v _ q=>q) (λc q=>by rw[bf (bX q hn)];exact q) (λc xs q=>by rw[bf (bX q hn)];exact q) λc o xs q=>by rw[bf (bX q hn)];exact q
end
noncomputable def qM(cells:M (Str×Addr)):M (Str×ia)->M (Str×Addr)->M (Str×Addr)
|[],acc=>acc
|(n,k)::r,acc=>if(k==.free)=J then(match cells.lookup n with|some c=>qM cells r ((n,c)::acc)|none=>qM cells r acc)else qM cells r acc
theorem xq:∀(names:M (Str×ia)) (acc:M (Str×Addr)),(∀n,(n,cM)∈names->∃c,env.cells.lookup n=Y c)->
 (forIn names acc λ(x:Str×ia) (r:M (Str×Addr))=>(match x with
  |(name,kind)=>if(kind==.free)=J then(do let a <-Sh env name;pure (j5 ((name,a)::r)))else pure (j5 r):Sem (ForInStep (M (Str×Addr)))))=pure (qM env.cells names acc)
|[],acc,_=>rfl
|(n,k)::r,acc,hn=>by
 rw[vz];have hr:=λm hm=>hn m (ai _ hm);unfold qM;by_cases hk:(k==cM)=J
 ·have e:k=.free:=by simpa using hk
  subst e;let#[c,hc]:=hn n aj;have hco:Sh env n=pure c:=by unfold Sh;rw[hc]
  simp only[hc,hco,gM,ie];exact xq r _ hr
 ·simp only[hk,uz];exact xq r _ hr
def yh(h:∀n,(n,cM)∈scope.names->∃c,env.cells.lookup n=Y c):closureFor scope env=pure (qM env.cells scope.names []):=by
 have e:=xq scope.names [] h;exact Eq.trans (lC (λt=>t >>= λcs=>pure cs) e) rfl
theorem xr:∀(names:M (Str×ia)) (acc:M (Str×Addr)),(∀x c,acc.lookup x=Y c->cells.lookup x=Y c)->∀x c,(qM cells names acc).lookup x=Y c->cells.lookup x=Y c
|[],acc,h=>h
|(n,k)::r,acc,h=>by
 unfold qM;by_cases hk:(k==cM)=J
 ·simp only[hk,ie];cases hc:cells.lookup n with
  |none=>exact xr r acc h
  |some c=>
   refine xr r _ λx d hx=>?_;rw[dw]at hx;cases e:x==n with
   |true=>lia
   |false=>rw[e]at hx;exact h x d hx
 ·simp only[hk,uz];exact xr r acc h
theorem tV:∀(names:M (Str×ia)) (acc:M (Str×Addr)) (x:Str),((∃c,acc.lookup x=Y c)\/((x,cM)∈names/\∃c,cells.lookup x=Y c))->∃c,(qM cells names acc).lookup x=Y c
|[],acc,x,h=>by
 rcases h with h|⟨h,_⟩
 ·exact h
 ·cases h
|(n,k)::r,acc,x,h=>by
 unfold qM;by_cases hk:(k==cM)=J
 ·simp only[hk,ie];have ek:k=.free:=by simpa using hk
  subst ek;cases hc:cells.lookup n with
  |none=>
   refine tV r acc x ?_;rcases h with h|⟨h,h2⟩
   ·exact .inl h
   ·rcases aM.mp h with e|h
    ·cases e;let#[c,hc2]:=h2;rw[hc]at hc2;cases hc2
    ·exact .inr #[h,h2]
  |some c=>
   refine tV r _ x ?_;by_cases e:x=n
   ·subst e;exact .inl #[c,by rw[dw];simp]
   ·grind
 ·simp only[hk,uz];refine tV r acc x ?_;rcases h with h|⟨h,h2⟩
  ·exact .inl h
  ·grind
def pq{α:Type}{m x:Str}{n c:α}{acc:M (Str×α)}(h:((m,n)::acc).lookup x=Y c):(x=m/\c=n)\/((x=m->aR)/\acc.lookup x=Y c):=by grind
theorem xu:∀(names:M (Str×ia)) (n:L) (acc:M (Str×Addr)) (x:Str) (c:Addr),(e_ n names acc).lookup x=Y c->(n<=c/\(x,cP)∈names)\/((x,cP)∉names/\acc.lookup x=Y c)
|[],_,_,_,_,h=>.inr #[(λz=>nomatch z),h]
|(m,k)::r,n,acc,x,c,h=>by
 unfold e_ at h;by_cases hk:(k==cP)=J
 ·rw[aB hk]at h;have ek:k=.cell:=by simpa using hk
  subst ek;rcases xu r (n+1) _ x c h with⟨h1,h2⟩|⟨h1,h2⟩
  ·exact .inl #[by lia,ai _ h2]
  ·rcases pq h2 with⟨e1,e2⟩|⟨e1,e2⟩
   ·subst e1;subst e2;exact .inl #[aW _,aj]
   ·refine .inr #[λz=>?_,e2];rcases aM.mp z with q|q
    ·cases q;exact e1 rfl
    ·exact h1 q
 ·rw[aD hk]at h;rcases xu r n acc x c h with⟨h1,h2⟩|⟨h1,h2⟩
  ·exact .inl #[h1,ai _ h2]
  ·grind
theorem Ce:∀(names:M (Str×ia)) (n:L) (acc:M (Str×Addr)) (x:Str),(x,cP)∉names->(e_ n names acc).lookup x=acc.lookup x
|[],_,_,_,_=>rfl
|(m,k)::r,n,acc,x,h=>by
 unfold e_;by_cases hk:(k==cP)=J
 ·rw[aB hk,Ce r _ _ x λz=>h (ai _ z),dw];have ek:k=.cell:=by simpa using hk
  have ne:(x==m)=W:=cy.mpr λz=>h (by rw[z,ek];exact aj);rw[ne]
 ·rw[aD hk];exact Ce r _ _ x λz=>h (ai _ z)
theorem Ep:∀(names:M (Str×ia)) (n:L) (acc:M (Str×Addr)) (x:Str),(x,cP)∈names\/(∃c,acc.lookup x=Y c)->∃c,(e_ n names acc).lookup x=Y c
|[],_,_,_,h=>by
 rcases h with h|h
 ·cases h
 ·exact h
|(m,k)::r,n,acc,x,h=>by
 unfold e_;by_cases hk:(k==cP)=J
 ·rw[aB hk];refine Ep r _ _ x ?_;by_cases e:x=m
  ·subst e;exact .inr #[n,by rw[dw];simp]
  ·grind
 ·rw[aD hk];refine Ep r _ _ x ?_;rcases h with h|h
  ·grind
  ·exact .inr h
theorem Er:∀(names:M (Str×ia)) (n:L) (acc:M (Str×Addr)),(∀x c,acc.lookup x=Y c->c<n)->(∀x y c,acc.lookup x=Y c->acc.lookup y=Y c->x=y)->∀x y c,(e_ n names acc).lookup x=Y c->(e_ n names acc).lookup y=Y c->x=y
|[],_,_,_,h=>h
|(m,k)::r,n,acc,hb,h=>by
 unfold e_;by_cases hk:(k==cP)=J
 ·rw[aB hk];refine Er r _ _ (λx c hx=>?_) λx y c hx hy=>?_
  ·rcases pq hx with⟨_,e⟩|⟨_,e⟩
   ·rw[e];exact gK _
   ·exact kE (hb x c e)
  ·rcases pq hx with⟨e1,e2⟩|⟨_,e2⟩<;>rcases pq hy with⟨e3,e4⟩|⟨_,e4⟩
   ·rw[e1,e3]
   ·exact aG (hb y c e4) (by rw[e2];exact eN _)
   ·exact aG (hb x c e2) (by rw[e4];exact eN _)
   ·exact h x y c e2 e4
 ·rw[aD hk];exact Er r n acc hb h
theorem Cf:∀(names:M (Str×ia)) (h:Heap) (acc:M (Str×Addr)) (x:Str) (c:Addr),(e_ h.objs.size names acc).lookup x=Y c->(pushCells h names).IsCell c B\/acc.lookup x=Y c
|[],_,_,_,_,e=>.inr e
|(m,k)::r,h,acc,x,c,e=>by
 unfold e_ at e;unfold pushCells;by_cases hk:(k==cP)=J
 ·rw[aB hk]at e ⊢;have e':(e_ (h.push { cls:=.type "cell",data:=.cell B }).objs.size r ((m,h.objs.size)::acc)).lookup x=Y c:=by rw[eS];exact e
  rcases Cf r _ _ x c e' with q|q
  ·exact .inl q
  ·rcases pq q with⟨_,e2⟩|⟨_,e2⟩
   ·subst e2;exact .inl #[_,vA r _ _ _ (bD _ rfl),rfl]
   ·exact .inr e2
 ·rw[aD hk]at e ⊢;exact Cf r h acc x c e
def S7{E:S->ak->Prop}{Q:Env->ak->Prop}(hQ:∀h',h'.Ns s.heap.objs.size (λ_=>B)->(∀b o,s.heap.get? b=Y o->h'.get? b=Y o)->(∀x c,(e_ (s.heap.objs.size+1) scope.names closure).lookup x=Y c->h'.IsCell c B\/closure.lookup x=Y c)->
   Q { scope,locals:=s.heap.objs.size,globals:=env.globals,cells:=e_ (s.heap.objs.size+1) scope.names closure,qual:=env.qual,func:=B,code:=env.code,frame:=env.frame,builtins:=env.builtins } { s with heap:=h' }):
  aO aan A (wW scope env.globals closure [] env.qual B .none (Y env)) Q E s:=by
 simp only[wW,AE,ie];refine aA (wpAny_alloc ?_);refine aA (wpAny_layCells _ (λname kind cells=>by cases hkc:kind==cP<;>simp[hkc]) _ _ _ _ ?_);have hc:=Cf scope.names (s.heap.push { cls:=.type "dict",data:=.dict #[] }) closure;rw[eS]at hc;rw[show({ s with heap:=s.heap.push { cls:=.type "dict",data:=.dict #[] } }:ak).heap.objs.size=s.heap.objs.size+1 from eS ..];rw[wX];exact aA (bO (bO (hQ _ ((Heap.Ns.new s.heap (.type "dict")).keeps (vA _ _)) (λb o e=>vA _ _ b o (aE _ e)) hc)))
def jb(X:Cx)(N:M Str)(scope:gH)(C:Addr)(aet:ak)(aeE:Hp)(ex:M Addr):Cx where
 prog:=X.prog
 w:=X.w
 K:=X.K
 mg:=X.mg
 base:=X.base
 A:=X.A
 N:=N
 aet:=aet
 aeE:=aeE
 env:=compEnvC scope (e_ (C+1) scope.names (qM X.env.cells scope.names [])) C X.env
 outer:=X.stack
 stack:=X.stack
 ex:=ex
 fn:=λx=>scope.names.lookup x==Y .cell
 calm:=X.calm
 pn:=[]
 xe:=λ_ _=>aR
def Dj(X:Cx):Prop:=aR
def Ls(X:Cx)(ifs:M Expr)(t:TT):Prop:=
 ∀(pins:M (Addr×Obj)) (s:ak) (O:L2.St) (H:Hp) (Q:Bool->Hp->Prop),L2.Inv X pins O H s->t O H Q->
  aO (a7 X.prog X.w) X.A (forIn ifs J λc r=>if r=J then do let ok <-Av c X.env (eval c X.env);pure (j5 ok)else pure (j5 r)) (TP X pins O Q) X.xe s
def XR:Ls X [] (λ_ H Q=>Q J H):=λ_ _ _ H _ I h=>wpAny_tests_nil #[H,I,h]
def XS(h:PT X c t):Ls X [c] t:=λpins s O H Q I q=>wpAny_tests_one (h pins s O H Q I q)
section
variable{prog:bM}{w:bL}{A:cR}{R:J4->ak->Prop}{s:ak}
def O5(I:L->ak->Prop)(turn:∀n s,I n s->aO (a7 prog w) A (mH it) (λr aev=>match r with
   |none=>R (.ok .next) aev
   |some v=>aO (a7 prog w) A (qy target it v) (λ_ aex=>aO (a7 prog w) A (Aw target env v) (λ_ aeD=>
     aO (a7 prog w) A (forIn ifs J λc r=>if r=J then do let ok <-Av c env (eval c env);pure (j5 ok)else pure (j5 r))
      (λok aeG=>if ok=J then aO (a7 prog w) A (eval elt env) (λx aeT=>aO (a7 prog w) A (call (.builtin "list.append") [acc,x]) (λ_ aeU=>∃m,m<n/\I m aeU) (λ_ _=>aR) aeT) (λ_ _=>aR) aeG
       else ∃m,m<n/\I m aeG) (λ_ _=>aR) aeD) (λ_ _=>aR) aex) (λ_ _=>aR) aev) (λ_ _=>aR) s)(n:L)(h:I n s):o4 (a7 prog w) A (.compLoop (.ListComp elt [#[target,iter,ifs,0]] scope pos) 0 it acc env) R s:=by
 refine codeAny_loop rfl I (λn s hI=>?_) n h;show aO _ A ((compTurn (.ListComp elt [#[target,iter,ifs,0]] scope pos) 0 it acc env).onRaise (λx=>do noteFrame x env;theTreesLotGoes x)) _ _ s;refine wpAny_noted (wpAny_noRaise ?_);rw[compTurn_list];refine aA (yD (aA (a_ (turn n s hI) λr aev aeA=>?_)));cases r with
 |none=>exact bO aeA
 |some v=>
  refine aA (a_ aeA λ_ aex aeH=>aA (a_ aeH λ_ aeD aeP=>aA (a_ aeP λok aeG aeV=>?_)));cases ok with
  |false=>exact bO #[rfl,aeV]
  |true=>exact aA (aA (a_ aeV λx aeT aeZ=>aA (a_ aeZ λ_ aeU ae0=>bO (bO #[rfl,ae0]))))
end
structure Hh (Cm:Cx->Prop) (P:bM) (w:bL) (K:aa) (tg:Expr) (aat:It) (fp:M Addr) (it:Addr) (tn:L->Heap->Prop):Prop where
 obj:∀i h,tn i h->∀b∈fp,∃o,h.get? b=Y o/\∀v,o.data≠.cell v
 keep:∀i h h',tn i h->(∀b∈fp,∀o,h.get? b=Y o->h'.get? b=Y o)->tn i h'
 item:∀(X:Cx),X.prog=P->X.w=w->X.K=K->Cm X->∀(i:L) (pins:M (Addr×Obj)) (s:ak) (O:L2.St) (H:Hp) (E:S->ak->Prop),L2.Inv X pins O H s->(∀b∈fp,oz X pins H b)->tn i s.heap->aat.go i H->
  aO (a7 P w) X.A (mH (.ref it)) (λr s1=>∃u,r=Y u /\
   aO (a7 P w) X.A (qy tg (.ref it) u) (λ_ s2=>∃x H',L2.Inv X pins O H' s2/\RelV x u/\aat.yld i H x H'/\tn (i+1) s2.heap/\∀b∈fp,H' b=B) E s1) E s
 done:∀(X:Cx),X.prog=P->X.w=w->X.K=K->Cm X->∀(i:L) (pins:M (Addr×Obj)) (s:ak) (O:L2.St) (H:Hp) (E:S->ak->Prop),L2.Inv X pins O H s->(∀b∈fp,oz X pins H b)->tn i s.heap->aat.stop i H->
  aO (a7 P w) X.A (mH (.ref it)) (λr s1=>r=B/\L2.Inv X pins O H s1) E s
 self:∀(A:cR) (i:L) (s:ak) (Q:S->ak->Prop) (E:S->ak->Prop),tn i s.heap->Q (.ref it) s->aO (a7 P w) A (uw (.ref it)) Q E s
def Ws{w:bL}{K:aa}{tg:Expr}{aat:It}{fp:M Addr}{it:Addr}{tn:L->Heap->Prop}(T:Turn P w K tg aat fp it tn):Hh (λX=>X.calm=J) P w K tg aat fp it tn:=#[T.obj,T.keep,T.item,T.done,T.self]
noncomputable abbrev qN(its:M S)(n:L):Obj:={ cls:=.type "list",data:=.seq its.toArray n }
section
variable{X:Cx}{pins:M (Addr×Obj)}{O:L2.St}{H:Hp}{aex:ak}{tgt iter elt:Expr}{ifs:M Expr}{scope:gH}{pos:Pos}{N:M Str}{σ':L2.St}{it:Addr}{fp:M Addr}{tn:L->Heap->Prop}{aat:It}
 {ok:Hp->Prop}{items:M Item}{g:TG}{cond:TT}{te:TE}{k:M V->Hp->Prop}{E:S->ak->Prop}{RR:S->Addr->J4->ak->Prop}
def Dk{Cm:Cx->Prop}(hc:∀(C:Addr) (aet:ak) (ex:M Addr),(∀b o,aex.heap.get? b=Y o->aet.heap.get? b=Y o)->(∀b∈ex,aex.heap.objs.size<=b\/b∈fp)->Cm (jb X N scope C aet H ex))(I:L2.Inv X pins O H aex)(T:Hh Cm X.prog X.w X.K tgt aat fp it tn)(st:tn 0 aex.heap)(hf:∀b∈fp,oz X pins H b)(hJ:ph aat ok items)(hcell:∀y∈scope.names,y.2=.free->(y.1,cP)∉scope.names)(hkind:scope.kind=.function)(hfree:∀n,(n,cM)∈scope.names->∃c,X.env.cells.lookup n=Y c)(hlen:σ'.length=N.length)(hσ:∀(i:L) (x:Str) (v:V),N[i]?=Y x->σ'[i]?=Y (Y v)->(x,cM)∈scope.names/\(m_ scope X.env).names.lookup x≠Y .local/\∃c u,X.env.cells.lookup x=Y c/\RelV v u/\aex.heap.IsCell c (Y u))(hvis:∀x,(m_ scope X.env).names.lookup x=Y .cell\/(m_ scope X.env).names.lookup x=Y .free->(x,cM)∈scope.names\/(x,cP)∈scope.names)(hg:∀(C:Addr) (aet:ak) (ex:M Addr),Cm (jb X N scope C aet H ex)->PG (jb X N scope C aet H ex) tgt g)(ht:∀(C:Addr) (aet:ak) (ex:M Addr),Cm (jb X N scope C aet H ex)->Ls (jb X N scope C aet H ex) ifs cond)(he:∀(C:Addr) (aet:ak) (ex:M Addr),Cm (jb X N scope C aet H ex)->PE (jb X N scope C aet H ex) elt te)(h:sJ ok g cond te k items [] σ' H)(hRR:∀D C s' H2 vs,H2 D=B->k vs H2->L2.Inv X pins O (upd H2 D (.lst vs)) s'->oz X pins (upd H2 D (.lst vs)) C->(∃m,s'.heap.Ns C m)->RR (.ref D) C (.ok .next) s'):aO (a7 X.prog X.w) X.A (newList []) (λacc aeD=>aO (a7 X.prog X.w) X.A (wW scope X.env.globals (qM X.env.cells scope.names []) [] X.env.qual B .none (Y X.env)) (λcenv aeG=>
   o4 (a7 X.prog X.w) X.A (.compStart (.ListComp elt [#[tgt,iter,ifs,0]] scope pos) 0 (.ref it) acc { cenv with scope:=m_ scope X.env }) (RR acc cenv.locals) aeG) E aeD) E aex:=by
 refine sE (S7 λaeA aeK aeL aeM=>?_);dsimp only at aeK aeL aeM ⊢;generalize aeI:({ aex with heap:=aex.heap.push { cls:=.type "list",dict:=B,data:=.seq ([]:M S).toArray } }:ak)=aet at aeK aeL aeM ⊢;have aeN:aet.heap=aex.heap.push { cls:=.type "list",dict:=B,data:=.seq ([]:M S).toArray }:=by rw[<-aeI]
 have hH2:=aeN.symm;have eos:aet.os=aex.os:=by rw[<-aeI]
 have egn:aet.gens=aex.gens:=by rw[<-aeI]
 have etk:aet.toks=aex.toks:=by rw[<-aeI]
 rw[hH2]at aeK aeL aeM ⊢;have hsz:aet.heap.objs.size=aex.heap.objs.size+1:=by rw[aeN,eS]
 generalize hD:aex.heap.objs.size=D at *;generalize hC:aet.heap.objs.size=C at *;have hDC:D≠C:=by rw[hsz];exact bR (gK _)
 have up:∀b o,aex.heap.get? b=Y o->aet.heap.get? b=Y o:=λb o e=>by rw[aeN];exact aE _ e
 have lt2:∀b o,aex.heap.get? b=Y o->b<D:=λb o e=>by rw[<-hD];exact aV e
 have up1:∀b o,aet.heap.get? b=Y o->aeA.get? b=Y o:=aeL;have ae1:aet.heap.get? D=Y (qN [] 0):=by rw[aeN,<-hD];exact bD _ rfl
 have fpD:∀b∈fp,b<D:=λb hb=>by let#[o,e,_]:=T.obj 0 _ st b hb;exact lt2 b o e
 have cellD:∀x c,X.env.cells.lookup x=Y c->c<D:=λx c e=>by let#[v,q]:=I.cell x c e;let#[o,ho,_]:=q;exact lt2 c o ho
 have DltC:D<C:=by rw[hsz];exact gK _
 have fpC:∀b∈fp,b≠C:=λb hb=>bR (kW (fpD b hb) DltC);have fpnD:∀b∈fp,b≠D:=λb hb=>bR (fpD b hb);have freshH:∀b,D<=b->H b=B:=λb hb=>I.hok.fresh (by rw[hD];exact hb)
 let ex:=D::fp
 let X':=jb X N scope C aet H ex
 have hcm:Cm X':=hc C aet ex up λb hb=>(aM.mp hb).elim (λz=>.inl (AF z.symm)) .inr;have clsub0:∀x c,(qM X.env.cells scope.names []).lookup x=Y c->X.env.cells.lookup x=Y c:=xr _ _ (λx c e=>by simp at e);have clsub:∀x c,X'.env.cells.lookup x=Y c->C<c\/X.env.cells.lookup x=Y c:=λx c e=>by
  rcases xu _ _ _ _ _ e with⟨q,_⟩|⟨_,q⟩
  ·exact .inl q
  ·exact .inr (clsub0 x c q)
 have neD:∀x c,X'.env.cells.lookup x=Y c->c≠D:=λx c e z=>by
  rcases clsub x c e with q|q
  ·rw[z]at q;exact eN _ (kW q DltC)
  ·exact bR (cellD x c q) z
 have neF:∀x c,X'.env.cells.lookup x=Y c->∀b∈fp,c≠b:=λx c e b hb z=>by
  rcases clsub x c e with q|q
  ·rw[z]at q;exact eN _ (kW (kW q (fpD b hb)) DltC)
  ·exact(hf b hb).2.2.2.2.1 x c q z
 have stkD:∀b∈frs X.stack,b<D:=λb hb=>by
  rcases aM.mp (I.yP b hb)with e|hb
  ·rw[e,<-hD];exact I.lt
  ·let#[_,o,ho,_]:=I.rQ.mem hb;exact lt2 b o ho
 have ok':X'.Ok:=by
  refine#[I.ok.mod,?_,I.ok.glob,I.ok.blt,AF hC,Er _ _ _ (λx c e=>kE (kW (cellD x c (clsub0 x c e)) DltC)) λx y c h1 h2=>I.ok.inj x y c (clsub0 x c h1) (clsub0 y c h2),λx hx=>?_,λx c hx=>?_,I.ok.hd,I.ok.frames,.inl rfl,λb hb=>?_,λb o e=>?_,?_,λb o e hb=>?_,λb hb z=>?_,?_,#[I.Lb,I.tb]]
  ·exact hkind
  ·refine Ep _ _ _ x ?_;rcases hvis x hx with q|q
   ·let#[c,hc']:=hfree x q;exact .inr (tV _ _ x (.inr #[q,c,hc']))
   ·exact .inl q
  ·intro hx2;have hm:(x,cP)∈scope.names:=eF (by simpa using(show(scope.names.lookup x==Y .cell)=J from hx));rcases xu _ _ _ _ _ hx2 with⟨q,_⟩|⟨q,_⟩
   ·show aet.heap.objs.size<=c;rw[hC];exact jG q
   ·exact aG hm q
  ·rcases aM.mp hb with e|hb
   ·subst e;exact#[hDC,neD]
   ·refine#[?_,λx c e=>neF x c e b hb];exact fpC b hb
  ·exact#[up b o (I.bs b o e).1,(I.bs b o e).2]
  ·show X.base.objs.size<=aet.heap.objs.size;refine fJ (fJ I.ok.bsz I.sz) ?_;rw[hD,hC];exact jG DltC
  ·have hbD:b<D:=lt2 b o (I.bk b o e);rcases aM.mp hb with q|hb
   ·exact bR hbD q
   ·rcases(hf b hb).2.2.2.1 with q|q
    ·exact I.ok.noex b o e q
    ·have h1:=aV (I.ok.bs b o e).1;exact aG (cg h1 q) (eN _)
  ·rcases aM.mp hb with q|hb
   ·exact bR (stkD b z) q
   ·let#[_,f1,f2,_]:=hf b hb;rcases aM.mp (I.yP b z)with q|q
    ·exact f1 q
    ·exact f2 q
  ·have hfr:=I.stack;have keepF:∀l:M Env,aex.heap.FunFrames X.base l->aet.heap.FunFrames X.base l:=by
    intro l;induction l with
    |nil=>intro _;trivial
    |cons env r ih=>
     intro hl;let#[hk,#[aaQ,o,hf',hn,ho,hd],hr]:=hl;exact#[hk,#[aaQ,o,hf',hn,up aaQ o ho,hd],ih hr]
   exact keepF _ hfr
 have fpok:∀(H':Hp) (its:M S) (n:L),(∀b∈fp,H' b=B)->∀b∈fp,oz X' [(D,qN its n)] H' b:=λH' its n hn b hb=>by
  refine#[hn b hb,?_,?_,.inl (ai _ hb),λx c e=>neF x c e b hb,λp hp=>?_]
  ·exact fpC b hb
  ·intro z;let#[_,f1,f2,_]:=hf b hb;rcases aM.mp (I.yP b z)with q|q
   ·exact f1 q
   ·exact f2 q
  ·have hp:p∈[(D,qN its n)]:=hp;have e:p=(D,qN its n):=by simpa using hp
   subst e;exact fj (fpnD b hb)
 have pinD:∀(s:ak) (H':Hp) (its:M S) (n:L),s.heap.get? D=Y (qN its n)->H' D=B->∀p∈[(D,qN its n)],s.heap.get? p.1=Y p.2/\H' p.1=B/\p.1≠X'.env.locals/\p.1∉X'.fs/\∀v,p.2.data≠.cell v:=by
  intro s H' its n e hn p hp;have q:p=(D,qN its n):=by simpa using hp
  subst q;refine#[e,hn,hDC,λz=>?_,λv z=>nomatch z];exact eN _ (stkD D z)
 let Iv:L->ak->Prop:=λn s=>∃(i:L) (acc:M V) (its:M S) (m:L) (σ1:L2.St) (H1:Hp),n=items.length+1-i/\i<=items.length/\L2.Inv X' [(D,qN its m)] σ1 H1 s/\tn i s.heap/\(∀b∈fp,H1 b=B)/\bN acc its/\acc.length<=ah /\
  sJ ok g cond te k (items.drop i) acc σ1 H1
 have start:∀tk,L2.Inv X' [(D,qN [] 0)] σ' H { aet with heap:=aeA,toks:=tk }:=λtk=>by
  refine#[ok',rfl,by show m6 aet.gens;rw[egn];exact I.bare,Un.kept up1,#[_,aeK,λi x v h1 h2 h3=>?_],λx c e=>?_,freshH C (jG DltC),λx c e=>?_,λp hp=>?_,?_,hlen]
  ·let#[hx,hnl,c,u,hcu,ru,cellu]:=hσ i x v h1 h2;refine#[u,ru,.inr #[?_,?_]]
   ·rcases h3 with q|q|q
    ·exact aG q hnl
    ·exact .inl q
    ·exact .inr q
   ·let#[c',hc']:=tV (cells:=X.env.cells) scope.names [] x (.inr #[hx,c,hcu]);have e1:=clsub0 x c' hc';rw[hcu]at e1;cases e1;let#[o,ho,hd]:=cellu;exact#[c,(Ce _ _ _ x (hcell _ hx rfl)).trans hc',o,up1 _ _ (up _ _ ho),hd]
  ·rcases aeM x c e with q|q
   ·exact#[B,q]
   ·let#[v,o,ho,hd]:=I.cell x c (clsub0 x c q);exact#[v,o,up1 _ _ (up _ _ ho),hd]
  ·rcases clsub x c e with q|q
   ·exact freshH c (jG (kW DltC q))
   ·exact I.freeC x c q
  ·exact pinD { aet with heap:=aeA,toks:=tk } H [] 0 (up1 _ _ ae1) (freshH D (aW _)) p hp
  ·have hk:gJ X.prog X.w H aeA:=I.hok.kept λb u e=>up1 b u (up b u e);exact hk
 have loop:∀tk,o4 (a7 X.prog X.w) X.A (.compLoop (.ListComp elt [#[tgt,iter,ifs,0]] scope pos) 0 (.ref it) (.ref D) X'.env) (RR (.ref D) C) { aet with heap:=aeA,toks:=tk }:=λtk=>by
  refine O5 Iv ?_ (items.length+1) #[0,[],[],0,σ',H,rfl,iE _,start tk,T.keep 0 _ _ st λb hb o e=>up1 b o (up b o e),λb hb=>(hf b hb).1,.nil,iE _,by simpa using h];rintro n s ⟨i,acc,its,m,σ1,H1,rfl,hi,J1,st1,fr1,rv,hz,q⟩;by_cases hlt:i<items.length
  ·rw[s9 hlt]at q;let#[hok,hz1,q]:=q;have ei:items[i]?=Y items[i]:=aH hlt;refine a_ (T.item X' rfl rfl rfl hcm i _ s σ1 H1 _ J1 (fpok H1 its m fr1) st1 (hJ.go i H1 _ hok ei)) λr s4 ⟨u,hr,h4⟩=>?_;subst hr;refine a_ h4 λ_ s5 ⟨x,H5,I5,r5,y5,st5,fr5⟩=>?_;have I5':=I5.pinned (fpok H5 its m fr5) (T.obj _ _ st5);refine a_ (hg C aet ex hcm _ s5 σ1 H5 x u _ I5' r5 (hJ.yld i H1 _ x H5 hok ei y5 _ q)) λ_ s6 ⟨σ6,H6,I6,q6⟩=>?_;refine a_ (ht C aet ex hcm _ s6 σ6 H6 _ I6 q6) λb s7 ⟨H7,I7,q7⟩=>?_;have keepT:∀{σ8:L2.St}{H8:Hp}{s8:ak},L2.Inv X' ([(D,qN its m)]++yQ fp s5.heap) σ8 H8 s8->tn (i+1) s8.heap/\(∀b∈fp,H8 b=B):=λ{σ8 H8 s8} I8=>by
    refine#[T.keep _ _ _ st5 λb hb o e=>(I8.pin (b,o) (aK _ (aK _ (sI hb e)))).1,λb hb=>?_];let#[o,e,_]:=T.obj _ _ st5 b hb;exact(I8.pin (b,o) (aK _ (aK _ (sI hb e)))).2.1
   cases b with
   |false=>
    have q7:=(aD bq)▸q7;let#[t1,t2]:=keepT I7;exact#[items.length+1-(i+1),by omega,i+1,acc,its,m,σ6,H7,rfl,hlt,I7.xf,t1,t2,rv,hz,by simpa using q7]
   |true=>
    have q7:te σ6 H7 (λy H4=>sJ ok g cond te k (items.drop (i+1)) (acc++[y]) σ6 H4):=by simpa using q7
    refine a_ (he C aet ex hcm _ s7 σ6 H7 _ I7 q7) λyv s8 ⟨y,H8,I8,r8,q8⟩=>?_;let#[t1,t2]:=keepT I8;have hD8:=I8.pin (D,qN its m) (aK _ (aX _ (aQ.mpr rfl)));let#[e8,n8,_]:=hD8;have hl:=rv.length;refine gb F.slot_list_append #[_,e8,rfl] F.entry_list_append (F.args_list_append_2 _ _) (Bg D its.toArray m yv (by rw[bw];lia)) #[e8,?_];have I9:L2.Inv X' [] σ6 H8 s8:=I8.AO λp hp=>nomatch hp
    have kk:∀b o,b≠D->s8.heap.get? b=Y o->(s8.heap.update D (lF λx=>x.push yv)).get? b=Y o:=λb o hb e=>(nT _ _ (fj hb)).trans e;have I10:L2.Inv X' [] σ6 H8 { s8 with heap:=s8.heap.update D (lF λx=>x.push yv),toks:=s8.toks }:=
     I9.turned kk n8 hDC (.inl aj) neD (λp hp=>nomatch hp)
    have e9:=CV e8 (λx=>x.push yv);rw[List.push_toArray]at e9;obtain⟨m',e10⟩:∃m',({ s8 with heap:=s8.heap.update D (lF λx=>x.push yv),toks:=s8.toks }:ak).heap.get? D=Y (qN (its++[yv]) m'):=#[_,e9];refine#[items.length+1-(i+1),by omega,i+1,acc++[y],its++[yv],m',σ6,H8,rfl,hlt,I10.AO (pinD _ H8 _ m' e10 n8),?_,t2,rv.append (.cons r8 .nil),by rw[ao,bJ];lia,q8];exact T.keep _ _ _ t1 λb hb o e=>kk b o (fpnD b hb) e
  ·rw[nX (by omega)]at q;let#[hok,q]:=q;refine a_ (T.done X' rfl rfl rfl hcm i _ s σ1 H1 _ J1 (fpok H1 its m fr1) st1 (hJ.stop i H1 hok (by omega))) λr s4 ⟨hr,I4⟩=>?_;subst hr;let#[e4,n4,_]:=I4.pin (D,qN its m) (aK _ (aQ.mpr rfl));let#[mC,hnC,_]:=I4.loc;have hCn:H1 C=B:=I4.free;have exD:∀b,b<D->b∉fp->b∉X'.ex:=λb hb hn z=>by
    rcases aM.mp z with q|q
    ·exact bR hb q
    ·exact hn q
   have hok':gJ X.prog X.w (upd H1 D (.lst acc)) s4.heap:=O4 I4.hok n4 #[hz,its,m,rv,e4];have hU:Un (frs X.stack) fp H (upd H1 D (.lst acc)) aex.heap s4.heap:=by
    have b4:=I4.base;refine#[λb o e n hb hx=>?_,λb o e n hb hx=>?_,λb o e n hx=>?_,λb o e hx=>?_,λb xs e=>?_,λb o u e=>?_,λb ps e=>?_]
    ·exact b4.keep b o (up b o e) n hb (exD b (lt2 b o e) hx)
    ·exact b4.slot b o (up b o e) n hb (exD b (lt2 b o e) hx)
    ·rw[bf (bR (lt2 b o e))];exact b4.free b o (up b o e) n (exD b (lt2 b o e) hx)
    ·exact b4.there b o (up b o e) (exD b (lt2 b o e) hx)
    ·have z:=b4.tups b xs e;rw[bf (bX z n4)];exact z
    ·have z:=b4.aF b o u e;rw[bf (bX z n4)];exact z
    ·let#[more,z]:=b4.tbls b ps e;exact#[more,by rw[bf (bX z n4)];exact z]
   have I5:L2.Inv X pins O (upd H1 D (.lst acc)) s4:=I.call' (ch:=fp) (I4.os.trans eos) hU hok' I4.bare λb hb=>by
    let#[f0,f1,f2,f3,f4,f5]:=hf b hb;exact#[f3,f1,f4,f5]
   refine hRR D C s4 H1 acc n4 q I5 ?_ #[mC,hnC];have hle:aex.heap.objs.size<=C:=by rw[hD];exact jG DltC
   have z:=I.w_ (H':=upd H1 D (.lst acc)) (b:=C) hle (by rw[bf (fj hDC)];exact hCn);exact z
 subst aeI;exact codeAny_compStart_list (loop _) (T.self _ 0 _ _ _ (T.keep 0 _ _ st λb hb o e=>up1 b o (up b o e)) (loop _))
end
noncomputable def kr(N nl:M Str)(fr:M L):M Str:=nl++fr.map λi=>N.getD i R6
noncomputable def AU(nl:M Str)(fr:M L)(O:L2.St):L2.St:=nl.map (λ_=>B)++fr.map λi=>O.getD i B
structure vX (sc:gH) (N:M Str) (scope:gH) (nl:M Str) (fr:M L):Prop where
 kind:scope.kind=.function
 cell:∀y∈scope.names,y.2=.free->(y.1,cP)∉scope.names
 names:∀x∈scope.names,x.2=.local->scope.names.lookup x.1=Y .local
 free:∀n,(n,cM)∈scope.names->sc.names.lookup n=Y .cell\/sc.names.lookup n=Y .free
 fr:∀i∈fr,∃x,N[i]?=Y x/\scope.names.lookup x=Y .free
def y9(x:Str)(h:(m_ scope env).names.lookup x=Y .cell\/(m_ scope env).names.lookup x=Y .free):(x,cM)∈scope.names\/(x,cP)∈scope.names:=by
 have key:∃k,(x,k)∈(m_ scope env).names/\(k=.cell\/k=.free):=by
  rcases h with h|h
  ·exact#[_,eF h,.inl rfl]
  ·exact#[_,eF h,.inr rfl]
 let#[k,hm,hk]:=key;unfold m_ at hm;simp only[b7]at hm;let#[#[n,k0],h0,e]:=hm;simp only at e;split at e
 ·lia
 ·lia
theorem y_{env:Env}:∀{names:M (Str×ia)}{x:Str},names.lookup x=Y .free->
 (names.map λ(n,k)=>if(k==cM&&env.scope.kind==.function&&env.kindOf n==Y .cell)then(n,cP)else(n,k)).lookup x≠Y .local
|[],_,h=>by simp at h
|(n,k)::r,x,h=>by
 have ih:=@y_ env r x;show List.lookup x ((if(k==cM&&env.scope.kind==.function&&env.kindOf n==Y .cell)=J then(n,cP)else(n,k))::_)≠_;cases hx:x==n with
 |true=>
  simp only[dw,hx]at h;cases h;by_cases hc:(cM==cM&&env.scope.kind==.function&&env.kindOf n==Y .cell)=J
  ·rw[aB hc];simp only[dw,hx];decide
  ·rw[aD hc];simp only[dw,hx];decide
 |false=>
  simp only[dw,hx]at h;by_cases hc:(k==cM&&env.scope.kind==.function&&env.kindOf n==Y .cell)=J
  ·rw[aB hc];simp only[dw,hx];exact ih h
  ·rw[aD hc];simp only[dw,hx];exact ih h
section
variable{X:Cx}{tgt iter elt:Expr}{ifs:M Expr}{scope:gH}{pos:Pos}{nl:M Str}{fr:M L}{wi:Z7}{g:TG}{cond:TT}{te:TE}
def Dl(aaU:vX X.env.scope X.N scope nl fr)(I:L2.Inv X pins O H s)(i:L)(x:Str)(v:V)(h1:(kr X.N nl fr)[i]?=Y x)(h2:(AU nl fr O)[i]?=Y (Y v)):(x,cM)∈scope.names/\(m_ scope X.env).names.lookup x≠Y .local/\∃c u,X.env.cells.lookup x=Y c/\RelV v u/\s.heap.IsCell c (Y u):=by
 unfold kr at h1;unfold AU at h2;by_cases hi:i<nl.length
 ·rw[fW (by simpa using hi),bT,aH hi]at h2;cases h2
 ·rw[cj (by lia)]at h1;rw[cj (by simp;lia)]at h2;rw[bT]at h1 h2;rw[ay]at h2;cases e:fr[i-nl.length]? with
  |none=>rw[e]at h1;cases h1
  |some j=>
   rw[e]at h1 h2;have h1:=dh h1;have h2:=dh h2;let#[y,hy,hf]:=aaU.fr j (dH e);have exy:y=x:=by
    rw[<-h1];simp[hy]
   subst exy;have hσ:O[j]?=Y (Y v):=by
    cases q:O[j]? with
    |none=>simp[q]at h2
    |some o=>
     simp[q]at h2;rw[h2]
   have hm:=eF hf;refine#[hm,y_ hf,?_];let#[m,hn,hl]:=I.loc;have hk:=aaU.free y hm;let#[u,ru,l]:=hl j y v hy hσ (by rcases hk with q|q;exact .inr (.inl q);exact .inr (.inr q));rcases l with⟨l,_⟩|⟨_,c,hc,hcell⟩
   ·exfalso;have l:X.env.scope.names.lookup y=Y .local:=l;rcases hk with q|q<;>rw[q]at l<;>cases l
   ·exact#[c,u,hc,ru,hcell]
def uQ(aaU:vX X.env.scope X.N scope nl fr)(I:L2.Inv X pins O H s):∀n,(n,cM)∈scope.names->∃c,X.env.cells.lookup n=Y c:=λn hn=>I.ok.has n (aaU.free n hn)
def XT(hc:X.calm=J)(aaU:vX X.env.scope X.N scope nl fr)(hi:Fp X tgt iter wi)(hs:∀x,kC iter X.env x=pure x)(hg:∀(C:Addr) (aet:ak) (H:Hp) (ex:M Addr),PG (jb X (kr X.N nl fr) scope C aet H ex) tgt g)(ht:∀(C:Addr) (aet:ak) (H:Hp) (ex:M Addr),Ls (jb X (kr X.N nl fr) scope C aet H ex) ifs cond)(he:∀(C:Addr) (aet:ak) (H:Hp) (ex:M Addr),PE (jb X (kr X.N nl fr) scope C aet H ex) elt te):PE X (.ListComp elt [#[tgt,iter,ifs,0]] scope pos) (λO H Q=>wi O H λok items H1=>sJ ok g cond te (λvs H2=>∀p,H2 p=B->Q (.ref p) (upd H2 p (.lst vs))) items [] (AU nl fr O) H1):=by
 intro pins s O H Q I h;rw[eval_ListComp];refine uD rfl hs (yh (uQ aaU I)) aaU.kind aaU.names (a_ (hi pins s O H _ I h) λv aev aeA=>a_ aeA λitv aex aeH=>?_);let#[it,fp,tn,aat,H2,e,I2,T,st,hf,ok,items,hJ,hk]:=aeH;subst e;refine Dk (λ_ _ _ _ _=>hc) I2 (Ws T) st hf hJ aaU.cell aaU.kind (uQ aaU I2) ?_ (Dl aaU I2) y9
  (λC aet ex _=>hg C aet H2 ex) (λC aet ex _=>ht C aet H2 ex) (λC aet ex _=>he C aet H2 ex) hk λD C s' H3 vs hD q I3 f3 hn=>?_
 ·unfold AU kr;simp
 ·let#[m,hn]:=hn;let#[f0,f1,f2,f3,f4,f5]:=f3;refine#[m,hn,λh' hsb=>#[.ref D,_,I3.turned (λb o hb e=>hsb.extBut b o hb e) f0 f1 f3 f4 f5,rfl,q D hD]]
def XU(hc:X.calm=J)(hN:X.N.Nodup)(hiy:X.N[i]?=Y y)(hy:X.env.scope.names.lookup y=Y .local)(aaU:vX X.env.scope X.N scope nl fr)(hi:Fp X tgt iter wi)(hs:∀x,kC iter X.env x=pure x)(hsw:rM (.ListComp elt [#[tgt,iter,ifs,0]] scope pos) (Y (.Name y py)) spos.line X.env=pure J)(hg:∀(C:Addr) (aet:ak) (H:Hp) (ex:M Addr),PG (jb X (kr X.N nl fr) scope C aet H ex) tgt g)(ht:∀(C:Addr) (aet:ak) (H:Hp) (ex:M Addr),Ls (jb X (kr X.N nl fr) scope C aet H ex) ifs cond)(he:∀(C:Addr) (aet:ak) (H:Hp) (ex:M Addr),PE (jb X (kr X.N nl fr) scope C aet H ex) elt te):PS X (.Assign [.Name y py] (.ListComp elt [#[tgt,iter,ifs,0]] scope pos) spos) (λD O H=>wi O H λok items H1=>sJ ok g cond te (λvs H2=>∀p,H2 p=B->D.nx (O.set i (Y (.ref p))) (upd H2 p (.lst vs))) items [] (AU nl fr O) H1):=by
 intro pins s O H D I h;rw[PySem.exec_Assign_Name_used _ _ _ _ hsw];refine aA (yD (aA ?_));refine aA (sX (uD rfl hs (yh (uQ aaU I)) aaU.kind aaU.names
  (a_ (hi pins s O H _ I h) λv aev aeA=>a_ aeA λitv aex aeH=>?_)) (λ_ s' hq=>bO (bO hq)) λ_ _ e=>e)
 let#[it,fp,tn,aat,H2,e,I2,T,st,hf,ok,items,hJ,hk]:=aeH;subst e;refine Dk (λ_ _ _ _ _=>hc) I2 (Ws T) st hf hJ aaU.cell aaU.kind (uQ aaU I2) ?_ (Dl aaU I2) y9
  (λC aet ex _=>hg C aet H2 ex) (λC aet ex _=>ht C aet H2 ex) (λC aet ex _=>he C aet H2 ex) hk λDD C s' H3 vs hD q I3 f3 hn=>?_
 ·unfold AU kr;simp
 ·let#[m,hn]:=hn;let#[f0,f1,f2,f3,f4,f5]:=f3;refine Bb (E5 (v:=.ref DD) I3 hN hiy (.inl hy) rfl (λs'' I4 hsame=>?_) (.inr hy));let#[a,hs',ha]:=hsame;have hCa:C≠a:=by
   rcases ha with q|q
   ·rw[q];exact f1
   ·exact λz=>f4 y a q z.symm
  refine#[m,hn.sameBut hs' hCa,λh' hsb=>#[_,_,I4.turned (λb o hb e=>hsb.extBut b o hb e) f0 f1 f3 f4 f5,q DD hD]]
end
structure Tab where
 N:M Str
 sc:gH
 gl:M Str
 bn:M Str
 own:Str->Bool
 calm:Bool
 semi:Bool
noncomputable def S8(sc:gH)(x:Str):Bool:=match sc.names.lookup x with
|some .local=>J
|some .cell=>J
|some .free=>J
|_=>W
noncomputable def S9(T:Tab)(x:Str):Bool:=match T.sc.names.lookup x with
|some .local=>J
|some .cell=>T.own x
|_=>W
noncomputable def r_(sc:gH)(x:Str):Bool:=decide (sc.names.lookup x=Y .globalImplicit)
noncomputable def noStar:Expr->Bool
|.Starred ..=>W
|_=>J
def cB(es:M Expr):Bool:=es.all noStar
noncomputable def Dm:Expr->Bool
|.Call (.Name id _) [] [] _=>!(id==("super":Str))
|_=>J
noncomputable def xw:Expr->Bool
|.Slice ..=>W
|_=>J
noncomputable def Ig:Expr->Bool
|.Set ..=>W
|_=>J
noncomputable def qO:Expr->Bool
|.ListComp ..=>W
|.SetComp ..=>W
|.DictComp ..=>W
|_=>J
noncomputable def notTuple:Expr->Bool
|.Tuple ..=>W
|.List ..=>W
|_=>J
noncomputable def S_:V->Const->Bool
|.int i,.int j=>decide (i=j)
|.bl a,.bool b=>decide (a=b)
|.str a,.str b=>decide (a=b)
|.non,.none=>J
|_,_=>W
noncomputable def Fq(scope sc:gH):gH:=
 { scope with names:=scope.names.map λ(n,k)=>if(k==.free&&sc.kind==.function&&sc.names.lookup n==Y .cell)then(n,.cell)else(n,k) }
def Hi(T:Tab)(scope:gH)(nl:M Str)(fr:M L):Tab:={ N:=kr T.N nl fr,sc:=Fq scope T.sc,gl:=T.gl,bn:=T.bn,own:=(λx=>scope.names.lookup x==Y .cell),calm:=T.calm,semi:=T.semi }
def tF(sc:gH)(N:M Str)(scope:gH)(nl:M Str)(fr:M L):Bool:=
 decide (scope.kind=.function)&&scope.names.all (λy=>decide (y.2=.free->(y.1,cP)∉scope.names))&&scope.names.all (λx=>decide (x.2=.local->scope.names.lookup x.1=Y .local))
 && scope.names.all (λx=>decide (x.2=.free->sc.names.lookup x.1=Y .cell\/sc.names.lookup x.1=Y .free))&&fr.all (λi=>match N[i]? with|some x=>decide (scope.names.lookup x=Y .free)|none=>W)
 && decide (kr N nl fr).Nodup
noncomputable def twoP:Expr->aaV (Str×Str×Expr)
|.Call (.Name x _) [.Call (.Name y _) [l] [] _] [] _=>Y (x,y,l)
|_=>B
noncomputable def Tc:CI->Expr->Bool
|.enum _,e=>match e with
 |.Tuple ..=>J
 |_=>W
|.zip _,e=>match e with
 |.Tuple ..=>J
 |_=>W
|_,_=>J
noncomputable def MS(sc:gH):Expr->Bool
|.Name y _=>!decide (sc.names.lookup y=Y .local)
|_=>J
noncomputable def Hj(sc scope:gH)(t:Str)(pos vpos:Pos):Bool:=decide (sc.names.lookup t=Y .local)&&decide (pos.line=vpos.line)&&!(scope.names.any λ(n,k)=>n==t&&(k==.local||k==.cell))
def abN(T:Tab)(g:L):Expr->Bool
|.Name y _=>decide (T.gl[g]?=Y y)&&r_ T.sc y&&!(y==("__debug__":Str))
|_=>W
def abO(T:Tab):M L->M Expr->Bool
|[],es=>es.isEmpty
|g::gs,es=>match es with
 |e::er=>abN T g e&&abO T gs er
 |_=>W
noncomputable def fI(k:L):Expr->Bool
|.Call f _ _ _=>f.ctorIdx==k
|_=>W
def nI:Expr->Bool
|.Call _ [c] _ _=>c.ctorIdx==16&&fI 23 c
|_=>W
noncomputable def aI:Expr->Bool
|.Call _ [_,c] _ _=>c.ctorIdx==23
|_=>W
noncomputable def uI:Expr->Bool
|.Subscript _ r _=>r.ctorIdx==26
|_=>W
noncomputable def gI2:Stmt->Bool
|.AugAssign t _ _ _=>t.ctorIdx==23
|_=>W
noncomputable def cI2:Stmt->Bool
|.Assign (t::_) e _=>t.ctorIdx==23&&e.ctorIdx==8
|_=>W
def rI:Stmt->Bool
|.Raise (Y e) _ _=>e.ctorIdx==16&&fI 23 e
|_=>W
def bI1:M Stmt->Bool
|s::_=>s.ctorIdx==24&&match s with
 |.Expr e _=>e.ctorIdx==16&&fI 23 e
 |_=>W
|_=>W
noncomputable def bI2:M Stmt->Bool
|s::_=>s.ctorIdx==12
|_=>W
noncomputable def abP:M (Str×Int)->M (aaV Expr)->M Expr->Bool
|[],ks,vs=>ks.isEmpty&&vs.isEmpty
|p::r,ks,vs=>match ks,vs with
 |some (.Constant (.str x) _ _)::ks,.Constant (.int i) _ _::vs=>decide (x=p.1/\i=p.2)&&abP r ks vs
 |_,_=>W
def seqB(T:Tab)(c:Expr):Bool:=c.ctorIdx==25&&match c with
|.Tuple [.Name y _,.Name z _] _ _=>decide (y=("list":Str))&&r_ T.sc y&&T.bn.contains y&&decide (z=("tuple":Str))&&r_ T.sc z&&T.bn.contains z
|_=>W
noncomputable def abQ:CI->Bool
|.zip _=>J
|_=>W
noncomputable def abR:Bf->Bool
|.all=>J
|.len=>J
|_=>W
mutual
noncomputable def dM(T:Tab):CE->Expr->Bool
|.var i,e=>e.ctorIdx==23&&match e with
 |.Name x _=>decide (T.N[i]?=Y x)&&S8 T.sc x&&!(x==("__debug__":Str))&&!(x==("__classdict__":Str))
 |_=>W
|.con v,e=>e.ctorIdx==19&&match e with
 |.Constant c _ _=>S_ v c
 |_=>W
|.glo g,e=>e.ctorIdx==23&&match e with
 |.Name x _=>decide (T.gl[g]?=Y x)&&r_ T.sc x&&!(x==("__debug__":Str))
 |_=>W
|.bin op a b,e=>e.ctorIdx==2&&match e with
 |.BinOp l o r _=>decide (op=o)&&dM T a l&&dM T b r
 |_=>W
|.nset a,e=>e.ctorIdx==16&&(fI 23 e&&(nI e&&match e with
 |.Call (.Name x _) [.Call (.Name y _) [l] [] _] [] _=>T.calm&&(decide (x=("len":Str))&&r_ T.sc x&&T.bn.contains x&&decide (y=("set":Str))&&r_ T.sc y&&T.bn.contains y&&noStar l&&dM T a l)
 |_=>W))
|.neg a,e=>e.ctorIdx==3&&match e with
 |.UnaryOp .USub l _=>dM T a l
 |_=>W
|.not a,e=>e.ctorIdx==3&&match e with
 |.UnaryOp .Not l _=>dM T a l
 |_=>W
|.and a b,e=>e.ctorIdx==0&&match e with
 |.BoolOp .And [x,y] _=>dM T a x&&dM T b y
 |.BoolOp .And (x::y::z::r) pos=>dM T a x&&dM T b (.BoolOp .And (y::z::r) pos)
 |_=>W
|.or a b,e=>e.ctorIdx==0&&match e with
 |.BoolOp .Or [x,y] _=>dM T a x&&dM T b y
 |.BoolOp .Or (x::y::z::r) pos=>dM T a x&&dM T b (.BoolOp .Or (y::z::r) pos)
 |_=>W
|.ite c a b,e=>e.ctorIdx==5&&match e with
 |.IfExp t x y _=>dM T c t&&dM T a x&&dM T b y
 |_=>W
|.cmp op a b,e=>e.ctorIdx==15&&match e with
 |.Compare l [o] [r] _=>decide (op=o)&&!yF o r&&dM T a l&&dM T b r
 |_=>W
|.chain o1 o2 a b c,e=>e.ctorIdx==15&&match e with
 |.Compare l [p1,p2] [m,r] _=>decide (o1=p1)&&decide (o2=p2)&&!Gz [p1,p2] [m,r]&&dM T a l&&dM T b m&&dM T c r
 |_=>W
|.call g as,e=>e.ctorIdx==16&&(fI 23 e&&match e with
 |.Call (.Name x _) es [] _=>decide (T.gl[g]?=Y x)&&r_ T.sc x&&!(x==("__debug__":Str))&&cB es&&pD T as es
 |_=>W)
|.blt f as,e=>e.ctorIdx==16&&(fI 23 e&&match e with
 |.Call (.Name x _) es [] _=>(T.calm||T.semi&&abR f)&&(decide (x=f.name)&&r_ T.sc x&&T.bn.contains x&&cB es&&!es.isEmpty&&pD T as es)
 |_=>W)
|.isi a t,e=>e.ctorIdx==16&&(fI 23 e&&(if t=.none then(match e with
 |.Call (.Name x _) [l,c] [] _=>decide (x=("isinstance":Str))&&r_ T.sc x&&T.bn.contains x&&seqB T c&&noStar l&&dM T a l
 |_=>W)else aI e&&match e with
 |.Call (.Name x _) [l,.Name y _] [] _=>decide (x=("isinstance":Str))&&r_ T.sc x&&T.bn.contains x&&decide (y=t.name)&&decide (t≠.none)&&r_ T.sc y&&T.bn.contains y&&noStar l&&dM T a l
 |_=>W))
|.mth m o as,e=>e.ctorIdx==16&&(fI 20 e&&match e with
 |.Call (.Attribute l nm apos) es [] cpos=>decide (nm=m.name)&&Dm l&&(apos.endLine==cpos.line)&&cB es&&decide (es.length<30)&&dM T o l&&pD T as es
 |_=>W)
|.ix a b,e=>e.ctorIdx==21&&match e with
 |.Subscript l r _=>xw r&&dM T a l&&dM T b r
 |_=>W
|.sl a lo hi,e=>e.ctorIdx==21&&(uI e&&match e with
 |.Subscript l (.Slice x y B _) _=>dM T a l&&Ih T lo x&&Ih T hi y
 |_=>W)
|.lst as,e=>e.ctorIdx==24&&match e with
 |.List es _=>cB es&&pD T as es
 |_=>W
|.tup as,e=>e.ctorIdx==25&&match e with
 |.Tuple es _ _=>cB es&&pD T as es
 |_=>W
|.comp nl fr elt tg src cond,e=>e.ctorIdx==8&&match e with
 |.ListComp l [#[t,it,ifs,0]] sc _=>(T.calm&&!T.semi||T.semi&&abQ src)&&(tF T.sc T.N sc nl fr&&(Ig it&&Tc src t)&&Td T src it&&za (Hi T sc nl fr) tg t&&aac (Hi T sc nl fr) cond ifs&&dM (Hi T sc nl fr) elt l)
 |_=>W
|.slp a lo hi k,e=>match e with
 |.Subscript l (.Slice x y (Y (.Constant c _ _)) _) _=>S_ (.int k) c&&dM T a l&&Ih T lo x&&Ih T hi y
 |_=>W
noncomputable def pD(T:Tab):ja->M Expr->Bool
|.nil,es=>match es with
 |[]=>J
 |_=>W
|.cons a r,es=>match es with
 |e::er=>dM T a e&&pD T r er
 |_=>W
noncomputable def Ih(T:Tab):CO->aaV Expr->Bool
|.none,e=>match e with
 |none=>J
 |_=>W
|.some a,e=>match e with
 |some x=>dM T a x
 |_=>W
noncomputable def aac(T:Tab):CO->M Expr->Bool
|.none,es=>match es with
 |[]=>J
 |_=>W
|.some a,es=>match es with
 |[x]=>dM T a x
 |_=>W
noncomputable def za(T:Tab):CG->Expr->Bool
|.name i,e=>e.ctorIdx==23&&match e with
 |.Name x _=>decide (T.N[i]?=Y x)&&S9 T x
 |_=>W
|.tup gs,e=>e.ctorIdx==25&&match e with
 |.Tuple es _ _=>(T.calm||T.semi)&&(cB es&&Hl T gs es)
 |_=>W
|.sub o i,e=>e.ctorIdx==21&&match e with
 |.Subscript l r _=>xw r&&dM T o l&&dM T i r
 |_=>W
noncomputable def Hl(T:Tab):rF->M Expr->Bool
|.nil,es=>match es with
 |[]=>J
 |_=>W
|.cons g r,es=>match es with
 |e::er=>za T g e&&Hl T r er
 |_=>W
noncomputable def Td(T:Tab):CI->Expr->Bool
|.seq a,e=>dM T a e
|.range as,e=>e.ctorIdx==16&&(fI 23 e&&match e with
 |.Call (.Name x _) es [] _=>decide (x=("range":Str))&&r_ T.sc x&&T.bn.contains x&&cB es&&!es.isEmpty&&pD T as es
 |_=>W)
|.zip as,e=>e.ctorIdx==16&&(fI 23 e&&match e with
 |.Call (.Name x _) es [] _=>decide (x=("zip":Str))&&r_ T.sc x&&T.bn.contains x&&cB es&&!es.isEmpty&&pD T as es
 |_=>W)
|.enum a,e=>e.ctorIdx==16&&(fI 23 e&&match e with
 |.Call (.Name x _) [l] [] _=>decide (x=("enumerate":Str))&&r_ T.sc x&&T.bn.contains x&&noStar l&&dM T a l
 |_=>W)
end
def aad(T:Tab):CB->M Stmt->Bool
|.call g as,sts=>bI1 sts&&match sts with
 |[.Expr (.Call (.Name x _) es [] _) _]=>decide (T.gl[g]?=Y x)&&r_ T.sc x&&!(x==("__debug__":Str))&&cB es&&!es.isEmpty&&pD T as es
 |_=>W
|.ite c a b,sts=>bI2 sts&&match sts with
 |[.If t x y _]=>dM T c t&&aad T a x&&aad T b y
 |_=>W
mutual
noncomputable def Ii(T:Tab):CS->Stmt->Bool
|.expr c,st=>st.ctorIdx==24&&match st with
 |.Expr e _=>qO e&&dM T c e
 |_=>W
|.asg g c,st=>st.ctorIdx==5&&match st with
 |.Assign [t] e _=>(qO e||MS T.sc t)&&notTuple t&&za T g t&&dM T c e
 |_=>W
|.aug i c,st=>st.ctorIdx==7&&(gI2 st&&match st with
 |.AugAssign (.Name x _) .Add e _=>decide (T.N[i]?=Y x)&&decide (T.sc.names.lookup x=Y .local)&&dM T c e
 |_=>W)
|.acl i g as,st=>st.ctorIdx==5&&match st with
 |.Assign [t] e _=>(qO e||MS T.sc t)&&notTuple t&&za T (.name i) t&&dM T (.call g as) e
 |_=>W
|.casg i c,st=>st.ctorIdx==5&&(cI2 st&&match st with
 |.Assign [.Name y py] (.ListComp l gs sc vpos) _=>(T.calm&&!T.semi)&&(decide (T.N[i]?=Y y)&&Hj T.sc sc y py vpos&&dM T c (.ListComp l gs sc vpos))
 |_=>W)
|.tasg g c,st=>match st with
 |.Assign [t] e _=>qO e&&notTuple e&&za T g t&&dM T c e
 |_=>W
|.ret c,st=>st.ctorIdx==3&&match st with
 |.Return (Y e) _=>dM T c e
 |_=>W
|.rcl g as,st=>st.ctorIdx==3&&match st with
 |.Return (Y e) _=>dM T (.call g as) e
 |_=>W
|.ifs c a b,st=>st.ctorIdx==12&&match st with
 |.If t x y _=>dM T c t&&pF T a x&&pF T b y
 |_=>W
|.whil c b,st=>match st with
 |.While t x [] _=>dM T c t&&pF T b x
 |_=>W
|.forr g src b,st=>st.ctorIdx==9&&match st with
 |.For t it x [] _=>T.calm&&((Ig it&&Tc src t)&&Td T src it&&za T g t&&pF T b x)
 |_=>W
|.brk,st=>st.ctorIdx==26&&match st with
 |.Break _=>J
 |_=>W
|.cont,st=>st.ctorIdx==27&&match st with
 |.Continue _=>J
 |_=>W
|.never,_=>J
noncomputable def pF(T:Tab):cE->M Stmt->Bool
|.nil,sts=>match sts with
 |[]=>J
 |_=>W
|.cons s r,sts=>match sts with
 |st::sr=>Ii T s st&&pF T r sr
 |_=>W
|.two s t r,sts=>match sts with
 |st::su::sr=>Ii T s st&&(Ii T t su&&pF T r sr)
 |_=>W
|.chg s r,sts=>match sts with
 |st::sr=>Ii T s st&&pF T r sr
 |_=>W
end
noncomputable def qA(A:cR):cR:={ A with handled:=B }
def HdC(h:Heap)(e:Addr):Prop:=∃oe vs,h.get? e=Y oe/\oe.data=.fields vs/\vs[2]?=Y .none
structure Wt (P:bM) (w:bL) (K:aa) (mg:Str->aaV S) (base:Heap) (k:L) (f:Addr) (fd:fC) (ps:M Str) (sp:Sp):Prop where
 len:∀vs H Q,sp vs H Q E0->vs.length=ps.length
 run:∀(A:cR) (outer:M Env) (s:ak) (H:Hp) (args:Args) (us:M S) (vs:M V) (Q:VK) (e:Addr),k8 k (qA A)->A.handled=Y (.ref e)->HdC s.heap e->H e=B->e∉frs outer->HL P w K mg base A outer s H->A5 s fd args (ps.zip us)->bN vs us->sp vs H Q E0->
  o4 (a7 P w) A (.call (.ref f) args) (CR Wk outer P w H s Q E0) s
def Ij{H:Hp}{e:Addr}:yV H e e=B:=aB rfl
def off_ne{H:Hp}{e b:Addr}(h:b≠e):yV H e b=H b:=aD h
def HG(X:Cx)(E:XK)(x:Str)(sp:Sp)(dvs:M V):Prop:=aR
def HG.comp(h:HG X E x sp dvs)(hc:X.calm=J\/Dj X/\Dj X')(e1:X'.A=X.A)(e2:X'.prog=X.prog)(e3:X'.w=X.w)(e4:X'.K=X.K)(e5:X'.mg=X.mg)(e6:X'.base=X.base)(e7:X'.calm=X.calm):HG X' E0 x sp dvs:=h
structure LamK (X:Cx) (P:Addr):Prop where
 c:∃c,X.env.code=.ref c/\CZ X.K c P=J
 tb:(P,X.env.qual++"<lambda>")∈oS
 dp:X.A.depth<wM
 un:X.A.units+80<eB
def GOk(X:Cx)(E:XK)(x:Str):G->Prop
|.val v=>∃u,X.mg x=Y u/\RelV v u
|.tup a xs=>X.mg x=Y (.ref a)/\Fg X.K a J xs
|.fn sp dvs=>(∃(k:L) (f:Addr) (fd:fC) (ps:M Str) (ds:M S),iF X.prog X.w X.K X.mg X.base (l9 X.prog X.w) k f fd ps sp/\k8 k X.A/\X.mg x=Y (.ref f)/\gS X.K (.ref f)=J/\Binds X.K fd ps ds/\bN dvs ds/\yS (l9 X.prog X.w) X E)\/HG X E x sp dvs
|.fh sp=>∃(k:L) (f:Addr) (fd:fC) (ps:M Str),Wt X.prog X.w X.K X.mg X.base k f fd ps sp/\k8 k (qA X.A)/\X.mg x=Y (.ref f)/\gS X.K (.ref f)=J/\(Binds X.K fd ps []/\ps≠[])
|.lam P=>LamK X P
|.nop=>True
def cxe0(h:l9 P w outer H s E0 e s'):aR:=by
 exact h
structure Ok (X:Cx) (T:Tab) (U:M G) (E:XK):Prop where
 N:X.N=T.N
 nd:X.N.Nodup
 sc:X.env.scope=T.sc
 kind:X.env.scope.kind=.function
 gl:∀(i:L) (x:Str) (g:G),T.gl[i]?=Y x->U[i]?=Y g->GOk X E x g
 bn:∀x∈T.bn,X.mg x=B
 own:∀x,T.own x=J->X.fn x=J
 calm:T.calm=J->X.calm=J
 semi:T.semi=J->Dj X
 po:vm (a7 X.prog X.w) X.A X.env X.xe
 room:X.A.units+60<eB
def qP(ok:Ok X T U E)(h:tF T.sc T.N sc nl fr=J)(C:Addr)(aet:ak)(H:Hp)(ex:M Addr)(hs:T.semi=J->Dj (jb X (kr X.N nl fr) sc C aet H ex))(hcs:T.calm=J\/T.semi=J):Ok (jb X (kr X.N nl fr) sc C aet H ex) (Hi T sc nl fr) U E0:=by
 unfold tF at h;simp only[cU,cK]at h;let#[#[#[#[#[h1,h2],h3],h4],h5],h6]:=h;refine#[?_,?_,?_,h1,λi x g hx hg=>?_,ok.bn,λx z=>z,ok.calm,hs,Xk,ok.room]
 ·show kr X.N nl fr=kr T.N nl fr;rw[ok.N]
 ·rw[ok.N];exact h6
 ·show m_ sc X.env=Fq sc T.sc;rw[<-ok.sc];rfl
 ·have q:=ok.gl i x g hx hg;cases g with
  |val v=>exact q
  |tup a xs=>exact q
  |fn sp dvs=>
   rcases q with⟨k,f,fd,ps,ds,q1,q2,q3,q4,q5,q6,q7⟩|q
   ·exact .inl #[k,f,fd,ps,ds,q1,q2,q3,q4,q5,q6,λpins O H s e s' I z=>(cxe0 z).elim]
   ·exact .inr ((q.comp (hcs.imp ok.calm λz=>#[ok.semi z,hs z]) rfl rfl rfl rfl rfl rfl rfl))
  |lam P=>exact#[q.c,q.tb,q.dp,q.un]
  |_=>exact q
def O6(h:tF sc N scope nl fr=J):vX sc N scope nl fr:=by
 unfold tF at h;simp only[cU,cK]at h;let#[#[#[#[#[h1,h2],h3],h4],h5],h6]:=h;refine#[h1,λy hy=>aq (cV.mp h2 y hy),λx hx=>aq (cV.mp h3 x hx),λn hn=>?_,λi hi=>?_]
 ·exact aq (cV.mp h4 (n,.free) hn) rfl
 ·have q:=cV.mp h5 i hi;revert q;cases N[i]? with
  |none=>simp
  |some x=>simp
section
variable{env:Env}
def gP(h:noStar e=J):fB (e::es) env=(W,eval e env)::fB es env:=by
 cases e<;>first|rfl|exact aG h bq
theorem Cg:∀{es:M Expr},cB es=J->fB es env=es.map λe=>(W,eval e env)
|[],_=>rfl
|e::es,h=>by
 have h':noStar e=J/\cB es=J:=by simpa[cB]using h
 rw[gP h'.1,Cg h'.2];rfl
def tG(h:cB es=J):(qx pos (fB es env)).any (·.1)=W:=by
 rw[Cg h];unfold qx;rw[bW,AH];rw[nE];intro x _;simp
def Te(h:cB es=J)(hl:es.length<30):((qx pos (fB es env)).all (λx=>!x.1)&&(backToKw pos (keywordEach [] env)).all (λx=>x.1.isSome)&&decide (es.length+([]:M E1).length+(if([]:M E1).isEmpty then 0 else 1)<30))=J:=by
 rw[Cg h];unfold qx;rw[bW,jH];have e1:(es.all ((λx:Bool×Sem S=>!x.1)∘(λx:Bool×Sem S=>(x.1,if x.1 then do let v <-x.2;EX pos;pure v else x.2))∘λe=>(W,eval e env)))=J:=by
  rw[cV];intro x _;rfl
 have e2:decide (es.length+([]:M E1).length+(if([]:M E1).isEmpty then 0 else 1)<30)=J:=by simp_all
 rw[e2,G1];exact yd.mpr #[e1,rfl]
def Lu(h:Dm o=J):r6 o nm env whole=whole:=by
 unfold r6;split
 ·rename_i id p pos;have:(id==("super":Str))=W:=by simpa[Dm]using h
  have h2:(id != ("super":Str))=J:=by simp[bne,this]
  simp only[h2,J7,ie]
 ·rfl
def MT(h:xw b=J):Lh b:=by
 intro o i;cases b<;>first|rfl|exact aG h bq
def zb(h:Ig e=J):∀x,kC e env x=pure x:=by
 intro x;cases e<;>first|rfl|exact aG h bq
def Dn(h:qO e=J):rM e t n env=pure W:=by
 cases e<;>first|rfl|exact aG h bq
def aae(h:S8 env.scope x=J):Ot env.scope x:=by
 unfold S8 at h;split at h
 ·exact .inl (by assumption)
 ·exact .inr (.inl (by assumption))
 ·exact .inr (.inr (by assumption))
 ·lia
def nH(h:noStar e=J):jt (e::es) env=(W,Aw e env)::jt es env:=by
 cases e<;>first|rfl|exact aG h bq
theorem xx:∀{es:M Expr},cB es=J->(jt es env).length=es.length/\(jt es env).findIdx? (·.1)=B
|[],_=>#[rfl,rfl]
|e::es,h=>by
 have h':noStar e=J/\cB es=J:=by simpa[cB]using h
 let#[a,b]:=xx h'.2;rw[nH h'.1];refine#[by simp[a],?_];rw[List.findIdx?_cons];simp[b]
end
section
variable{X:Cx}{a b c:Expr}{ta tb tc:TE}{pos:Pos}{o:Expr}{to:TE}{es:M Expr}{t:TA}{apos cpos:Pos}{m:Mt}
def pe_and'{rest:M Expr}(ha:PE X a ta)(hb:PE X (.BoolOp .And (b::rest) pos) tb):PE X (.BoolOp .And (a::b::rest) pos) (λO H Q=>ta O H λx H1=>match x with
  |.bl c=>if c=J then tb O H1 Q else Q (.bl W) H1
  |_=>aR):=by
 intro pins s O H Q I h;refine BoolOp_and (a_ (ha pins s O H _ I h) λv s1 ⟨x,H1,I1,r1,q1⟩=>?_);cases x with
 |bl c=>
  cases r1;refine gh ?_;cases c with
  |true=>exact hb pins s1 O H1 Q I1 q1
  |false=>exact#[.bl W,H1,I1,rfl,q1]
 |_=>exact aJ q1
def pe_or'{rest:M Expr}(ha:PE X a ta)(hb:PE X (.BoolOp .Or (b::rest) pos) tb):PE X (.BoolOp .Or (a::b::rest) pos) (λO H Q=>ta O H λx H1=>match x with
  |.bl c=>if c=J then Q (.bl J) H1 else tb O H1 Q
  |_=>aR):=by
 intro pins s O H Q I h;refine BoolOp_or (a_ (ha pins s O H _ I h) λv s1 ⟨x,H1,I1,r1,q1⟩=>?_);cases x with
 |bl c=>
  cases r1;refine gh ?_;cases c with
  |false=>exact hb pins s1 O H1 Q I1 q1
  |true=>exact#[.bl J,H1,I1,rfl,q1]
 |_=>exact aJ q1
def pe_not'(ha:PE X a ta):PE X (.UnaryOp .Not a pos) (λO H Q=>ta O H λx H1=>ny X.K x H1 λb=>Q (.bl (!b)) H1):=by
 intro pins s O H Q I h;refine UnaryOp_ (a_ (ha pins s O H _ I h) λv s1 ⟨x,H1,I1,r1,q1⟩=>?_);refine not_of (a_ (Wq pins s1 O H1 x v (λb H2=>Q (.bl (!b)) H2) I1 r1 ?_) λb s2 qq=>by let#[H2,I2,q2]:=qq;exact#[.bl (!b),H2,I2,rfl,q2]);exact q1
def pe_neg'(ha:PE X a ta):PE X (.UnaryOp .USub a pos) (λO H Q=>ta O H λx H1=>match x with
  |.int i=>Q (.int (-i)) H1
  |_=>aR):=by
 intro pins s O H Q I h;refine UnaryOp_ (a_ (ha pins s O H _ I h) λv s1 ⟨x,H1,I1,r1,q1⟩=>?_);cases x with
 |int i=>exact ZL pins s1 O H1 (.int i) v Q I1 r1 #[i,rfl,q1]
 |_=>lia
def pe_chain'(hu:X.A.units+60<eB)(ha:PE X a ta)(hb:PE X b tb)(hc:PE X c tc)(hm:Gz [op,op'] [b,c]=W):PE X (.Compare a [op,op'] [b,c] pos) (λO H Q=>ta O H λx H1=>tb O H1 λy H2=>nv X.K op x y H2 λz H3=>match z with
  |.bl k=>if k=J then tc O H3 λu H4=>nv X.K op' y u H4 Q else Q (.bl W) H3
  |_=>aR):=by
 intro pins s O H Q I h;refine Compare_chain (a_ (ha pins s O H _ I h) λv s1 ⟨x,H1,I1,r1,q1⟩=>chain_link (a_ (hb pins s1 O H1 _ I1 q1) λu s2 ⟨y,H2,I2,r2,q2⟩=>
  a_ (AS hu op pins s2 O H2 x y v u _ I2 r1 r2 q2) λd s3 ⟨z,H3,I3,r3,q3⟩=>?_)) hm
 cases z with
 |bl k=>
  cases r3;refine gh ?_;cases k with
  |false=>exact ite_ff #[.bl W,H3,I3,rfl,q3]
  |true=>exact ite_tt (chain_last (a_ (hc pins s3 O H3 _ I3 q3) λw' s4 ⟨z',H4,I4,r4,q4⟩=>AS hu op' pins s4 O H4 y z' u w' Q I4 r2 r4 q4))
 |_=>exact aJ q3
def pt_chain'(hu:X.A.units+60<eB)(ha:PE X a ta)(hb:PE X b tb)(hc:PE X c tc)(hm:Gz [op,op'] [b,c]=W):PT X (.Compare a [op,op'] [b,c] pos) (λO H Q=>ta O H λx H1=>tb O H1 λy H2=>nv X.K op x y H2 λz H3=>match z with
  |.bl k=>if k=J then tc O H3 λu H4=>nv X.K op' y u H4 λz H5=>match z with
   |.bl k=>Q k H5
   |_=>aR
   else Q W H3
  |_=>aR):=by
 intro pins s O H Q I h;refine isTrue_chain (a_ (ha pins s O H _ I h) λv s1 ⟨x,H1,I1,r1,q1⟩=>test_link (a_ (hb pins s1 O H1 _ I1 q1) λu s2 ⟨y,H2,I2,r2,q2⟩=>
  a_ (AS hu op pins s2 O H2 x y v u _ I2 r1 r2 q2) λd s3 ⟨z,H3,I3,r3,q3⟩=>?_)) hm
 cases z with
 |bl k=>
  cases r3;refine gh ?_;cases k with
  |false=>exact ite_ff #[H3,I3,q3]
  |true=>
   refine ite_tt (test_last (a_ (hc pins s3 O H3 _ I3 q3) λw' s4 ⟨z',H4,I4,r4,q4⟩=>a_ (AS hu op' pins s4 O H4 y z' u w' _ I4 r2 r4 q4) λd' s5 ⟨z2,H5,I5,r5,q5⟩=>?_));cases z2 with
   |bl k2=>
    cases r5;exact gh #[H5,I5,q5]
   |_=>exact aJ q5
 |_=>exact aJ q3
def pt_cmp'(hu:X.A.units+60<eB)(ha:PE X a ta)(hb:PE X b tb)(hm:yF op b=W):PT X (.Compare a [op] [b] pos) (λO H Q=>ta O H λx H1=>tb O H1 λy H2=>nv X.K op x y H2 λz H3=>match z with
  |.bl k=>Q k H3
  |_=>aR):=by
 intro pins s O H Q I h;refine wpAny_isTrue_Compare1 (a_ (ha pins s O H _ I h) λv s1 ⟨x,H1,I1,r1,q1⟩=>a_ (hb pins s1 O H1 _ I1 q1) λu s2 ⟨y,H2,I2,r2,q2⟩=>a_ (AS hu op pins s2 O H2 x y v u _ I2 r1 r2 q2) λd s3 ⟨z,H3,I3,r3,q3⟩=>?_) hm;cases z with
 |bl k=>
  cases r3;exact gh #[H3,I3,q3]
 |_=>exact aJ q3
def pt_val'(ha:PE X a ta)(he:∀whole,Av a X.env whole=(do let v <-whole;EX a.pos;wK [v] (J3 v))):PT X a (λO H Q=>ta O H λx H1=>ny X.K x H1 λb=>Q b H1):=by
 intro pins s O H Q I h;exact isTrue_plain (a_ (ha pins s O H _ I h) λv s1 qq=>by let#[x,H1,I1,r1,q1]:=qq;exact Wq pins s1 O H1 x v Q I1 r1 q1) (he _)
def aaf(hu:X.A.units+60<eB)(ho:PE X o to)(ha:PA X (e::er) t)(hb:Dm o=J)(hl:(apos.endLine==cpos.line)=J)(hs:cB (e::er)=J)(hf:(e::er).length<30):PE X (.Call (.Attribute o m.name apos) (e::er) [] cpos) (λO H Q=>to O H λx H1=>o_ m x H1/\t O H1 λvs H2=>oB X.K m x vs H2 Q):=by
 intro pins s O H Q I h;refine wpAny_Call_method_late (Lu hb) (Te hs hf) hl rfl (a_ (ho pins s O H _ I h) λv s1 ⟨x,H1,I1,r1,hr,q1⟩=>?_);let#[h1,h2]:=Lq I1 r1 hr;have fx:=Ic m x H1 hr;refine#[Hg m x,MQ m x,fx.pa,fx.slot,fx.ty,h1,h2,?_];have run:=a_ (ha cpos pins s1 O H1 _ I1 q1) λus s2 qq=>by let#[vs,H2,I2,r2,q2]:=qq;exact Lr hu I2 r1 r2 q2
 have hs':noStar e=J/\cB er=J:=by simpa[cB]using hs
 rw[gP hs'.1]at run ⊢;exact vS (by show(W||(qx cpos (fB er X.env)).any (·.1))=W;rw[tG hs'.2]<;>rfl) (Calls.evalArgs_plain run)
def XW(hu:X.A.units+60<eB)(ho:PE X o to)(hb:Dm o=J)(hl:(apos.endLine==cpos.line)=J):PE X (.Call (.Attribute o m.name apos) [] [] cpos) (λO H Q=>to O H λx H1=>o_ m x H1/\oB X.K m x [] H1 Q):=by
 intro pins s O H Q I h;refine wpAny_Call_method0_late (Lu hb) hl (a_ (ho pins s O H _ I h) λv s1 ⟨x,H1,I1,r1,hr,q1⟩=>?_);let#[h1,h2]:=Lq I1 r1 hr;have fx:=Ic m x H1 hr;exact#[Hg m x,MQ m x,fx.pa,fx.slot,fx.ty,h1,h2,vS rfl (PySem.evalArgs_none (Lr hu I1 r1 .nil q1))]
def aag(hg:Gl X x)(hx:x="isinstance")(hm:X.mg x=B)(hgy:Gl X y)(hy:y=ty.name)(hty:ty≠.none)(hmy:X.mg y=B)(ha:PE X a ta)(hs:noStar a=J):PE X (.Call (.Name x p) [a,.Name y py] [] pos) (λO H Q=>ta O H λv H1=>tT X.K ty v H1 λb=>Q (.bl b) H1):=by
 subst hx hy;intro pins s O H Q I h;refine gU (l7 I hg hm Ec ?_);have hst:fB [a,.Name ty.name py] X.env=[(W,eval a X.env),(W,eval (.Name ty.name py) X.env)]:=by rw[gP hs];rfl
 refine ic ?_ (by rw[hst];rfl) rfl;rw[hst];refine eZ (a_ (ha pins s O H _ I h) λu s1 ⟨v,H1,I1,r1,q1⟩=>?_);have hn:ty.name≠("__name__":Str):=by cases ty<;>decide +kernel
 have hd:(ty.name==("__debug__":Str))=W:=by cases ty<;>decide +kernel
 refine eZ (l7 I1 hgy hmy (Ty.boot ty hty) (jk ?_) hn hd);refine a_ (aaa I1 r1 q1 hty) λw s2 ⟨z,H2,I2,r2,e,b,ez,qb⟩=>?_;subst e ez;exact#[.bl b,_,I2,r2,qb]
def Bf.XX(f:Bf):(∃id,f.val=.builtin id)\/∃T,f.val=.type T:=by
 cases f<;>first|exact .inl ⟨_,rfl⟩|exact .inr ⟨_,rfl⟩
def aah(hb:nY X f.val (xm X.K f))(hg:Gl X x)(hx:x=f.name)(hm:X.mg x=B)(ha:PA X (e::er) t)(hs:cB (e::er)=J):PE X (.Call (.Name x p) (e::er) [] pos) (λO H Q=>t O H λvs H1=>xm X.K f vs H1 Q):=by
 subst hx;have hs':noStar e=J/\cB er=J:=by simpa[cB]using hs
 intro pins s O H Q I h;refine gU (l7 I hg hm f.boot ?_ f.ok.1 f.ok.2);have run:=a_ (ha pos pins s O H _ I h) λus s1 qq=>by let#[vs,H1,I1,r1,q1]:=qq;exact hb pins s1 O H1 vs us Q I1 r1 q1
 rcases f.XX with⟨id,ev⟩|⟨T,ev⟩
 ·rw[ev]at run ⊢;exact ic run (gP hs'.1) (tG hs'.2)
 ·rw[ev]at run ⊢;exact gw run (gP hs'.1) (tG hs'.2)
end
section
variable{X:Cx}{T:Tab}{U:M G}{E:XK}{a:Expr}{ta:TE}{pos:Pos}
noncomputable def OO:aaV Addr->S
|none=>.type "NoneType"
|some C=>.ref C
end
def range_getD{α:Type}(d:α)(ss:M α):(bH ss.length).map (λi=>ss.getD i d)=ss:=by
 apply List.ext_getElem
 ·simp
 ·intro i h1 h2;simp[bV,h2]
def Ft(ss:M Str):vC (λi=>ss.getD i ⟨#[]⟩) ss.length=pe ss:=by
 unfold vC pe;rw[range_getD]
theorem Bu:∀{ss:M Str}{its:M S},bN (ss.map V.str) its->∀(i:L) (v:S),its[i]?=Y v->∃t,v=.str (ss.getD i ⟨#[]⟩) t
|[],_,.nil,i,v,h=>by simp at h
|s::ss,_,.cons r q,0,v,h=>by
 let#[t,e]:=r;exact#[t,by rw[List.getElem?_cons_zero]at h;rw[<-dh h,e];rfl]
|s::ss,_,.cons r q,i+1,v,h=>by
 rw[nq]at h;let#[t,e]:=Bu q i v h;exact#[t,by rw[e];rfl]
section
variable{X:Cx}
def XY{e:Expr}{te:TE}{p1 p2 p3 pos:Pos}(hc:X.calm=J)(hg1:Gl X "len")(hm1:X.mg "len"=B)(hg2:Gl X "set")(hm2:X.mg "set"=B)(he:PE X e te)(hs:noStar e=J):PE X (.Call (.Name "len" p1) [.Call (.Name "set" p2) [e] [] p3] [] pos) (λO H Q=>te O H λx H1=>Wp x H1 Q):=by
 intro pins s O H Q I h;refine gU (l7 I hg1 hm1 (Bf.boot .len) ?_ (Bf.ok .len).1 (Bf.ok .len).2);refine ic ?_ rfl rfl;show aO _ _ (A4 ((W,eval (.Call (.Name "set" p2) [e] [] p3) X.env)::qx pos (fB [] X.env))) _ _ s;refine eZ (gU (l7 I hg2 hm2 (u:=.type "set") (by decide +kernel) ?_ (by decide) (by decide)));refine gw ?_ (gP hs) rfl;rw[gP hs];show aO _ _ (A4 ((W,eval e X.env)::qx p3 (fB [] X.env))) _ _ s;refine eZ (a_ (he pins s O H _ I h) λu s1 ⟨x,H1,I1,r1,b,ss,ex,hx,hl,q⟩=>?_);refine jk ?_;subst ex;cases r1;let#[its,r,p,_]:=I1.list (Rd.rS hx);have hlen:its.length=ss.length:=by rw[<-r.length,ay]
 have hsz:its.toArray.size=ss.length:=by rw[bw,hlen]
 refine GC (strKind X.prog X.w) (λi=>ss.getD i ⟨#[]⟩) (I1.ok.hd hc) (PlainL.is p) (λi v hv=>?_) (by rw[hsz];unfold vq;lia) λh' tk hS keep=>?_
 ·let#[t,rfl]:=Bu r i v (by simpa using hv);exact#[strKind_is _ _ _ _,rfl]
 ·refine jk ?_;have hS:h'.SetOf (strKind X.prog X.w) s1.heap.objs.size _ (vC (λi=>ss.getD i ⟨#[]⟩) its.toArray.size).length:=hS;rw[hsz,Ft]at hS;let#[o,es,ep,t,ho,hex,hd,hel,hmem,hb,hf,hn]:=hS;refine call_len_set ho hex hd hf (by rw[hn];have:(pe ss).length<=ss.length:=(by rw[<-Ft];exact El _ _);lia) #[.int _,H1,(I1.kept (t':=tk) λb u e=>keep b u (aV e) e).tok _,#[_,rfl],?_];rw[hn];exact q
end
section
variable{X:Cx}{pins:M (Addr×Obj)}{O:L2.St}{H:Hp}
def aai{s:ak}{x:V}{v:S}{tp:Addr}{dd:aaV Addr}{n:L}{sl:Array (aaV S)}{Q:Bool->Prop}(I:L2.Inv X pins O H s)(rx:RelV x v)(htp:s.heap.get? tp=Y #[.type "tuple",dd,.seq [Value.type "list",.type "tuple"].toArray n,sl])(h:tT X.K .none x H Q):aO (a7 X.prog X.w) X.A (call (.builtin "isinstance") [v,.ref tp]) (EP X pins O λu H'=>H'=H/\∃b,u=.bl b/\Q b) X.xe s:=by
 have fin:∀(b:Bool),Q b->∀tk,EP X pins O (λu H'=>H'=H/\∃b,u=.bl b/\Q b) (.bool b) { s with toks:=tk }:=λb q tk=>#[.bl b,H,I.tok _,rfl,rfl,b,rfl,q];cases x with
 |non=>cases(show v=f_ from rx);exact gx Bd I.jN gI htp rfl (λz=>nomatch z) (fin _ h)
 |bl y=>cases(show v=lA y from rx);exact gx Be I.jN gI htp rfl (λz=>nomatch z) (fin _ h)
 |int i=>let#[t,q]:=(show ∃t,v=rK i t from rx);cases q;exact gx CM I.jN gI htp rfl (λz=>nomatch z) (fin _ h)
 |str y=>let#[t,q]:=(show ∃t,v=rL y t from rx);cases q;exact gx CN I.jN gI htp rfl (λz=>nomatch z) (fin _ h)
 |ref a=>
  cases(show v=c8 a from rx);rcases h with⟨xs,hx,h⟩|⟨xs,hx,h⟩|⟨kvs,hk,h⟩
  ·rcases hx with e|⟨o,e⟩
   ·let#[_,_,n,_,h1]:=(show fq X.prog X.w H s.heap a (.lst xs)from I.hok a _ e);exact gx nF I.jN #[_,h1,rfl] htp rfl (λz=>nomatch z) (fin _ h)
   ·let#[_,_,_,n,_,h1]:=(show fq X.prog X.w H s.heap a (.bE o (.lst xs))from I.hok a _ e);exact gx nF I.jN #[_,h1,rfl] htp rfl (λz=>nomatch z) (fin _ h)
  ·let#[its,_,#[o,h1,h2,_],_]:=I.tuple hx.nc;exact gx rN I.jN #[o,h1,h2] htp rfl (λz=>nomatch z) (fin _ h)
  ·rcases hk with hk|⟨ob,hk⟩
   ·let#[_,_,vs,_,o,es,ep,h1,h2,_]:=(show fq X.prog X.w H s.heap a (.dK kvs)from I.hok a _ hk);exact gx kD I.jN #[o,h1,h2.1] htp rfl (λz=>nomatch z) (fin _ h)
   ·let#[_,_,_,vs,_,o,es,ep,h1,h2,_]:=(show fq X.prog X.w H s.heap a (.bE ob (.dK kvs))from I.hok a _ hk);exact gx kD I.jN #[o,h1,h2.1] htp rfl (λz=>nomatch z) (fin _ h)
 |_=>exact aJ h
def aaj{a:Expr}{ta:TE}{x:Str}{p p1 p2 tpos pos:Pos}{k:L}(hg:Gl X x)(hx:x="isinstance")(hm:X.mg x=B)(hg1:Gl X "list")(hm1:X.mg "list"=B)(hg2:Gl X "tuple")(hm2:X.mg "tuple"=B)(ha:PE X a ta)(hs:noStar a=J):PE X (.Call (.Name x p) [a,.Tuple [.Name "list" p1,.Name "tuple" p2] k tpos] [] pos) (λO H Q=>ta O H λv H1=>tT X.K .none v H1 λb=>Q (.bl b) H1):=by
 subst hx;intro pins s O H Q I h;refine gU (l7 I hg hm Ec ?_);have hst:fB [a,.Tuple [.Name "list" p1,.Name "tuple" p2] k tpos] X.env=[(W,eval a X.env),(W,eval (.Tuple [.Name "list" p1,.Name "tuple" p2] k tpos) X.env)]:=by rw[gP hs];rfl
 refine ic ?_ (by rw[hst];rfl) rfl;rw[hst];show aO _ _ (A4 ((W,eval a X.env)::[(W,eval (.Tuple [.Name "list" p1,.Name "tuple" p2] k tpos) X.env)])) _ _ s;refine eZ (a_ (ha pins s O H _ I h) λu s1 ⟨v,H1,I1,r1,q1⟩=>?_);refine eZ (yM (x1:=k) ?_);show aO _ _ (A4 ((W,eval (.Name "list" p1) X.env)::[(W,eval (.Name "tuple" p2) X.env)])) _ _ s1;refine eZ (l7 I1 hg1 hm1 (Ty.boot .list (by decide)) (eZ (l7 I1 hg2 hm2 (Ty.boot .tuple (by decide)) (jk ?_) (by decide +kernel) (by decide +kernel))) (by decide +kernel) (by decide +kernel));refine#[by rw[fN];decide,jk ?_];have I3:L2.Inv X pins O H1 { s1 with heap:=s1.heap.push (tuO [Value.type "list",.type "tuple"]) }:=I1.kept (t':=s1.toks) λb u q=>aE _ q;refine a_ (aai I3 r1 (bD _ rfl) q1) λw s2 ⟨z,H2,I2,r2,e,b,ez,qb⟩=>?_;subst e ez;exact#[.bl b,_,I2,r2,qb]
end
theorem tW:∀(xs ys:M V) (i:L) (it:Item),(rR xs ys)[i]?=Y it->∃x y,xs[i]?=Y x/\ys[i]?=Y y/\it=.tup [x,y]
|x::xs,y::ys,0,it,h=>by cases h;exact#[x,y,rfl,rfl,rfl]
|x::xs,y::ys,i+1,it,h=>by
 have h:(rR xs ys)[i]?=Y it:=h;let#[a,b,h1,h2,h3]:=tW xs ys i it h;exact#[a,b,h1,h2,h3]
|[],ys,i,it,h=>by cases ys<;>cases h
|_::_,[],i,it,h=>by cases h
theorem Ci:∀(xs ys:M V),(rR xs ys).length=min xs.length ys.length
|x::xs,y::ys=>by
 show(rR xs ys).length+1=min (xs.length+1) (ys.length+1);rw[Ci xs ys];lia
|[],ys=>by cases ys<;>simp[rR]
|_::_,[]=>by simp[rR]
noncomputable def Tf(a b:Addr):It:=
 #[λi H=>∃xs ys x y,Rd H a (.lst xs)/\Rd H b (.lst ys)/\xs[i]?=Y x/\ys[i]?=Y y,
λi H v H'=>∃p x y,H p=B/\v=.ref p/\H'=upd H p (.tup [x,y])/\(∀xs,Rd H a (.lst xs)->xs[i]?=Y x)/\∀ys,Rd H b (.lst ys)->ys[i]?=Y y,
λi H=>∃xs ys,Rd H a (.lst xs)/\Rd H b (.lst ys)/\(xs.length<=i\/ys.length<=i)]
def Tg{a b:Addr}{xs ys:M V}:ph (Tf a b) (λH=>Rd H a (.lst xs)/\Rd H b (.lst ys)) (rR xs ys) where
 go:=λi H it ok hi=>by
  let#[x,y,h1,h2,_]:=tW xs ys i it hi;exact#[xs,ys,x,y,ok.1,ok.2,h1,h2]
 yld:=λi H it x H' ok hi hy k hk=>by
  let#[x,y,h1,h2,rfl]:=tW xs ys i it hi;let#[p,u,v,hp,rfl,rfl,k1,k2]:=hy;have e1:=k1 xs ok.1;have e2:=k2 ys ok.2;rw[h1]at e1;rw[h2]at e2;cases e1;cases e2;exact hk p hp
 stop:=λi H ok hi=>#[xs,ys,ok.1,ok.2,by rw[Ci]at hi;lia]
def Wu(a b z t1 t2 i1 i2:Addr)(i:L)(h:Heap):Prop:=qC h z t1 t2 .none/\iM h t1 (.ref i1) (.ref i2)/\(∃u v,iM h t2 u v)/\h.IsListIter i1 a i/\h.IsListIter i2 b i
def aak(Cm:Cx->Prop)(P:bM)(w:bL)(a b z t1 t2 i1 i2:Addr):Prop:=∀(X:Cx),X.prog=P->X.w=w->Cm X->∀(i:L) (pins:M (Addr×Obj)) (s:ak) (O:L2.St) (H:Hp) (E:S->ak->Prop) (Q:aaV S->ak->Prop) (xs ys:Array S) (u v:S),L2.Inv X pins O H s->(∀b∈[z,t1,t2,i1,i2],oz X pins H b)->
 qC s.heap z t1 t2 .none->iM s.heap t1 (.ref i1) (.ref i2)->iM s.heap t2 u v->s.heap.IsListIter i1 a i->s.heap.IsListIter i2 b i->s.heap.IsList a xs->s.heap.IsList b ys->(xs[i]?=B\/ys[i]?=B)->
 (∀h',(∀c o,c≠z->c≠t2->c≠i1->c≠i2->s.heap.get? c=Y o->h'.get? c=Y o)->Q B { s with heap:=h' })->aO (a7 P w) X.A (mH (.ref z)) Q E s
def O7{Cm:Cx->Prop}{P:bM}{w:bL}{K:aa}{elts:M Expr}{x1}{pos:Pos}(a b z t1 t2 i1 i2:Addr)(D:uE z t1 t2 i1 i2 a b)(hE:aak Cm P w a b z t1 t2 i1 i2):Hh Cm P w K (.Tuple elts x1 pos) (Tf a b) [z,t1,t2,i1,i2] z (Wu a b z t1 t2 i1 i2) where
 obj:=λi h st c hc=>by
  let#[s1,s2,#[u,v,s3],s4,s5]:=st;have hc:c=z\/c=t1\/c=t2\/c=i1\/c=i2:=by simpa using hc
  rcases hc with rfl|rfl|rfl|rfl|rfl
  ·exact#[_,s1,λv z=>by cases z]
  ·exact#[_,s2,λv z=>by cases z]
  ·exact#[_,s3,λv z=>by cases z]
  ·let#[o,e,c,d]:=s4;exact#[o,e,λv z=>by rw[d]at z;cases z]
  ·let#[o,e,c,d]:=s5;exact#[o,e,λv z=>by rw[d]at z;cases z]
 keep:=λi h h' st k=>by
  let#[s1,s2,#[u,v,s3],s4,s5]:=st;exact#[k z (by simp) _ s1,k t1 (by simp) _ s2,#[u,v,k t2 (by simp) _ s3],s4.at λo q=>k i1 (by simp) o q,s5.at λo q=>k i2 (by simp) o q]
 item:=by
  intro X hP hw hK hc i pins s O H E I hf st hg;subst hP hw hK;let#[s1,s2,#[u0,v0,s3],s4,s5]:=st;let#[xs,ys,x,y,hq,hr,hx,hy]:=hg;let#[its,rv,p,hz]:=I.list (.inl hq:iC X.K H a xs);let#[its',rv',p',hz']:=I.list (.inl hr:iC X.K H b ys);let#[u,hu,ru]:=rv.get hx;let#[v,hv,rw']:=rv'.get hy;refine wpAny_pyNext_zip_item D s1 s2 s3 s4 s5 p.isList p'.isList (x:=u) (y:=v) (by simpa using hu) (by simpa using hv) λh1 hz1 ho1 hi1 hi2 hn1 hsz hk1=>?_;refine#[_,rfl,s_ (s:={ s with heap:=h1 }) hz1 λh2 hz2 hs2=>?_];have hs2:mG z h1 h2:=hs2;have lee:z<s.heap.objs.size:=aV s1;have ne_e:s.heap.objs.size≠z:=kU lee;have ht2:h2.get? s.heap.objs.size=Y { cls:=.type "tuple",data:=.seq (List.toArray [u,v]) }:=(hs2.2 _ ne_e).trans hn1;have hk2:∀c o,c∉[z,t1,t2,i1,i2]->s.heap.get? c=Y o->h2.get? c=Y o:=λc o hc q=>by
   have hc:c≠z/\c≠t1/\c≠t2/\c≠i1/\c≠i2:=by simpa using hc
   exact(hs2.2 c hc.1).trans (hk1 c o hc.1 hc.2.2.1 hc.2.2.2.1 hc.2.2.2.2 q)
  have hn:H s.heap.objs.size=B:=I.hok.fresh (aW _);have hfr:∀c∈[z,t1,t2,i1,i2],H c=B:=λc hc=>(hf c hc).1;have hok2:gJ X.prog X.w (upd H s.heap.objs.size (.tup [x,y])) h2:=by
   have h0:gJ X.prog X.w H h2:=mV (X:=X) (pins:=pins) I.hok hfr hk2;intro c o q;by_cases hb:c=s.heap.objs.size
   ·subst hb;rw[dF]at q;cases q;refine#[by show(2:L)<=_;have:=fN;lia,[u,v],.cons ru (.cons rw' .nil),#[_,ht2,rfl,_,rfl]]
   ·rw[bf hb]at q;exact(h0 c o q).stay (λ_ _ _ r=>r) (λc r=>by rw[bf (bX r hn)];exact r) (λc ys r=>by rw[bf (bX r hn)];exact r) λc o ys r=>by rw[bf (bX r hn)];exact r
  have I2:L2.Inv X pins O (upd H s.heap.objs.size (.tup [x,y])) { s with heap:=h2,toks:=s.toks }:=
   Inv.tE (ch:=[z,t1,t2,i1,i2]) I hf hk2 (λc o hb q n=>by rw[bf (bR (aV q))];exact n) (λc o q=>by rw[bf (bX q hn)];exact q) hok2
  refine#[.ref s.heap.objs.size,_,I2,rfl,#[_,x,y,hn,rfl,rfl,λzs hy'=>by rw[I.tR (.inl hy') (.inl hq:iC X.K H a xs)];exact hx,λzs hy'=>by rw[I.tR (.inl hy') (.inl hr:iC X.K H b ys)];exact hy],#[hz2,?_,#[u,v,?_],?_,?_],λc hc=>?_]
  ·exact(hs2.2 _ D.TIz).trans (hk1 _ _ D.TIz D.TITO D.TIi1 D.TIi2 s2)
  ·exact(hs2.2 _ D.TOz).trans ho1
  ·exact hi1.at λo q=>(hs2.2 i1 D.i1z).trans q
  ·exact hi2.at λo q=>(hs2.2 i2 D.i2z).trans q
  ·have hlt:c<s.heap.objs.size:=by
    have hc:c=z\/c=t1\/c=t2\/c=i1\/c=i2:=by simpa using hc
    rcases hc with rfl|rfl|rfl|rfl|rfl
    ·exact lee
    ·exact aV s2
    ·exact aV s3
    ·let#[o,q,_]:=s4;exact aV q
    ·let#[o,q,_]:=s5;exact aV q
   rw[bf (bR hlt)];exact hfr c hc
 done:=by
  intro X hP hw hK hc i pins s O H E I hf st hg;subst hP hw hK;let#[s1,s2,#[u0,v0,s3],s4,s5]:=st;let#[xs,ys,hq,hr,hx]:=hg;let#[its,rv,p,hz]:=I.list (.inl hq:iC X.K H a xs);let#[its',rv',p',hz']:=I.list (.inl hr:iC X.K H b ys);have hl:=rv.length;have hl':=rv'.length;have hfr:∀c∈[z,t1,t2,i1,i2],H c=B:=λc hc=>(hf c hc).1;refine hE X rfl rfl hc i pins s O H E _ _ _ _ _ I hf s1 s2 s3 s4 s5 p.isList p'.isList ?_ λh' eb=>#[rfl,?_]
  ·rcases hx with hx|hx
   ·exact .inl (by simp;lia)
   ·exact .inr (by simp;lia)
  ·have hk:∀c o,c∉[z,t1,t2,i1,i2]->s.heap.get? c=Y o->h'.get? c=Y o:=λc o hb q=>by
    have hc:c≠z/\c≠t1/\c≠t2/\c≠i1/\c≠i2:=by simpa using hb
    exact eb c o hc.1 hc.2.2.1 hc.2.2.2.1 hc.2.2.2.2 q
   exact Inv.tE (t':=s.toks) (ch:=[z,t1,t2,i1,i2]) I hf hk (λ_ _ _ _ n=>n) (λ_ _ q=>q) (mV (X:=X) (pins:=pins) I.hok hfr hk)
 self:=λ_ _ _ _ _ st h=>oQ st.1 h
def Ti{P:bM}{w:bL}{K:aa}{elts:M Expr}{x1}{pos:Pos}(a b z t1 t2 i1 i2:Addr)(D:uE z t1 t2 i1 i2 a b):Turn P w K (.Tuple elts x1 pos) (Tf a b) [z,t1,t2,i1,i2] z (Wu a b z t1 t2 i1 i2):=
 have T:=O7 (Cm:=λX=>X.calm=J) (K:=K) (elts:=elts) (x1:=x1) (pos:=pos) a b z t1 t2 i1 i2 D λX hP hw hc i pins s O H E Q xs ys u v I hf s1 s2 s3 s4 s5 l1 l2 he q=>by
  subst hP hw;exact wpAny_pyNext_zip_end (I.ok.hd hc) D s1 s2 s3 s4 s5 l1 l2 he q
 #[by simp,T.obj,T.keep,T.item,T.done,T.self]
def Tj(A:cR):Prop:=A.handled=B
section
variable{P:bM}{w:bL}{A:cR}{E:S->ak->Prop}{s:ak}
def Ik{i t:Addr}{k:L}{xs:Array S}{x:S}{Q:S->ak->Prop}(hi:s.heap.IsTupleIter i t k)(ht:s.heap.IsTuple t xs)(hx:xs[k]?=Y x)(q:∀h',h'.IsTupleIter i t (k+1)->mG i s.heap h'->Q x { s with heap:=h' }):aO (a7 P w) A (dJ (.ref i)) Q E s:=by
 have ty:=hi.typeIs;let#[u,hu,hc,hd]:=hi;let#[v,hv,_,n,hdv]:=ht;unfold dJ;refine aA (jT (name:=au "__next__") ty F.slot_tuple_iterator_next (oR F.slot_tuple_iterator_next ty F.entry_tuple_iterator_next ?_ (F.args_tuple_iterator_next_1 _)));show aO _ _ (ye (.ref i) 0 >>= _) _ _ s;refine aA (gD hu hd (x:=.ref t) rfl ?_);show aO _ _ (if(c8 t==f_)=J then _ else _) _ _ s;rw[aD (show ¬((c8 t==f_)=J)from bq)];show aO _ _ (ye (.ref i) 1 >>= _) _ _ s;refine aA (gD hu hd (x:=.int k 0) rfl (aA (iB hv hdv ?_)));simp only[Bk,hx];refine aA (E2 hu hd (by simp) (bO #[x,rfl,bO (q _ #[_,wQ _ hu (Obj.isFreed_of_fields (AI hd _)),(Obj.cls_mapFields ..).trans hc,?_] (yO ..))]));rw[AI hd];simp[D4]
def Lv{i t:Addr}{k:L}{xs:Array S}{Q:S->ak->Prop}(hh:Tj A)(hi:s.heap.IsTupleIter i t k)(ht:s.heap.IsTuple t xs)(hx:xs[k]?=B)(q:∀h' e,Heap.ExtBut i s.heap h'->(∃o,h'.get? e=Y o/\o.cls=.type "StopIteration")->E (.ref e) { s with heap:=h' }):aO (a7 P w) A (dJ (.ref i)) Q E s:=by
 have ty:=hi.typeIs;let#[u,hu,hc,hd]:=hi;let#[v,hv,_,n,hdv]:=ht;unfold dJ;refine aA (jT (name:=au "__next__") ty F.slot_tuple_iterator_next (oR F.slot_tuple_iterator_next ty F.entry_tuple_iterator_next ?_ (F.args_tuple_iterator_next_1 _)));show aO _ _ (ye (.ref i) 0 >>= _) _ _ s;refine aA (gD hu hd (x:=.ref t) rfl ?_);show aO _ _ (if(c8 t==f_)=J then _ else _) _ _ s;rw[aD (show ¬((c8 t==f_)=J)from bq)];show aO _ _ (ye (.ref i) 1 >>= _) _ _ s;refine aA (gD hu hd (x:=.int k 0) rfl (aA (iB hv hdv ?_)));simp only[Bk,hx];refine aA (Ed (aA (E2 hu hd (by simp) ?_)));show aO _ _ (newExc (.type "StopIteration") [] >>= _) _ _ _;refine aA ?_;simp only[newExc,newTuple];refine aA (sE (aA (m:=E3 _ _) (wpAny_of_eq (a:=f_) (by first|rfl|(simp only[E3];rfl)) (sE ?_ (by size_fits)))) (by size_fits));simp only[raiseNew];refine aA (wpAny_handled ?_)
 first|rw[show A.in1.handled=B from hh]|rw[hh]
 exact aA (bO (wpAny_throw (q _ _ (((yO ..).extBut.push _).push _) #[_,bD _ rfl,rfl])))
structure TZ (h:Heap) (z ti to i1 i2 l1 l2:Addr) (k:L) (xs ys:Array S):Prop where
 zo:qC h z ti to .none
 tp:iM h ti (.ref i1) (.ref i2)
 a1:h.IsTupleIter i1 l1 k
 a2:h.IsTupleIter i2 l2 k
 b1:h.IsTuple l1 xs
 b2:h.IsTuple l2 ys
def O8{z ti to i1 i2 l1 l2:Addr}{k:L}{xs ys:Array S}{x y a b:S}{Q:aaV S->ak->Prop}(D:uE z ti to i1 i2 l1 l2)(Z:TZ s.heap z ti to i1 i2 l1 l2 k xs ys)(tq:iM s.heap to a b)(hx:xs[k]?=Y x)(hy:ys[k]?=Y y)(q:∀h',qC h' z ti to (D4 s.heap.objs.size)->iM h' to x y->h'.IsTupleIter i1 l1 (k+1)->h'.IsTupleIter i2 l2 (k+1)->iM h' s.heap.objs.size x y->
   (∀c o,c≠z->c≠to->c≠i1->c≠i2->s.heap.get? c=Y o->h'.get? c=Y o)->Q (Y (.ref s.heap.objs.size)) { s with heap:=h' }):aO (a7 P w) A (mH (.ref z)) Q E s:=by
 let#[zo,tp,a1,a2,b1,b2]:=Z;have ty:s.TypeIs (.ref z) "zip":=#[_,zo,rfl];unfold mH;refine aA (G4 (jT (name:=au "__next__") ty F.slot_zip_next (oR F.slot_zip_next ty F.entry_zip_next ?_ (F.args_zip_next_1 _))));show aO _ _ (ye (.ref z) 2 >>= _) _ _ _;refine aA (gD zo rfl (x:=.bool W) rfl ?_);show aO _ _ (ye (.ref z) 3 >>= _) _ _ _;refine aA (gD zo rfl (x:=.ref ti) rfl (aA (iB tp rfl ?_)));show aO _ _ (gc (.ref z) >>= _) _ _ _;refine aA ?_;unfold gc;refine aA (gD zo rfl (x:=.none) rfl (bO ?_));simp only[ie];refine aA (Ed (aA (gD zo rfl (x:=.ref to) rfl (aA (iN zo (by simp) λg1 z1 s1=>?_)))));have z1:qC g1 z ti to .ellipsis:=z1;refine aA ?_;simp only[C3,Ef,vz,wX];refine aA (aA (r9 ?_));show aO _ _ (dJ (.ref i1) >>= _) _ _ _;refine aA (Ik (a1.extBut s1.extBut D.i1z) (b1.extBut s1.extBut D.l1z) hx λg2 c1 s2=>bO ?_);have p2:iM g2 to a b:=s2.extBut _ _ D.TOi1 (s1.extBut _ _ D.TOz tq);refine aA (iB p2 rfl (aA (qD p2 λg3 p3 s3=>?_)));have p3:iM g3 to x b:=p3;refine aA (B5 (bO (aA (aA (r9 ?_)))));show aO _ _ (dJ (.ref i2) >>= _) _ _ _;refine aA (Ik (((a2.extBut s1.extBut D.i2z).extBut s2.extBut D.i12.symm).extBut s3.extBut D.TOi2.symm) (((b2.extBut s1.extBut D.l2z).extBut s2.extBut D.l2i1).extBut s3.extBut D.l2TO) hy λg4 c2 s4=>bO ?_);have p4:iM g4 to x b:=s4.extBut _ _ D.TOi2 p3;refine aA (iB p4 rfl (aA (qD p4 λg5 p5 s5=>?_)));have p5:iM g5 to x y:=p5;refine aA (B5 (bO (bO (aA (iB p5 rfl (aA (wpAny_newTuple ?_)))))));have hsz:g5.objs.size=s.heap.objs.size:=by rw[s5.1,s4.1,s3.1,s2.1,s1.1]
 have z5:qC g5 z ti to .ellipsis:=s5.extBut _ _ D.TOz.symm (s4.extBut _ _ D.i2z.symm (s3.extBut _ _ D.TOz.symm (s2.extBut _ _ D.i1z.symm z1)));have c1':g5.IsTupleIter i1 l1 (k+1):=((c1.extBut s3.extBut D.TOi1.symm).extBut s4.extBut D.i12).extBut s5.extBut D.TOi1.symm;have c2':g5.IsTupleIter i2 l2 (k+1):=c2.extBut s5.extBut D.TOi2.symm;have lz:z<g5.objs.size:=aV z5;show aO _ _ (mR (.ref z) (.ref g5.objs.size) >>= _) _ _ _;refine aA ?_;unfold mR;refine aA (iN (aE _ z5) (by simp) λg7 z7 s7=>?_);have z7:qC g7 z ti to (D4 g5.objs.size):=z7;refine iN z7 (by simp) λg8 z8 s8=>?_;have z8:qC g8 z ti to (D4 g5.objs.size):=z8;have up:∀c o,c≠z->g5.get? c=Y o->g8.get? c=Y o:=λc o n e=>s8.extBut _ _ n (s7.extBut _ _ n (aE _ e));have p8:iM g8 g5.objs.size x y:=s8.extBut _ _ (kU lz) (s7.extBut _ _ (kU lz) (bD _ rfl));rw[hsz]at z8 p8;refine bO #[_,rfl,bO ?_];show Q (Y (.ref g5.objs.size)) _;rw[hsz];let#[o1,e1,f1]:=c1';let#[o2,e2,f2]:=c2';exact q g8 z8 (up _ _ D.TOz p5) #[o1,up _ _ D.i1z e1,f1] #[o2,up _ _ D.i2z e2,f2] p8 λc o n1 n2 n3 n4 e=>up c o n1 (s5.extBut _ _ n2 (s4.extBut _ _ n4 (s3.extBut _ _ n2 (s2.extBut _ _ n3 (s1.extBut _ _ n1 e)))))
def Tn{z ti to i1 i2 l1 l2:Addr}{k:L}{xs ys:Array S}{a b:S}{Q:aaV S->ak->Prop}(hh:Tj A)(D:uE z ti to i1 i2 l1 l2)(Z:TZ s.heap z ti to i1 i2 l1 l2 k xs ys)(tq:iM s.heap to a b)(he:xs[k]?=B\/ys[k]?=B)(q:∀h',(∀c o,c≠z->c≠to->c≠i1->c≠i2->s.heap.get? c=Y o->h'.get? c=Y o)->Q B { s with heap:=h' }):aO (a7 P w) A (mH (.ref z)) Q E s:=by
 let#[zo,tp,a1,a2,b1,b2]:=Z;have ty:s.TypeIs (.ref z) "zip":=#[_,zo,rfl];have fin:∀(h':Heap) (e:Addr),(∀c o,c≠z->c≠to->c≠i1->c≠i2->s.heap.get? c=Y o->h'.get? c=Y o)->(∃o,h'.get? e=Y o/\o.cls=.type "StopIteration")->aO (a7 P w) A (do if<-isInstance (.ref e) (.type "StopIteration")then pure B else throw (.ref e)) Q E { s with heap:=h' }:=λh' e hk ⟨o,ho,hc⟩=>
  aA (wpAny_isInstance (T:="StopIteration") (b:=J) #[o,ho,hc] isSubtype_stop (bO (q _ hk)))
 unfold mH;refine aA (G4 (jT (name:=au "__next__") ty F.slot_zip_next (oR F.slot_zip_next ty F.entry_zip_next ?_ (F.args_zip_next_1 _))));show aO _ _ (ye (.ref z) 2 >>= _) _ _ _;refine aA (gD zo rfl (x:=.bool W) rfl ?_);show aO _ _ (ye (.ref z) 3 >>= _) _ _ _;refine aA (gD zo rfl (x:=.ref ti) rfl (aA (iB tp rfl ?_)));show aO _ _ (gc (.ref z) >>= _) _ _ _;refine aA ?_;unfold gc;refine aA (gD zo rfl (x:=.none) rfl (bO ?_));simp only[ie];refine aA (Ed (aA (gD zo rfl (x:=.ref to) rfl (aA (iN zo (by simp) λg1 z1 s1=>?_)))));have z1:qC g1 z ti to .ellipsis:=z1;refine aA ?_;simp only[C3,Ef,vz,wX];refine aA (aA (r9 ?_));show aO _ _ (dJ (.ref i1) >>= _) _ _ _;cases hx:xs[k]? with
 |none=>
  refine aA (Lv (A:=A.in1) hh (a1.extBut s1.extBut D.i1z) (b1.extBut s1.extBut D.l1z) hx λg2 e s2 ⟨oe,ho,hc⟩=>?_);have z2:qC g2 z ti to .ellipsis:=s2 _ _ D.i1z.symm z1;have ne:e≠z:=λx=>by subst x;rw[z2]at ho;cases ho;simp at hc
  exact iN z2 (by simp) λg3 _ s3=>fin g3 e (λc o n1 _ n3 _ x=>s3.extBut _ _ n1 (s2 _ _ n3 (s1.extBut _ _ n1 x))) #[oe,s3.extBut _ _ ne ho,hc]
 |some x=>
  have hy:ys[k]?=B:=he.resolve_left λz=>by rw[hx]at z;cases z
  refine aA (Ik (a1.extBut s1.extBut D.i1z) (b1.extBut s1.extBut D.l1z) hx λg2 c1 s2=>bO ?_);have p2:iM g2 to a b:=s2.extBut _ _ D.TOi1 (s1.extBut _ _ D.TOz tq);refine aA (iB p2 rfl (aA (qD p2 λg3 p3 s3=>?_)));refine aA (B5 (bO (aA (aA (r9 ?_)))));show aO _ _ (dJ (.ref i2) >>= _) _ _ _;refine aA (Lv (A:=A.in1) hh (((a2.extBut s1.extBut D.i2z).extBut s2.extBut D.i12.symm).extBut s3.extBut D.TOi2.symm) (((b2.extBut s1.extBut D.l2z).extBut s2.extBut D.l2i1).extBut s3.extBut D.l2TO) hy λg4 e s4 ⟨oe,ho,hc⟩=>?_);have z4:qC g4 z ti to .ellipsis:=s4 _ _ D.i2z.symm (s3.extBut _ _ D.TOz.symm (s2.extBut _ _ D.i1z.symm z1));have ne:e≠z:=λx=>by subst x;rw[z4]at ho;cases ho;simp at hc
  exact iN z4 (by simp) λg5 _ s5=>fin g5 e (λc o n1 n2 n3 n4 x=>s5.extBut _ _ n1 (s4 _ _ n4 (s3.extBut _ _ n2 (s2.extBut _ _ n3 (s1.extBut _ _ n1 x))))) #[oe,s5.extBut _ _ ne ho,hc]
end
noncomputable abbrev Lw(h:Heap)(a:Addr):Heap:=h.push { cls:=.type "tuple_iterator",data:=.fields (List.toArray [.ref a,.int 0 0]) }
abbrev Wv(h:Heap)(a b:Addr):Heap:=Lw (Lw h a) b
abbrev Ww(h:Heap)(a b:Addr):Heap:=(Wv h a b).push { cls:=.type "tuple",data:=.seq (List.toArray [.ref h.objs.size,.ref (Lw h a).objs.size]) }
abbrev Wx(h:Heap)(a b:Addr):Heap:=(Ww h a b).push { cls:=.type "tuple",data:=.seq (List.toArray [.none,.none]) }
abbrev Im(h:Heap)(a b:Addr):Heap:=(Wx h a b).push { cls:=.type "zip",data:=.fields (List.toArray [.none,.bool W,.bool W,.ref (Wv h a b).objs.size,.ref (Ww h a b).objs.size]) }
def To(a b:Addr)(xs ys:Array S):Meets (Builtin.«zip.__new__» #[[.type "zip",.ref a,.ref b],[]]) (λ_ R s=>s.heap.IsTuple a xs/\s.heap.IsTuple b ys/\R (.ok (.ret (.ref (Wx s.heap a b).objs.size))) { s with heap:=Im s.heap a b }):=
 .of_wp λprog w A R s h=>by
  let#[hp,g,d,tk,os]:=s;let#[h1,h2,h]:=h;have hsub:=sub_zip;have q1:Ka (K_ ⟨hp,g,d,tk,os⟩) a xs:=h1;have q2:Ka (K_ ⟨Lw hp a,g,d,tk,os⟩) b ys:=Sv h2 _
  wp_walk using rP q1,rP q2
  exact#[_,rfl,h]
def O9{P:bM}{w:bL}{A:cR}{E:S->ak->Prop}{s:ak}{a b:Addr}{xs ys:Array S}{Q:S->ak->Prop}(h1:s.heap.IsTuple a xs)(h2:s.heap.IsTuple b ys)(q:∀h',TZ h' (s.heap.objs.size+4) (s.heap.objs.size+2) (s.heap.objs.size+3) s.heap.objs.size (s.heap.objs.size+1) a b 0 xs ys->iM h' (s.heap.objs.size+3) .none .none->(∀c o,s.heap.get? c=Y o->h'.get? c=Y o)->Q (.ref (s.heap.objs.size+4)) { s with heap:=h' }):aO (a7 P w) A (call (.type "zip") [.ref a,.ref b]) Q E s:=by
 refine callType_new F.called_zip (by decide) (F.typeCall_zip_2 _ _) (F.newCall_zip_2 _ _) (λobj=>F.args_object_init_3 obj _ _) F.entry_zip_new (To a b xs ys) #[h1,h2,?_];have n1:(Lw s.heap a).objs.size=s.heap.objs.size+1:=eS ..;have n2:(Wv s.heap a b).objs.size=s.heap.objs.size+2:=by rw[eS,n1]
 have n3:(Ww s.heap a b).objs.size=s.heap.objs.size+3:=by rw[eS,n2]
 have n4:(Wx s.heap a b).objs.size=s.heap.objs.size+4:=by rw[eS,n3]
 have up:∀c o,s.heap.get? c=Y o->(Im s.heap a b).get? c=Y o:=λc o x=>aE _ (aE _ (aE _ (aE _ (aE _ x))));have g5:(Im s.heap a b).get? (Wx s.heap a b).objs.size=Y _:=bD _ rfl;have g4:(Im s.heap a b).get? (Ww s.heap a b).objs.size=Y _:=aE _ (bD _ rfl);have g3:(Im s.heap a b).get? (Wv s.heap a b).objs.size=Y _:=aE _ (aE _ (bD _ rfl));have g2:(Im s.heap a b).get? (Lw s.heap a).objs.size=Y _:=aE _ (aE _ (aE _ (bD _ rfl)));have g1:(Im s.heap a b).get? s.heap.objs.size=Y _:=aE _ (aE _ (aE _ (aE _ (bD _ rfl))));show _/\_;rw[n2,n3,n4]at g5;rw[n1,n2]at g3;rw[n3]at g4;rw[n1]at g2;rw[n4];let#[o1,e1,r1]:=h1;let#[o2,e2,r2]:=h2;exact#[#[_,g5,rfl],q _ #[g5,g3,#[_,g1,rfl,rfl],#[_,g2,rfl,rfl],#[o1,up _ _ e1,r1],#[o2,up _ _ e2,r2]] g4 up]
noncomputable def Tp(K:aa)(a b:Addr):It:=
 #[λi H=>∃xs ys x y,l8 K H a xs/\l8 K H b ys/\xs[i]?=Y x/\ys[i]?=Y y,
λi H v H'=>∃p x y,H p=B/\v=.ref p/\H'=upd H p (.tup [x,y])/\(∀xs,l8 K H a xs->xs[i]?=Y x)/\∀ys,l8 K H b ys->ys[i]?=Y y,
λi H=>∃xs ys,l8 K H a xs/\l8 K H b ys/\(xs.length<=i\/ys.length<=i)]
def O_{K:aa}{a b:Addr}{xs ys:M V}:ph (Tp K a b) (λH=>l8 K H a xs/\l8 K H b ys) (rR xs ys) where
 go:=λi H it ok hi=>by
  let#[x,y,h1,h2,_]:=tW xs ys i it hi;exact#[xs,ys,x,y,ok.1,ok.2,h1,h2]
 yld:=λi H it x H' ok hi hy k hk=>by
  let#[x,y,h1,h2,rfl]:=tW xs ys i it hi;let#[p,u,v,hp,rfl,rfl,k1,k2]:=hy;have e1:=k1 xs ok.1;have e2:=k2 ys ok.2;rw[h1]at e1;rw[h2]at e2;cases e1;cases e2;exact hk p hp
 stop:=λi H ok hi=>#[xs,ys,ok.1,ok.2,by rw[Ci]at hi;lia]
def Pb(a b z t1 t2 i1 i2:Addr)(i:L)(h:Heap):Prop:=qC h z t1 t2 .none/\iM h t1 (.ref i1) (.ref i2)/\(∃u v,iM h t2 u v)/\h.IsTupleIter i1 a i/\h.IsTupleIter i2 b i
def MU{Cm:Cx->Prop}{P:bM}{w:bL}{K:aa}{elts:M Expr}{x1}{pos:Pos}(a b z t1 t2 i1 i2:Addr)(D:uE z t1 t2 i1 i2 a b)(hC:∀{X:Cx}{pins:M (Addr×Obj)}{O:L2.St}{H:Hp}{s:ak}{fp:M Addr},Cm X->L2.Inv X pins O H s->(∀b∈fp,oz X pins H b)->Tj X.A):Hh Cm P w K (.Tuple elts x1 pos) (Tp K a b) [z,t1,t2,i1,i2] z (Pb a b z t1 t2 i1 i2) where
 obj:=λi h st c hc=>by
  let#[s1,s2,#[u,v,s3],s4,s5]:=st;have hc:c=z\/c=t1\/c=t2\/c=i1\/c=i2:=by simpa using hc
  rcases hc with rfl|rfl|rfl|rfl|rfl
  ·exact#[_,s1,λv z=>by cases z]
  ·exact#[_,s2,λv z=>by cases z]
  ·exact#[_,s3,λv z=>by cases z]
  ·let#[o,e,c,d]:=s4;exact#[o,e,λv z=>by rw[d]at z;cases z]
  ·let#[o,e,c,d]:=s5;exact#[o,e,λv z=>by rw[d]at z;cases z]
 keep:=λi h h' st k=>by
  let#[s1,s2,#[u,v,s3],s4,s5]:=st;exact#[k z (by simp) _ s1,k t1 (by simp) _ s2,#[u,v,k t2 (by simp) _ s3],s4.at λo q=>k i1 (by simp) o q,s5.at λo q=>k i2 (by simp) o q]
 item:=by
  intro X hP hw hK hc i pins s O H E I hf st hg;subst hP hw hK;let#[s1,s2,#[u0,v0,s3],s4,s5]:=st;let#[xs,ys,x,y,hq,hr,hx,hy]:=hg;let#[its,rv,p,hz]:=I.tuple hq;let#[its',rv',p',hz']:=I.tuple hr;let#[u,hu,ru]:=rv.get hx;let#[v,hv,rw']:=rv'.get hy;refine O8 D #[s1,s2,s4,s5,(show s.heap.IsTuple a its.toArray from p),(show s.heap.IsTuple b its'.toArray from p')] s3 (x:=u) (y:=v) (by simpa using hu) (by simpa using hv) λh1 hz1 ho1 hi1 hi2 hn1 hk1=>?_;refine#[_,rfl,s_ (s:={ s with heap:=h1 }) hz1 λh2 hz2 hs2=>?_];have hs2:mG z h1 h2:=hs2;have lee:z<s.heap.objs.size:=aV s1;have ne_e:s.heap.objs.size≠z:=kU lee;have ht2:h2.get? s.heap.objs.size=Y { cls:=.type "tuple",data:=.seq (List.toArray [u,v]) }:=(hs2.2 _ ne_e).trans hn1;have hk2:∀c o,c∉[z,t1,t2,i1,i2]->s.heap.get? c=Y o->h2.get? c=Y o:=λc o hc q=>by
   have hc:c≠z/\c≠t1/\c≠t2/\c≠i1/\c≠i2:=by simpa using hc
   exact(hs2.2 c hc.1).trans (hk1 c o hc.1 hc.2.2.1 hc.2.2.2.1 hc.2.2.2.2 q)
  have hn:H s.heap.objs.size=B:=I.hok.fresh (aW _);have hfr:∀c∈[z,t1,t2,i1,i2],H c=B:=λc hc=>(hf c hc).1;have hok2:gJ X.prog X.w (upd H s.heap.objs.size (.tup [x,y])) h2:=by
   have h0:gJ X.prog X.w H h2:=mV (X:=X) (pins:=pins) I.hok hfr hk2;intro c o q;by_cases hb:c=s.heap.objs.size
   ·subst hb;rw[dF]at q;cases q;refine#[by show(2:L)<=_;have:=fN;lia,[u,v],.cons ru (.cons rw' .nil),#[_,ht2,rfl,_,rfl]]
   ·rw[bf hb]at q;exact(h0 c o q).stay (λ_ _ _ r=>r) (λc r=>by rw[bf (bX r hn)];exact r) (λc ys r=>by rw[bf (bX r hn)];exact r) λc o ys r=>by rw[bf (bX r hn)];exact r
  have I2:L2.Inv X pins O (upd H s.heap.objs.size (.tup [x,y])) { s with heap:=h2,toks:=s.toks }:=
   Inv.tE (ch:=[z,t1,t2,i1,i2]) I hf hk2 (λc o hb q n=>by rw[bf (bR (aV q))];exact n) (λc o q=>by rw[bf (bX q hn)];exact q) hok2
  refine#[.ref s.heap.objs.size,_,I2,rfl,#[_,x,y,hn,rfl,rfl,λzs hy'=>by rw[I.uO hy' hq];exact hx,λzs hy'=>by rw[I.uO hy' hr];exact hy],#[hz2,?_,#[u,v,?_],?_,?_],λc hc=>?_]
  ·exact(hs2.2 _ D.TIz).trans (hk1 _ _ D.TIz D.TITO D.TIi1 D.TIi2 s2)
  ·exact(hs2.2 _ D.TOz).trans ho1
  ·exact hi1.at λo q=>(hs2.2 i1 D.i1z).trans q
  ·exact hi2.at λo q=>(hs2.2 i2 D.i2z).trans q
  ·have hlt:c<s.heap.objs.size:=by
    have hc:c=z\/c=t1\/c=t2\/c=i1\/c=i2:=by simpa using hc
    rcases hc with rfl|rfl|rfl|rfl|rfl
    ·exact lee
    ·exact aV s2
    ·exact aV s3
    ·let#[o,q,_]:=s4;exact aV q
    ·let#[o,q,_]:=s5;exact aV q
   rw[bf (bR hlt)];exact hfr c hc
 done:=by
  intro X hP hw hK hc i pins s O H E I hf st hg;subst hP hw hK;let#[s1,s2,#[u0,v0,s3],s4,s5]:=st;let#[xs,ys,hq,hr,hx]:=hg;let#[its,rv,p,hz]:=I.tuple hq;let#[its',rv',p',hz']:=I.tuple hr;have hl:=rv.length;have hl':=rv'.length;have hfr:∀c∈[z,t1,t2,i1,i2],H c=B:=λc hc=>(hf c hc).1;refine Tn (hC hc I hf) D #[s1,s2,s4,s5,(show s.heap.IsTuple a its.toArray from p),(show s.heap.IsTuple b its'.toArray from p')] s3 ?_ λh' eb=>#[rfl,?_]
  ·rcases hx with hx|hx
   ·exact .inl (by simp;lia)
   ·exact .inr (by simp;lia)
  ·have hk:∀c o,c∉[z,t1,t2,i1,i2]->s.heap.get? c=Y o->h'.get? c=Y o:=λc o hb q=>by
    have hc:c≠z/\c≠t1/\c≠t2/\c≠i1/\c≠i2:=by simpa using hb
    exact eb c o hc.1 hc.2.2.1 hc.2.2.2.1 hc.2.2.2.2 q
   exact Inv.tE (t':=s.toks) (ch:=[z,t1,t2,i1,i2]) I hf hk (λ_ _ _ _ n=>n) (λ_ _ q=>q) (mV (X:=X) (pins:=pins) I.hok hfr hk)
 self:=λ_ _ _ _ _ st h=>oQ st.1 h
def Pd{P:bM}{w:bL}{K:aa}{elts:M Expr}{x1}{pos:Pos}(a b z t1 t2 i1 i2:Addr)(D:uE z t1 t2 i1 i2 a b):Turn P w K (.Tuple elts x1 pos) (Tp K a b) [z,t1,t2,i1,i2] z (Pb a b z t1 t2 i1 i2):=
 have T:=MU (Cm:=λX=>X.calm=J) (K:=K) (elts:=elts) (x1:=x1) (pos:=pos) a b z t1 t2 i1 i2 D λhc I _=>I.ok.hd hc
 #[by simp,T.obj,T.keep,T.item,T.done,T.self]
section
variable{X:Cx}
def XZ{elts:M Expr}{x1:L}{tp:Pos}{e:Expr}{er:M Expr}{t:TA}{p pos:Pos}(hg:Gl X "zip")(hm:X.mg "zip"=B)(ha:PA X (e::er) t)(n1:noStar e=J)(n2:cB er=J):Fp X (.Tuple elts x1 tp) (.Call (.Name "zip" p) (e::er) [] pos) (λO H k=>t O H λvs H1=>MK X.K vs H1 k):=by
 intro pins s O H k I h;refine Call_ (l7 I hg hm boot_zip (gw (a_ (ha pos pins s O H (λvs H1=>MK X.K vs H1 k) I h) λus s1 ⟨vs,H1,I1,r1,q⟩=>?_) (gP n1) (tG n2)))
 match vs,r1,q with
 |[],r1,q=>exact q.elim
 |[_],r1,q=>exact q.elim
 |_::_::_::_,r1,q=>exact q.elim
 |[x,y],r1,q=>
  let#[u,v,rfl,ru,rv]:=vals2 r1;rcases q with⟨a,b,xs,ys,rfl,rfl,hx,hy,q⟩|⟨a,b,xs,ys,rfl,rfl,hx,hy,q⟩
  rotate_left
  ·cases ru;cases rv;let#[its,r1,p1,_]:=I1.tuple hx.nc;let#[its',r2,p2,_]:=I1.tuple hy.nc;have p1:s1.heap.IsTuple a its.toArray:=p1;have p2:s1.heap.IsTuple b its'.toArray:=p2;have l1:a<s1.heap.objs.size:=by let#[_,e,_]:=p1;exact aV e
   have l2:b<s1.heap.objs.size:=by let#[_,e,_]:=p2;exact aV e
   refine O9 p1 p2 λh' Z z3 hk=>?_;refine oQ (s:={ s1 with heap:=h' }) Z.zo ?_;refine#[s1.heap.objs.size+4,[s1.heap.objs.size+4,s1.heap.objs.size+2,s1.heap.objs.size+3,s1.heap.objs.size,s1.heap.objs.size+1],_,_,H1,rfl,I1.kept (t':=s1.toks) hk,Pd a b _ _ _ _ _ (Kc l1 l2),#[Z.zo,Z.tp,#[_,_,z3],Z.a1,Z.a2],λc hc=>?_,λH'=>fR X.K H' a J xs/\fR X.K H' b J ys,_,O_.mono λH' o=>#[o.1.nc,o.2.nc],q];have hle:s1.heap.objs.size<=c:=by
    have hc:c=s1.heap.objs.size+4\/c=s1.heap.objs.size+2\/c=s1.heap.objs.size+3\/c=s1.heap.objs.size\/c=s1.heap.objs.size+1:=by simpa using hc
    rcases hc with rfl|rfl|rfl|rfl|rfl<;>first|exact C4 _ _|exact aW _
   exact I1.w_ hle (I1.hok.fresh hle)
  cases ru;cases rv;let#[its,r1,p1,_]:=I1.list (.inl hx:iC X.K H1 a xs);let#[its',r2,p2,_]:=I1.list (.inl hy:iC X.K H1 b ys);have l1:a<s1.heap.objs.size:=by let#[_,e,_]:=p1.isList;exact aV e
  have l2:b<s1.heap.objs.size:=by let#[_,e,_]:=p2.isList;exact aV e
  refine call_zip_2 p1.isList p2.isList λh' z1 z2 z3 z4 z5 hsz hk=>?_;refine oQ (s:={ s1 with heap:=h' }) z1 ?_;refine#[s1.heap.objs.size+4,[s1.heap.objs.size+4,s1.heap.objs.size+2,s1.heap.objs.size+3,s1.heap.objs.size,s1.heap.objs.size+1],_,_,H1,rfl,I1.kept (t':=s1.toks) hk,Ti a b _ _ _ _ _ (Kc l1 l2),#[z1,z2,#[_,_,z3],z4,z5],λc hc=>?_,_,_,Tg,q];have hle:s1.heap.objs.size<=c:=by
   have hc:c=s1.heap.objs.size+4\/c=s1.heap.objs.size+2\/c=s1.heap.objs.size+3\/c=s1.heap.objs.size\/c=s1.heap.objs.size+1:=by simpa using hc
   rcases hc with rfl|rfl|rfl|rfl|rfl<;>first|exact C4 _ _|exact aW _
  exact I1.w_ hle (I1.hok.fresh hle)
end
def band(h:(a&&b)=J):a=J/\b=J:=by simpa using h
def rB(h:(x1&&x2&&x3)=J):(x1=J/\x2=J)/\x3=J:=#[band (band h).1,(band h).2]
def xy(h:(x1&&x2&&x3&&x4)=J):((x1=J/\x2=J)/\x3=J)/\x4=J:=#[rB (band h).1,(band h).2]
def Ho(h:(x1&&x2&&x3&&x4&&x5)=J):(((x1=J/\x2=J)/\x3=J)/\x4=J)/\x5=J:=#[xy (band h).1,(band h).2]
def sL(h:(x1&&x2&&x3&&x4&&x5&&x6)=J):((((x1=J/\x2=J)/\x3=J)/\x4=J)/\x5=J)/\x6=J:=#[Ho (band h).1,(band h).2]
def MV(h:(x1&&x2&&x3&&x4&&x5&&x6&&x7)=J):(((((x1=J/\x2=J)/\x3=J)/\x4=J)/\x5=J)/\x6=J)/\x7=J:=#[sL (band h).1,(band h).2]
def abS(h:(x1&&x2&&x3&&x4&&x5&&x6&&x7&&x8)=J):((((((x1=J/\x2=J)/\x3=J)/\x4=J)/\x5=J)/\x6=J)/\x7=J)/\x8=J:=#[MV (band h).1,(band h).2]
def abT(h:(x1&&x2&&x3&&x4&&x5&&x6&&x7&&x8&&x9)=J):(((((((x1=J/\x2=J)/\x3=J)/\x4=J)/\x5=J)/\x6=J)/\x7=J)/\x8=J)/\x9=J:=#[abS (band h).1,(band h).2]
def zc(h:(!a)=J):a=W:=by simpa using h
def no{P:Prop}(h:W=J):P:=aG h bq
section
variable{X:Cx}{T:Tab}{U:M G}{E:XK}
def Ok.mW(ok:Ok X T U E)(h:r_ T.sc x=J):Gl X x:=by
 have h:=aq h;rw[<-ok.sc]at h;exact h
def Ok.pH(ok:Ok X T U E)(h:T.bn.contains x=J):X.mg x=B:=ok.bn x (by simpa using h)
def Ok.MW(ok:Ok X T U E){x:Str}{i:L}(h:decide (T.N[i]?=Y x)=J):X.N[i]?=Y x:=by rw[ok.N];exact aq h
def Ok.Hq(ok:Ok X T U E)(h:tF T.sc T.N scope nl fr=J):vX X.env.scope X.N scope nl fr:=by rw[ok.sc,ok.N];exact O6 h
def OI{v:V}(h:S_ v c=J):PE X (.Constant c j pos) (λ_ H Q=>Q v H):=by
 cases v<;>cases c<;>first|exact no h|skip
 ·exact Zn
 ·have e:=aq h;subst e;exact abl
 ·have e:=aq h;subst e;exact Ou
 ·have e:=aq h;subst e;exact Zo
def X3(hN:X.N[i]?=Y x)(hv:Ot X.env.scope x)(h1:(x==("__debug__":Str))=W)(h2:(x==("__classdict__":Str))=W):PE X (.Name x p) (λO H Q=>jW O i λv=>Q v H):=by
 intro pins s O H Q I h;refine Zm hN hv h1 h2 pins s O H Q I ?_;unfold jW at h;split at h
 ·exact#[_,by assumption,h]
 ·exact h.elim
def aal{g:L}(ok:Ok X T U E)(hx:T.gl[g]?=Y x)(hg:Gl X x)(hd:(x==("__debug__":Str))=W):PE X (.Name x p) (λ_ H Q=>match U[g]? with
  |some (.val v)=>Q v H
  |some (.tup a _)=>Q (.ref a) H
  |_=>aR):=by
 intro pins s O H Q I h;split at h
 ·rename_i v e;let#[u,hm,r]:=ok.gl g x _ hx e;exact Lc hg hm r hd pins s O H Q I h
 ·rename_i a xs e;let#[hm,_]:=ok.gl g x _ hx e;exact Lc (v:=.ref a) hg hm rfl hd pins s O H Q I h
 ·exact h.elim
def abU{p pos:Pos}{g:L}{es:M Expr}{t:TA}(ok:Ok X T U E)(hx:T.gl[g]?=Y x)(hg:Gl X x)(hd:(x==("__debug__":Str))=W)(ha:PA X es t)(hn:es=[]->t=λ_ H Q=>Q [] H)(hs:cB es=J):PE X (.Call (.Name x p) es [] pos) (λO H Q=>match U[g]? with
   |some (.fn sp dvs)=>t O H λvs H1=>sp (vs++dvs) H1 Q E
   |_=>aR):=by
 intro pins s O H Q I h;split at h
 ·rename_i sp dvs e;rcases ok.gl g x _ hx e with⟨k,f,fd,ps,ds,q1,q2,q3,q4,q5,q6,q7⟩|q
  rotate_left 1
  ·exact q.elim
  ·cases es with
   |nil=>
    have e:=hn rfl;subst e;exact SK q1 q2 hg q3 q4 q5 q6 q7 hd pins s O H Q I h
   |cons e er=>
    have hs':noStar e=J/\cB er=J:=by simpa[cB]using hs
    exact Xz q1 q2 hg q3 q4 q5 q6 q7 ha hd (gP hs'.1) (tG hs'.2) pins s O H Q I h
 ·exact h.elim
def X4{x:Str}(ok:Ok X T U E)(hi:X.N[i]?=Y x)(hl:S9 T x=J):PG X (.Name x p) (λv O H Q=>Q (O.set i (Y v)) H):=by
 unfold S9 at hl;have hsc:=ok.sc;split at hl
 ·rename_i e;rw[<-hsc]at e;exact Ld ok.nd hi (.inl e) (.inr e)
 ·rename_i e;rw[<-hsc]at e;exact Ld ok.nd hi (.inr e) (.inl (ok.own x hl))
 ·exact no hl
def pg_tup'{gs:rF}{k:L}{pos:Pos}{t:HD}(hc:X.calm=J\/Dj X)(h:C9 X es t)(hn:es.length=gs.len)(hs:cB es=J):PG X (.Tuple es k pos) (λv O H Q=>match v with
  |.ref a=>vD X.K H a λt' xs=>t'=J/\xs.length=gs.len/\t xs O H Q
  |_=>aR):=by
 intro pins s O H v u Q I r hw;cases v with
 |ref a=>
  let#[t',xs,hx,ht,hl,hw]:=hw;subst ht;rcases hx.sq with⟨hf,_⟩|⟨_,z⟩
  ·cases hf
  ·rcases hc with hc|hc
   ·exact Zu hc h (xx hs).1 (xx hs).2 pins s O H _ u Q I r #[a,xs,rfl,z,by lia,hw]
   ·exact hc.elim
 |_=>exact aJ hw
def pg_sub'{o i:Expr}(hu:X.A.units+60<eB)(hp:xw i=J)(ho:PE X o to)(hi:PE X i ti):PG X (.Subscript o i pos) (λv O H Q=>to O H λx H1=>ti O H1 λy H2=>match x with
  |.ref a=>match H2 a with
   |some (.lst xs)=>∃k j,y=.int k/\gO xs.length k=Y j/\Q O (upd H2 a (.lst (xs.set j v)))
   |some (.dK kvs)=>∃k,y=kV k/\kvs.length<ah/\Q O (upd H2 a (.dK (putK kvs k v)))
   |some (.dT kvs)=>∃k b,y=.ref b/\H2 b=Y (.tup (k.map kV))/\kvs.length<ah/\Q O (upd H2 a (.dT (putK kvs k v)))
   |_=>aR
  |_=>aR):=by
 have hS:SD X (λx y v H2 Q=>match x with
  |.ref a=>match H2 a with
   |some (.lst xs)=>∃k j,y=.int k/\gO xs.length k=Y j/\Q (upd H2 a (.lst (xs.set j v)))
   |some (.dK kvs)=>∃k,y=kV k/\kvs.length<ah/\Q (upd H2 a (.dK (putK kvs k v)))
   |some (.dT kvs)=>∃k b,y=.ref b/\H2 b=Y (.tup (k.map kV))/\kvs.length<ah/\Q (upd H2 a (.dT (putK kvs k v)))
   |_=>aR
  |_=>aR):=by
  intro pins s O H o i v ov iv u Q I ro ri rv h;split at h
  ·split at h
   ·let#[k,j,rfl,hj,q]:=h;exact set_list pins s O H _ _ v ov iv u Q I ro ri rv #[_,_,_,j,rfl,rfl,by assumption,hj,q]
   ·rename_i a _ kvs hk;let#[k,rfl,hl,q]:=h;cases ro;exact Fd (by lia) I (.inl #[kvs,k,hk,rfl,hl,rfl]) ri rv λs' I'=>#[_,I',q]
   ·rename_i a _ kvs hk;let#[k,b,rfl,hb,hl,q]:=h;cases ro;exact Fd (by lia) I (.inr #[kvs,k,b,hk,rfl,hb,hl,rfl]) ri rv λs' I'=>#[_,I',q]
   ·exact h.elim
  ·exact h.elim
 intro pins s O H v u Q I r h;refine Zv ho hi hS (λ_=>by cases i<;>first|rfl|exact no hp) pins s O H v u Q I r ?_;exact h
def j6:PT X e (λ_ _ _=>aR):=λ_ _ _ _ _ _ h=>h.elim
def aam(hc:PT X c tc)(ha:PT X a ta)(hb:PT X b tb):PT X (.IfExp c a b pos) (λO H Q=>tc O H λk H1=>if k=J then ta O H1 Q else tb O H1 Q):=by
 intro pins s O H Q I h;refine isTrue_IfExp (a_ (hc pins s O H _ I h) λd s1 ⟨H1,I1,q1⟩=>?_);cases d with
 |true=>exact ha pins s1 O H1 Q I1 q1
 |false=>exact hb pins s1 O H1 Q I1 q1
theorem Lx{K:aa}{Q:Bool->Hp->Prop}:wT K U E (.call g as) O H Q=wE K U E (.call g as) O H (λx H2=>ny K x H2 λb=>Q b H2):=by
 rfl
def X5(ok:Ok X T U E)(h:PE X e (wE X.K U E (.call g as)))(he:∀whole,Av e X.env whole=(do let v <-whole;EX e.pos;wK [v] (J3 v))):PT X e (wT X.K U E (.call g as)):=by
 have z:=pt_val' h he;intro pins s O H Q I q;rw[Lx]at q;exact z pins s O H Q I q
def po_some'(h:PE X e te):PO X (Y e) (λO H Q=>te O H λx H1=>match x with
  |.int i=>Q (Y i) H1
  |_=>aR):=by
 intro pins s O H Q I q;rw[G2];refine a_ (h pins s O H _ I q) λv s1 ⟨x,H1,I1,r1,q1⟩=>?_;cases x with
 |int i=>
  let#[t,rfl]:=r1;exact#[Y i,H1,I1,.int i t,q1]
 |_=>lia
def pgs_nil':C9 X [] (λvs O H Q=>match vs with
  |[]=>Q O H
  |_=>aR):=by
 intro pins s O H vs us Q I r h;cases vs with
 |nil=>exact Xu pins s O H [] us Q I r #[rfl,h]
 |cons v vr=>lia
def pgs_cons'(h1:PG X e t)(h2:C9 X es u)(hs:noStar e=J):C9 X (e::es) (λvs O H Q=>match vs with
  |v::vr=>t v O H fun σ' H'=>u vr σ' H' Q
  |_=>aR):=by
 intro pins s O H vs us Q I r h;cases vs with
 |nil=>lia
 |cons v vr=>exact SE h1 h2 (by rw[nH hs];rfl) pins s O H (v::vr) us Q I r #[v,vr,rfl,h]
theorem Wy:∀(gs:rF) (es:M Expr),Hl T gs es=J->es.length=gs.len
|.nil,es,h=>by
 cases es with
 |nil=>rfl
 |cons e er=>exact no h
|.cons g r,es,h=>by
 cases es with
 |nil=>exact no h
 |cons e er=>
  let#[_,h2]:=band h;show er.length+1=r.len+1;rw[Wy r er h2]
def Wz(as:ja)(es:M Expr){X:Cx}(h:pD T as es=J):es=[]->wEs X.K U E as=λ_ H Q=>Q [] H:=by
 rintro rfl;cases as with
 |nil=>rfl
 |cons a r=>exact no h
def hid{α:Type}{G:α->Prop}{e:α}(h:∀P:α->Prop,(∀x,G x->P x)->P e):G e:=h G λ_ h=>h
mutual
theorem dQ:∀(c:CE) (e:Expr) {X:Cx}{T:Tab}{E:XK},Ok X T U E->dM T c e=J->PE X e (wE X.K U E c)/\PT X e (wT X.K U E c)/\∀op vs p,e=.BoolOp op vs p->PW X e (wT X.K U E c)
|.var i,e,X,T,E,ok,h=>by
 let#[h0,h]:=band h;revert h;refine cW e (eq_of_beq h0) ?_;intro x p h;let#[#[#[h1,h2],h3],h4]:=xy h;rw[<-ok.sc]at h2;have z':PE X (.Name x p) (wE X.K U E (.var i)):=X3 (ok.MW h1) (aae h2) (zc h3) (zc h4);exact#[z',pt_val' z' (λ_=>rfl),λ_ _ _ z=>nomatch z]
|.con v,e,X,T,E,ok,h=>by
 let#[h0,h]:=band h;revert h;refine Si e (eq_of_beq h0) ?_;intro _ _ _ h;exact#[OI h,j6,λ_ _ _ z=>nomatch z]
|.glo g,e,X,T,E,ok,h=>by
 let#[h0,h]:=band h;revert h;refine cW e (eq_of_beq h0) ?_;intro x p h;let#[#[h1,h2],h3]:=rB h;exact#[aal ok (aq h1) (ok.mW h2) (zc h3),j6,λ_ _ _ z=>nomatch z]
|.bin op a b,e,X,T,E,ok,h=>by
 let#[h0,h]:=band h;revert h;refine Xl e (eq_of_beq h0) ?_;intro l o r p h;let#[#[h1,h2],h3]:=rB h;have e:=aq h1;subst e;exact#[abt (abI op) (dQ a l ok h2).1 (dQ b r ok h3).1,j6,λ_ _ _ z=>nomatch z]
|.nset a,e,X,T,E,ok,h=>by
 let#[h0,h]:=band h;let#[hf,h]:=band h;let#[ha,h]:=band h;revert hf ha h;refine gf e (eq_of_beq h0) ?_;intro fn es kw p hf ha h;revert h;refine cW fn (eq_of_beq hf) ?_;intro x px h
 match es,ha,h with
 |[],ha,h=>exact no ha
 |_::_::_,ha,h=>exact no ha
 |[c],ha,h=>
  let#[hb,ha]:=band ha;revert h ha;refine gf c (eq_of_beq hb) ?_;intro f2 es2 kw2 p2 h ha;revert h;refine cW f2 (eq_of_beq ha) ?_;intro y py h
  match es2,kw2,kw,h with
  |[],_,_,h=>exact no h
  |_::_::_,_,_,h=>exact no h
  |[_],_::_,_,h=>exact no h
  |[_],[],_::_,h=>exact no h
  |[l],[],[],h=>
   let#[hcm,h]:=band h;let#[h,h8]:=band h;let#[#[#[#[#[#[h1,h2],h3],h4],h5],h6],h7]:=MV h;have e1:=aq h1;have e2:=aq h4;subst e1 e2;exact#[XY (ok.calm hcm) (ok.mW h2) (ok.pH h3) (ok.mW h5) (ok.pH h6) (dQ a l ok h8).1 h7,j6,λ_ _ _ z=>nomatch z]
|.neg a,e,X,T,E,ok,h=>by
 let#[h0,h]:=band h;revert h;refine Bl e (eq_of_beq h0) ?_;intro op l p h;cases op<;>first|exact no h|skip
 exact#[pe_neg' (dQ a l ok h).1,j6,λ_ _ _ z=>nomatch z]
|.not a,e,X,T,E,ok,h=>by
 let#[h0,h]:=band h;revert h;refine Bl e (eq_of_beq h0) ?_;intro op l p h;cases op<;>first|exact no h|skip
 exact#[pe_not' (dQ a l ok h).1,Zp (dQ a l ok h).2.1,λ_ _ _ z=>nomatch z]
|.and a b,e,X,T,E,ok,h=>by
 let#[h0,h]:=band h;revert h;refine C5 e (eq_of_beq h0) ?_;intro op vs p h;cases op<;>first|exact no h|skip
 match vs,h with
 |[x,y],h=>
  let#[h1,h2]:=band h;have w:=pw_and (pos:=p) (dQ a x ok h1).2.1 (pw_and1 (dQ b y ok h2).2.1);exact#[pe_and' (dQ a x ok h1).1 (Ov (dQ b y ok h2).1),w.pt,λ_ _ _ _=>w]
 |x::y::z::r,h=>
  let#[h1,h2]:=band h;have w:=pw_and (dQ a x ok h1).2.1 ((dQ b _ ok h2).2.2 _ _ _ rfl);exact#[pe_and' (dQ a x ok h1).1 (dQ b _ ok h2).1,w.pt,λ_ _ _ _=>w]
 |[],h=>exact no h
 |[x],h=>exact no h
|.or a b,e,X,T,E,ok,h=>by
 let#[h0,h]:=band h;revert h;refine C5 e (eq_of_beq h0) ?_;intro op vs p h;cases op<;>first|exact no h|skip
 match vs,h with
 |[x,y],h=>
  let#[h1,h2]:=band h;have w:=pw_or (pos:=p) (dQ a x ok h1).2.1 (pw_or1 (dQ b y ok h2).2.1);exact#[pe_or' (dQ a x ok h1).1 (Ov (dQ b y ok h2).1),w.pt,λ_ _ _ _=>w]
 |x::y::z::r,h=>
  let#[h1,h2]:=band h;have w:=pw_or (dQ a x ok h1).2.1 ((dQ b _ ok h2).2.2 _ _ _ rfl);exact#[pe_or' (dQ a x ok h1).1 (dQ b _ ok h2).1,w.pt,λ_ _ _ _=>w]
 |[],h=>exact no h
 |[x],h=>exact no h
|.ite c a b,e,X,T,E,ok,h=>by
 let#[h0,h]:=band h;revert h;refine Xm e (eq_of_beq h0) ?_;intro t x y p h;let#[#[h1,h2],h3]:=rB h;exact#[Sy (dQ c t ok h1).2.1 (dQ a x ok h2).1 (dQ b y ok h3).1,aam (dQ c t ok h1).2.1 (dQ a x ok h2).2.1 (dQ b y ok h3).2.1,λ_ _ _ z=>nomatch z]
|.cmp op a b,e,X,T,E,ok,h=>by
 let#[h0,h]:=band h;revert h;refine Bm e (eq_of_beq h0) ?_;intro l os rs p h
 match os,rs,h with
 |[o],[r],h=>
  let#[#[#[h1,h2],h3],h4]:=xy h;have e:=aq h1;subst e;exact#[Xx (AS ok.room op) (dQ a l ok h3).1 (dQ b r ok h4).1 (zc h2),pt_cmp' ok.room (dQ a l ok h3).1 (dQ b r ok h4).1 (zc h2),λ_ _ _ z=>nomatch z]
 |[],_,h=>exact no h
 |_::_::_,_,h=>exact no h
 |[_],[],h=>exact no h
 |[_],_::_::_,h=>exact no h
|.chain o1 o2 a b c,e,X,T,E,ok,h=>by
 let#[h0,h]:=band h;revert h;refine Bm e (eq_of_beq h0) ?_;intro l os rs p h
 match os,rs,h with
 |[p1,p2],[m,r],h=>
  let#[#[#[#[#[h1,h2],h3],h4],h5],h6]:=sL h;have e1:=aq h1;have e2:=aq h2;subst e1 e2;exact#[pe_chain' ok.room (dQ a l ok h4).1 (dQ b m ok h5).1 (dQ c r ok h6).1 (zc h3),pt_chain' ok.room (dQ a l ok h4).1 (dQ b m ok h5).1 (dQ c r ok h6).1 (zc h3),λ_ _ _ z=>nomatch z]
 |[],_,h=>exact no h
 |[_],_,h=>exact no h
 |_::_::_::_,_,h=>exact no h
 |[_,_],[],h=>exact no h
 |[_,_],[_],h=>exact no h
 |[_,_],_::_::_::_,h=>exact no h
|.call g as,e,X,T,E,ok,h=>by
 let#[h0,h]:=band h;let#[hf,h]:=band h;revert hf h;refine gf e (eq_of_beq h0) ?_;intro f es kw p hf h;revert h;refine cW f (eq_of_beq hf) ?_;intro x px h;cases kw<;>first|exact no h|skip
 let#[#[#[#[h1,h2],h3],h4],h5]:=Ho h;have z':PE X (.Call (.Name x px) es [] p) (wE X.K U E (.call g as)):=abU ok (aq h1) (ok.mW h2) (zc h3) (zd as es ok h4 h5) (Wz as es h5) h4;exact#[z',X5 ok z' (λ_=>rfl),λ_ _ _ z=>nomatch z]
|.blt f as,e,X,T,E,ok,h=>by
 let#[h0,h]:=band h;let#[hf,h]:=band h;revert hf h;refine gf e (eq_of_beq h0) ?_;intro fn es kw p hf h;revert h;refine cW fn (eq_of_beq hf) ?_;intro x px h;cases kw<;>first|exact no h|skip
 let#[hcm,h]:=band h;let#[#[#[#[#[h1,h2],h3],h4],h5],h6]:=sL h;cases es with
 |nil=>exact no h5
 |cons e er=>
  have hb:nY X f.val (xm X.K f):=by
   rcases lV.mp hcm with hcm|hcm
   ·exact abL (ok.calm hcm) ok.room f
   ·exact(ok.semi (band hcm).1).elim
  have z':PE X (.Call (.Name x px) (e::er) [] p) (wE X.K U E (.blt f as)):=aah hb (ok.mW h2) (aq h1) (ok.pH h3) (zd as _ ok h4 h6) h4;exact#[z',pt_val' z' (λ_=>rfl),λ_ _ _ z=>nomatch z]
|.isi a t,e,X,T,E,ok,h=>by
 let#[h0,h]:=band h;let#[hf,h]:=band h;by_cases ht:t=.none
 ·subst ht;rw[aB rfl]at h;revert hf h;refine gf e (eq_of_beq h0) ?_;intro fn es kw p hf h;revert h;refine cW fn (eq_of_beq hf) ?_;intro x px h
  match es,h with
  |[],h=>exact no h
  |[_],h=>exact no h
  |_::_::_::_,h=>exact no h
  |[l,c],h=>
   cases kw<;>first|exact no h|skip
   let#[#[#[#[#[h1,h2],h3],h4],h5],h6]:=sL h;let#[hc,h4]:=band h4;revert h4;refine qE c (eq_of_beq hc) ?_;intro ns kk tpos h4;split at h4
   ·rename_i y q1 z q2 _ _ e;cases e;let#[#[#[#[#[k1,k2],k3],k4],k5],k6]:=sL h4;obtain rfl:=aq k1;obtain rfl:=aq k4;have z':PE X (.Call (.Name x px) [l,.Tuple [.Name "list" q1,.Name "tuple" q2] kk tpos] [] p) (wE X.K U E (.isi a .none)):=aaj (ok.mW h2) (aq h1) (ok.pH h3) (ok.mW k2) (ok.pH k3) (ok.mW k5) (ok.pH k6) (dQ a l ok h6).1 h5;exact#[z',pt_val' z' (λ_=>rfl),λ_ _ _ z=>nomatch z]
   ·exact no h4
 rw[aD ht]at h;let#[ha,h]:=band h;revert hf ha h;refine gf e (eq_of_beq h0) ?_;intro fn es kw p hf ha h;revert h;refine cW fn (eq_of_beq hf) ?_;intro x px h
 match es,ha,h with
 |[],ha,h=>exact no ha
 |[_],ha,h=>exact no ha
 |_::_::_::_,ha,h=>exact no ha
 |[l,c],ha,h=>
  revert h;refine cW c (eq_of_beq ha) ?_;intro y py h;cases kw<;>first|exact no h|skip
  let#[#[#[#[#[#[#[#[h1,h2],h3],h4],h5],h6],h7],h8],h9]:=abT h;have z':PE X (.Call (.Name x px) [l,.Name y py] [] p) (wE X.K U E (.isi a t)):=aag (ok.mW h2) (aq h1) (ok.pH h3) (ok.mW h6) (aq h4) (aq h5) (ok.pH h7) (dQ a l ok h9).1 h8;exact#[z',pt_val' z' (λ_=>rfl),λ_ _ _ z=>nomatch z]
|.mth m o as,e,X,T,E,ok,h=>by
 let#[h0,h]:=band h;let#[hf,h]:=band h;revert hf h;refine gf e (eq_of_beq h0) ?_;intro fn es kw p hf h;revert h;refine Oi fn (eq_of_beq hf) ?_;intro l nm ap h;cases kw<;>first|exact no h|skip
 let#[#[#[#[#[#[h1,h2],h3],h4],h5],h6],h7]:=MV h;have e:=aq h1;subst e;have ho:=(dQ o l ok h6).1;have ha:=zd as es ok h4 h7;cases es with
 |nil=>
  have q:=Wz (X:=X) (U:=U) (E:=E) as [] h7 rfl;have z:=XW ok.room (m:=m) (apos:=ap) (cpos:=p) ho h2 h3;have z':PE X (.Call (.Attribute l m.name ap) [] [] p) (wE X.K U E (.mth m o as)):=by
   show PE X _ (λO H Q=>wE X.K U E o O H λx H1=>o_ m x H1/\wEs X.K U E as O H1 λvs H2=>oB X.K m x vs H2 Q);rw[q];exact z
  exact#[z',pt_val' z' (λ_=>rfl),λ_ _ _ z=>nomatch z]
 |cons e er=>
  have z':PE X (.Call (.Attribute l m.name ap) (e::er) [] p) (wE X.K U E (.mth m o as)):=aaf ok.room ho ha h2 h3 h4 (aq h5);exact#[z',pt_val' z' (λ_=>rfl),λ_ _ _ z=>nomatch z]
|.ix a b,e,X,T,E,ok,h=>by
 let#[h0,h]:=band h;revert h;refine lW e (eq_of_beq h0) ?_;intro l r p h;let#[#[h1,h2],h3]:=rB h;have z':PE X (.Subscript l r p) (wE X.K U E (.ix a b)):=abB (ixOk ok.room) (dQ a l ok h2).1 (dQ b r ok h3).1 (MT h1);exact#[z',pt_val' z' (λ_=>rfl),λ_ _ _ z=>nomatch z]
|.sl a lo hi,e,X,T,E,ok,h=>by
 let#[h0,h]:=band h;let#[hf,h]:=band h;revert hf h;refine lW e (eq_of_beq h0) ?_;intro l r p hf h;revert h;refine Xn r (eq_of_beq hf) ?_;intro x y st ps h;cases st<;>first|exact no h|skip
 let#[#[h1,h2],h3]:=rB h;exact#[SM slOk (dQ a l ok h1).1 (WA lo x ok h2) (WA hi y ok h3),j6,λ_ _ _ z=>nomatch z]
|.lst as,e,X,T,E,ok,h=>by
 let#[h0,h]:=band h;revert h;refine Zd e (eq_of_beq h0) ?_;intro _ _ h;let#[h1,h2]:=band h;exact#[ZQ (zd as _ ok h1 h2),j6,λ_ _ _ z=>nomatch z]
|.tup as,e,X,T,E,ok,h=>by
 let#[h0,h]:=band h;revert h;refine qE e (eq_of_beq h0) ?_;intro _ _ _ h;let#[h1,h2]:=band h;exact#[ZP (zd as _ ok h1 h2),j6,λ_ _ _ z=>nomatch z]
|.comp nl fr elt tg src cond,e,X,T,E,ok,h=>by
 let#[h0,h]:=band h;revert h;refine AJ e (eq_of_beq h0) ?_;intro l gs sc p h
 match gs,h with
 |[],h=>exact no h
 |⟨_,_,_,.ofNat 0⟩::_::_,h=>exact no h
 |⟨_,_,_,.ofNat (n+1)⟩::_,h=>exact no h
 |⟨_,_,_,.negSucc n⟩::_,h=>exact no h
 |[#[t,it,ifs,.ofNat 0]],h=>
  let#[hcm,h]:=band h;let#[#[#[#[#[h2,h3],h4],h5],h6],h7]:=sL h;let#[h3,h3']:=band h3;rcases lV.mp hcm with hcm|hcm
  ·let#[hcm,hns]:=band hcm;have hns:T.semi=J->aR:=λz=>by rw[z]at hns;cases hns
   exact#[XT (ok.calm hcm) (ok.Hq h2) (okI src it h3' ok h4) (zb h3) (λC aet H ex=>Io tg t (qP ok h2 C aet H ex (λz=>(hns z).elim) (.inl hcm)) h5) (λC aet H ex=>okC cond ifs (qP ok h2 C aet H ex (λz=>(hns z).elim) (.inl hcm)) h6)
    (λC aet H ex=>(dQ elt l (qP ok h2 C aet H ex (λz=>(hns z).elim) (.inl hcm)) h7).1),j6,λ_ _ _ z=>nomatch z]
  ·exact(ok.semi (band hcm).1).elim
|.slp a lo hi k,e,X,T,E,ok,h=>by
 cases e<;>first|exact no h|skip
 rename_i l r p;cases r<;>first|exact no h|skip
 rename_i x y st p2;cases st<;>first|exact no h|skip
 rename_i st;cases st<;>first|exact no h|skip
 rename_i c j kp
 ·skip
  let#[#[#[h1,h2],h3],h4]:=xy h;cases c<;>first|exact no h1|skip
  have e:=aq h1;subst e;exact#[Z_ (dQ a l ok h2).1 (WA lo x ok h3) (WA hi y ok h4),j6,λ_ _ _ z=>nomatch z]
theorem zd:∀(cs:ja) (es:M Expr) {X:Cx}{T:Tab}{E:XK},Ok X T U E->cB es=J->pD T cs es=J->PA X es (wEs X.K U E cs)
|.nil,es,X,T,E,ok,hs,h=>by
 cases es with
 |nil=>exact OL
 |cons e er=>exact no h
|.cons a r,es,X,T,E,ok,hs,h=>by
 cases es with
 |nil=>exact no h
 |cons e er=>
  let#[h1,h2]:=band h;have hs':noStar e=J/\cB er=J:=by simpa[cB]using hs
  exact Lf (dQ a e ok h1).1 (zd r er ok hs'.2 h2) (gP hs'.1)
theorem WA:∀(c:CO) (e:aaV Expr) {X:Cx}{T:Tab}{E:XK},Ok X T U E->Ih T c e=J->PO X e (wO X.K U E c)
|.none,e,X,T,E,ok,h=>by
 cases e with
 |none=>exact XD
 |some x=>exact no h
|.some a,e,X,T,E,ok,h=>by
 cases e with
 |none=>exact no h
 |some x=>exact po_some' (dQ a x ok h).1
theorem okC:∀(c:CO) (es:M Expr) {X:Cx}{T:Tab}{E:XK},Ok X T U E->aac T c es=J->Ls X es (wC X.K U E c)
|.none,es,X,T,E,ok,h=>by
 cases es with
 |nil=>exact XR
 |cons x r=>exact no h
|.some a,es,X,T,E,ok,h=>by
 match es,h with
 |[x],h=>exact XS (dQ a x ok h).2.1
 |[],h=>exact no h
 |_::_::_,h=>exact no h
theorem Io:∀(c:CG) (e:Expr) {X:Cx}{T:Tab}{E:XK},Ok X T U E->za T c e=J->PG X e (wG X.K U E c)
|.name i,e,X,T,E,ok,h=>by
 let#[h0,h]:=band h;revert h;refine cW e (eq_of_beq h0) ?_;intro _ _ h;let#[h1,h2]:=band h;exact X4 ok (ok.MW h1) h2
|.tup gs,e,X,T,E,ok,h=>by
 let#[h0,h]:=band h;revert h;refine qE e (eq_of_beq h0) ?_;intro _ _ _ h;let#[hcm,h]:=band h;let#[h1,h2]:=band h;exact pg_tup' ((lV.mp hcm).imp ok.calm ok.semi) (aao gs _ ok h1 h2) (Wy gs _ h2) h1
|.sub o i,e,X,T,E,ok,h=>by
 let#[h0,h]:=band h;revert h;refine lW e (eq_of_beq h0) ?_;intro _ _ _ h;let#[#[h1,h2],h3]:=rB h;exact pg_sub' ok.room h1 (dQ o _ ok h2).1 (dQ i _ ok h3).1
theorem aao:∀(cs:rF) (es:M Expr) {X:Cx}{T:Tab}{E:XK},Ok X T U E->cB es=J->Hl T cs es=J->C9 X es (Fi X.K U E cs)
|.nil,es,X,T,E,ok,hs,h=>by
 cases es with
 |nil=>exact pgs_nil'
 |cons e er=>exact no h
|.cons g r,es,X,T,E,ok,hs,h=>by
 cases es with
 |nil=>exact no h
 |cons e er=>
  let#[h1,h2]:=band h;have hs':noStar e=J/\cB er=J:=by simpa[cB]using hs
  exact pgs_cons' (Io g e ok h1) (aao r er ok hs'.2 h2) hs'.1
theorem okI:∀(c:CI) (e:Expr) {tg:Expr}{X:Cx}{T:Tab}{E:XK},Tc c tg=J->Ok X T U E->Td T c e=J->Fp X tg e (wI X.K U E c)
|.seq a,e,tg,X,T,E,_,ok,h=>XQ (dQ a e ok h).1
|.range as,e,tg,X,T,E,_,ok,h=>by
 let#[h0,h]:=band h;let#[hf,h]:=band h;revert hf h;refine gf e (eq_of_beq h0) ?_;intro fn es kw p hf h;revert h;refine cW fn (eq_of_beq hf) ?_;intro x px h;cases kw<;>first|exact no h|skip
 ·skip
  let#[#[#[#[#[h1,h2],h3],h4],h5],h6]:=sL h;have e:=aq h1;subst e;cases es with
  |nil=>exact no h5
  |cons e er=>
   have hs':noStar e=J/\cB er=J:=by simpa[cB]using h4
   exact O3 (ok.mW h2) (ok.pH h3) (zd as _ ok h4 h6) (gP hs'.1) (tG hs'.2)
|.zip as,e,tg,X,T,E,tb,ok,h=>by
 cases tg<;>first|exact no tb|skip
 let#[h0,h]:=band h;let#[hf,h]:=band h;revert hf h;refine gf e (eq_of_beq h0) ?_;intro fn es kw p hf h;revert h;refine cW fn (eq_of_beq hf) ?_;intro x px h;cases kw<;>first|exact no h|skip
 let#[#[#[#[#[h1,h2],h3],h4],h5],h6]:=sL h;have e:=aq h1;subst e;cases es with
 |nil=>exact no h5
 |cons e er=>
  have hs':noStar e=J/\cB er=J:=by simpa[cB]using h4
  exact XZ (ok.mW h2) (ok.pH h3) (zd as _ ok h4 h6) hs'.1 hs'.2
|.enum a,e,tg,X,T,E,tb,ok,h=>by
 cases tg<;>first|exact no tb|skip
 let#[h0,h]:=band h;let#[hf,h]:=band h;revert hf h;refine gf e (eq_of_beq h0) ?_;intro fn es kw p hf h;revert h;refine cW fn (eq_of_beq hf) ?_;intro x px h
 match es,h with
 |[],h=>exact no h
 |_::_::_,h=>exact no h
 |[l],h=>
  cases kw<;>first|exact no h|skip
  let#[#[#[#[h1,h2],h3],h4],h5]:=Ho h;have e:=aq h1;subst e;exact S6 (ok.mW h2) (ok.pH h3) (dQ a l ok h5).1 (by rw[gP h4];rfl)
end
end
def X6(hk:env.scope.kind=.function)(h:Hj env.scope sc y py vpos=J):rM (.ListComp l gs sc vpos) (Y (.Name y py)) n env=pure J:=by
 unfold Hj at h;simp only[cU,cK]at h;let#[#[h1,h2],h3]:=h;have hb:env.blockKind=.function:=by
  unfold Env.blockKind;rw[hk];rfl
 show pure (env.blockKind==.function&&env.kindOf y==Y .local&&py.line==vpos.line&&!(sc.names.any λ(n,k)=>n==y&&(k==.local||k==.cell)))=pure J;have e1:(env.blockKind==Sj)=J:=by rw[hb];rfl
 have e2:(env.kindOf y==Y NameKind.local)=J:=by
  have:env.kindOf y=Y .local:=h1;rw[this];rfl
 have e3:(py.line==vpos.line)=J:=by rw[h2];simp
 rw[e1,e2,e3,h3];rfl
def tX(h:notTuple t=J\/notTuple e=J):GQ [t] e env=pure B:=by
 rcases h with h|h
 ·cases t<;>first|rfl|exact no h
 ·cases t<;>first|rfl|(cases e<;>first|rfl|exact no h)
def Fv(h:qO e=J):yE [t] e n env=pure W:=Dn h
def Ip(hs:env.scope=sc)(h:(qO e||MS sc t)=J):yE [t] e n env=pure W:=by
 rcases lV.mp h with h|h
 ·exact Fv h
 ·subst hs;show rM e (Y t) n env=pure W;unfold rM;split
  ·cases t with
   |Name y p=>
    have e2:(env.kindOf y==Y NameKind.local)=W:=by
     have:¬env.scope.names.lookup y=Y .local:=by simpa[MS]using h
     exact cy.mpr this
    simp only[e2,wR,Bool.false_and]
   |_=>rfl
  ·rfl
structure OkS (X:Cx) (T:Tab) (U:M G) (E:XK):Prop extends Ok X T U E where
 rz:T.calm=J->∃X0:Cx,X=X0.o6 (Ca X0 E)/\X.stack=X.env::X.outer/\X.env.frame=Y X.env.locals/\X.A.handled=B
def Cj(h:za T g t=J):noStar t=J:=by
 cases g with
 |name i=>exact cW t (eq_of_beq (band h).1) λ_ _=>rfl
 |tup gs=>exact qE t (eq_of_beq (band h).1) λ_ _ _=>rfl
 |sub o i=>exact lW t (eq_of_beq (band h).1) λ_ _ _=>rfl
section
mutual
theorem WB:∀{U:M G} (c:CS) (st:Stmt) {X:Cx}{T:Tab}{E:XK},OkS X T U E->Ii T c st=J->PS X st (wS X.K U E c)
|U,.expr c,st,X,T,E,ok,h=>by
 let#[h0,h]:=band h;revert h;refine Ze st (eq_of_beq h0) ?_;intro _ _ h;let#[h1,h2]:=band h;exact Xs (dQ c _ ok.toOk h2).1 (Dn h1)
|U,.asg g c,st,X,T,E,ok,h=>by
 let#[h0,h]:=band h;revert h;refine uF st (eq_of_beq h0) ?_;intro ts e p h
 match ts,h with
 |[],h=>exact no h
 |_::_::_,h=>exact no h
 |[t],h=>
  let#[#[#[h1,h2],h3],h4]:=xy h;exact HE (dQ c e ok.toOk h4).1 (Io g t ok.toOk h3) (Ip ok.sc h1) (tX (.inl h2)) (by rw[nH (Cj h3)];rfl)
|U,.tasg g c,st,X,T,E,ok,h=>by
 apply hid (e:=st);intro P zk;cases st<;>first|exact no h|skip
 rename_i ts e p
 match ts,h with
 |[],h=>exact no h
 |_::_::_,h=>exact no h
 |[t],h=>
  let#[#[#[h1,h2],h3],h4]:=xy h;refine zk _ ?_;exact HE (dQ c e ok.toOk h4).1 (Io g t ok.toOk h3) (Fv h1) (tX (.inr h2)) (by rw[nH (Cj h3)];rfl)
|U,.aug i c,st,X,T,E,ok,h=>by
 let#[h0,h]:=band h;let#[hf,h]:=band h;revert hf h;refine Oj st (eq_of_beq h0) ?_;intro t op e p hf h;revert h;refine cW t (eq_of_beq hf) ?_;intro y py h;cases op<;>first|exact no h|skip
 let#[#[h1,h2],h3]:=rB h;have hl:X.env.scope.names.lookup y=Y .local:=by rw[ok.sc];exact aq h2
 exact Zx ok.nd (ok.toOk.MW h1) (.inl hl) (dQ c e ok.toOk h3).1 Zy (.inr hl)
|U,.acl i g as,st,X,T,E,ok,h=>by
 let#[h0,h]:=band h;revert h;refine uF st (eq_of_beq h0) ?_;intro ts e p h
 match ts,h with
 |[],h=>exact no h
 |_::_::_,h=>exact no h
 |[t],h=>
  let#[#[#[h1,h2],h3],h4]:=xy h;exact HE (dQ (.call g as) e ok.toOk h4).1 (Io (.name i) t ok.toOk h3) (Ip ok.sc h1) (tX (.inl h2)) (by rw[nH (Cj h3)];rfl)
|U,.casg i c,st,X,T,E,ok,h=>by
 let#[h0,h]:=band h;let#[hf,h]:=band h;revert hf h;refine uF st (eq_of_beq h0) ?_;intro ts e p hf h
 match ts,hf,h with
 |[],hf,h=>exact no hf
 |t::tr,hf,h=>
  let#[hf,hg]:=band hf;revert h;refine cW t (eq_of_beq hf) ?_;intro y py h;cases tr<;>first|exact no h|skip
  revert h;refine AJ e (eq_of_beq hg) ?_;intro l gs sc vpos h;have hcm:=(band (band h).1).1;have hns:T.semi=J->aR:=λz=>by have q:=(band (band h).1).2;rw[z]at q;cases q
  replace h:=(band h).2;let#[#[h1,h2],h3]:=rB h;cases c<;>first|exact no h3|skip
  rename_i nl fr elt tg src cond _ _ _
  match gs,h3 with
  |[],h=>exact no h
  |⟨_,_,_,.ofNat 0⟩::_::_,h=>exact no h
  |⟨_,_,_,.ofNat (n+1)⟩::_,h=>exact no h
  |⟨_,_,_,.negSucc n⟩::_,h=>exact no h
  |[#[t,it,ifs,.ofNat 0]],h3=>
   replace h3:=(band (band h3).2).2;let#[#[#[#[#[k2,k3],k4],k5],k6],k7]:=sL h3;let#[k3,k3']:=band k3;have hl:X.env.scope.names.lookup y=Y .local:=by
    unfold Hj at h2;simp only[cU,cK]at h2;rw[ok.sc];exact h2.1.1
   exact XU (ok.calm hcm) ok.nd (ok.toOk.MW h1) hl (ok.toOk.Hq k2) (okI src it k3' ok.toOk k4) (zb k3) (X6 ok.kind (by rw[ok.sc];exact h2)) (λC aet H ex=>Io tg t (qP ok.toOk k2 C aet H ex (λz=>(hns z).elim) (.inl hcm)) k5) (λC aet H ex=>okC cond ifs (qP ok.toOk k2 C aet H ex (λz=>(hns z).elim) (.inl hcm)) k6)
    (λC aet H ex=>(dQ elt _ (qP ok.toOk k2 C aet H ex (λz=>(hns z).elim) (.inl hcm)) k7).1)
|U,.ret c,st,X,T,E,ok,h=>by
 let#[h0,h]:=band h;revert h;refine C6 st (eq_of_beq h0) ?_;intro e p h;cases e<;>first|exact no h|skip
 ·exact Ow (dQ c _ ok.toOk h).1
|U,.rcl g as,st,X,T,E,ok,h=>by
 let#[h0,h]:=band h;revert h;refine C6 st (eq_of_beq h0) ?_;intro e p h;cases e<;>first|exact no h|skip
 ·exact Ow (dQ (.call g as) _ ok.toOk h).1
|U,.ifs c a b,st,X,T,E,ok,h=>by
 let#[h0,h]:=band h;revert h;refine Stmt.If.elim st (eq_of_beq h0) ?_;intro _ _ _ _ h;let#[#[h1,h2],h3]:=rB h;exact abp (dQ c _ ok.toOk h1).2.1 (ze a _ ok h2) (ze b _ ok h3)
|U,.whil c b,st,X,T,E,ok,h=>by
 apply hid (e:=st);intro P zk;cases st<;>first|exact no h|skip
 rename_i e x l p;cases l<;>first|exact no h|skip
 ·let#[h1,h2]:=band h;refine zk _ ?_;exact SG ok.po (dQ c _ ok.toOk h1).2.1 (ze b _ ok h2)
|U,.forr g src b,st,X,T,E,ok,h=>by
 let#[h0,h]:=band h;revert h;refine Zh st (eq_of_beq h0) ?_;intro t it x l p h;cases l<;>first|exact no h|skip
 ·let#[hcm,h]:=band h;let#[#[#[#[h1,h1'],h2],h3],h4]:=Ho h;exact abM ok.po (ok.calm hcm) (okI src _ h1' ok.toOk h2) (Io g _ ok.toOk h3) (ze b _ ok h4) (zb h1)
|U,.brk,st,X,T,E,ok,h=>by
 let#[h0,h]:=band h;revert h;refine Xo st (eq_of_beq h0) ?_;intro _ h;exact Sz
|U,.cont,st,X,T,E,ok,h=>by
 let#[h0,h]:=band h;revert h;refine Sk st (eq_of_beq h0) ?_;intro _ h;exact Kr
|U,.never,st,X,T,E,ok,h=>SA
theorem ze:∀{U:M G} (cs:cE) (sts:M Stmt) {X:Cx}{T:Tab}{E:XK},OkS X T U E->pF T cs sts=J->vV X sts (wSs X.K U E cs)
|U,.nil,sts,X,T,E,ok,h=>by
 cases sts with
 |nil=>exact Xr
 |cons s r=>exact no h
|U,.cons c r,sts,X,T,E,ok,h=>by
 cases sts with
 |nil=>exact no h
 |cons s sr=>
  let#[h1,h2]:=band h;exact w9 (WB c s ok h1) (ze r sr ok h2)
|U,.two c d r,sts,X,T,E,ok,h=>by
 cases sts with
 |nil=>exact no h
 |cons s sr=>
  cases sr with
  |nil=>exact no h
  |cons s' sr=>
   let#[h1,h2]:=band h;let#[h2,h3]:=band h2;exact w9 (WB c s ok h1) (w9 (WB d s' ok h2) (ze r sr ok h3))
|U,.chg c r,sts,X,T,E,ok,h=>by
 cases sts with
 |nil=>exact no h
 |cons s sr=>
  let#[h1,h2]:=band h;exact w9 (WB c s ok h1) (ze r sr ok h2)
end
end
def Iq(P:bM)(w:bL)(K:aa)(mg:Str->aaV S)(base:Heap)(k:L)(x:Str):G->Prop
|.val v=>∃u,mg x=Y u/\RelV v u
|.tup a xs=>mg x=Y (.ref a)/\Fg K a J xs
|.fn sp dvs=>(∃(f:Addr) (fd:fC) (ps:M Str) (ds:M S),iF P w K mg base (l9 P w) k f fd ps sp/\mg x=Y (.ref f)/\gS K (.ref f)=J/\Binds K fd ps ds/\bN dvs ds)
|.fh sp=>∃(f:Addr) (fd:fC) (ps:M Str),Wt P w K mg base k f fd ps sp/\mg x=Y (.ref f)/\gS K (.ref f)=J/\(Binds K fd ps []/\ps≠[])
|.lam _=>True
|.nop=>True
def Ck(P:bM)(w:bL)(K:aa)(mg:Str->aaV S)(base:Heap)(k:L):M Str->M G->Prop
|x::xs,g::gs=>Iq P w K mg base k x g/\Ck P w K mg base k xs gs
|_,_=>True
theorem Ck.get{w:bL}{K:aa}{mg:Str->aaV S}{base:Heap}{k:L}:∀{xs:M Str}{gs:M G},Ck P w K mg base k xs gs->∀(i:L) x g,xs[i]?=Y x->gs[i]?=Y g->Iq P w K mg base k x g
|[],_,_,i,x,g,h,_=>by simp at h
|_::_,[],_,i,x,g,_,h=>by simp at h
|x::xs,g::gs,a,0,y,g',h1,h2=>by
 simp at h1 h2;subst h1 h2;exact a.1
|x::xs,g::gs,a,i+1,y,g',h1,h2=>Ck.get a.2 i y g' (by simpa using h1) (by simpa using h2)
def Tq(K:aa)(mg:Str->aaV S)(fd:fC)(Pa:Addr):Prop:=(∃c,fd.code=.ref c/\CZ K c Pa=J)/\(Pa,fd.qualname++".<locals>."++"<lambda>")∈oS
section
variable{P:bM}{w:bL}{K:aa}{mg:Str->aaV S}{base:Heap}
def yg.okE{st:Stmt}{f:Addr}{fd:fC}{N ps:M Str}{k:L}{sp:Sp}(F:yg K x qual st f fd)(aaU:tB N ps (dP st))(len:∀vs H Q E,sp vs H Q E->vs.length=ps.length)(hbody:∀(cdv:S),fd.code=cdv->fd.qualname=qual->∀(A:cR) (outer:M Env) (s:ak) (H:Hp) (vs:M V) (Q:VK) (E:XK),k8 k (A.deeper (nS qual (dP st) s.heap.objs.size f cdv))->sp vs H Q E->
   ∃t,vV ((oA (l9 P w) P w K mg base N qual (dP st) f cdv A outer s H E).o6 (Ca (oA (l9 P w) P w K mg base N qual (dP st) f cdv A outer s H E) E)) (kH st) t/\t { nx:=λ_ H'=>Q .non H',rt:=Q } (start N vs) H):iF P w K mg base (l9 P w) (k+1) f fd ps sp:=by
 let#[oc,od,kV,doc,pm,an,cdv,ct,osl,rfl,lk,hcd]:=F.ex;refine abz lk hcd aaU len λA outer s H vs Q E hr hsp=>?_;let#[t,h,q]:=hbody cdv rfl rfl A outer s H vs Q E hr hsp;exact#[t,Z5 h,q]
def aaq{st:Stmt}{f:Addr}{fd:fC}{N ps gl bn:M Str}{k:L}{sp:Sp}{U:M G}(c:cE)(F:yg K x qual st f fd)(aaU:tB N ps (dP st))(hc:pF #[N,dP st,gl,bn,(λ_=>J),J,W] c (kH st)=J)(hg:Ck P w K mg base k gl U)(hl:∀(i:L) Pa,U[i]?=Y (.lam Pa)->Tq K mg fd Pa)(hb:∀x∈bn,mg x=B)(len:∀vs H Q E,sp vs H Q E->vs.length=ps.length)(h:∀vs H Q E,sp vs H Q E->wSs K U E c { nx:=λ_ H'=>Q .non H',rt:=Q } (start N vs) H):iF P w K mg base (l9 P w) (k+1) f fd ps sp:=by
 refine yg.okE F aaU len λcdv ecd eq A outer s H vs Q E hr hsp=>#[wSs K U E c,?_,h vs H Q E hsp];have ok:OkS ((oA (l9 P w) P w K mg base N qual (dP st) f cdv A outer s H E).o6 (Ca (oA (l9 P w) P w K mg base N qual (dP st) f cdv A outer s H E) E)) ⟨N,dP st,gl,bn,(λ_=>J),J,W⟩ U E:=by
  refine#[#[rfl,aaU.nd,rfl,aaU.kind,λi x g hx hg'=>?_,hb,λ_ _=>rfl,λ_=>rfl,(λz=>nomatch z),MJ (E:=E) (X:=oA (l9 P w) P w K mg base N qual (dP st) f cdv A outer s H E) rfl rfl,by have:=hr.un;show(A.deeper (nS qual (dP st) s.heap.objs.size f cdv)).units+60<eB;lia],λ_=>#[_,rfl,rfl,rfl,hr.hd]];have q:=hg.get i x g hx hg';cases g with
  |fn sp dvs=>
   let#[f,fd,ps,ds,q1,q2,q3,q4,q5]:=q
   ·exact .inl #[k,f,fd,ps,ds,q1,hr,q2,q3,q4,q5,XM]
  |fh sp=>
   let#[f,fd,ps,q1,q2,q3,q4]:=q;exact#[k,f,fd,ps,q1,#[rfl,hr.dp,hr.un],q2,q3,q4]
  |lam Pa=>
   let#[#[c,q1,q2],q5]:=hl i Pa hg';refine#[#[c,ecd.symm.trans q1,q2],?_,hr.depth,?_]
   ·rw[eq]at q5;exact q5
   ·have:=hr.un;show(A.deeper (nS qual (dP st) s.heap.objs.size f cdv)).units+80<eB
    lia
  |_=>exact q
 exact ze c _ ok hc
def iF.calm(F:iF P w K mg base (l9 P w) k f fd ps sp):iF P w K mg base Wk k f fd ps (λvs H Q _=>sp vs H Q E0):=
 #[λvs H Q E h=>F.len vs H Q E0 h,λA outer s H args us vs Q E hr he hb hv hs=>mJ (F.run A outer s H args us vs Q E0 hr he hb hv hs) λr s' q=>by
  cases r with
  |error v=>exact aJ q
  |ok fl=>cases fl<;>exact q]
end
end L3
end
section
namespace L3
open PySem L2
def lt1(a c:L):decide ([c]<[a])=decide (c<a):=by
 rw[Oc,Sl];simp
theorem len_str(x:Str):x.cps.toList.length=x.length:=by rfl
mutual
def bz(K:aa)(H F:Hp):D->V->M Addr->Prop
|.non,v,fp=>v=.non/\fp=[]
|.bl b,v,fp=>v=.bl b/\fp=[]
|.int i,v,fp=>v=.int i/\fp=[]
|.str x,v,fp=>(v=.str x/\x.length<=ah)/\fp=[]
|.lst o ds,v,fp=>if o=J then ∃a vs fs,v=.ref a/\H a=Y (.lst vs)/\vs.length<=ah/\aY K H F ds vs fs/\fp=a::fs else bg K F (.lst o ds) v/\fp=[]
|.tup ds,v,fp=>∃a vs,v=.ref a/\F a=Y (.tup vs)/\vs.length<=ah/\aY K H F ds vs fp
|.cst ds,v,fp=>bg K F (.cst ds) v/\fp=[]
|.adr a ds,v,fp=>bg K F (.adr a ds) v/\fp=[]
def aY(K:aa)(H F:Hp):M D->M V->M Addr->Prop
|[],vs,fp=>vs=[]/\fp=[]
|d::ds,vs,fp=>∃v r f1 f2,vs=v::r/\fp=f1++f2/\bz K H F d v f1/\aY K H F ds r f2
end
section
variable{K:aa}{H H' F F':Hp}
def fR.same'(e:aZ H H')(h:fR K H a t xs):fR K H' a t xs:=by
 rcases h with h|h
 ·refine .inl ?_;unfold ig at h ⊢;cases q:H a with
  |none=>rw[q]at h;cases h
  |some o=>rw[q]at h;rw[e a o q];exact h
 ·exact .inr h
def Rd.same(e:aZ H H')(h:Rd H a u):Rd H' a u:=by
 rcases h with h|⟨o,h⟩
 ·exact .inl (e _ _ h)
 ·exact .inr #[o,e _ _ h]
def Rd.seq(h:Rd H a (.lst xs)):fR K H a W xs:=by
 refine .inl ?_;unfold ig;rcases h with h|⟨o,h⟩<;>rw[h]
mutual
theorem bg.mono(e:aZ H H'):∀(d:D) (v:V),bg K H d v->bg K H' d v
|.non,v,h=>h
|.bl b,v,h=>h
|.int i,v,h=>h
|.str x,v,h=>h
|.lst o ds,v,h=>by
 let#[a,vs,h1,h2,h3,h4]:=h;exact#[a,vs,h1,Rd.same e h2,h3,aU.mono e ds vs h4]
|.tup ds,v,h=>by
 let#[a,vs,h1,h2,h3,h4]:=h;exact#[a,vs,h1,e _ _ h2,h3,aU.mono e ds vs h4]
|.cst ds,v,h=>by
 let#[a,vs,h1,h2,h3,h4]:=h;exact#[a,vs,h1,h2,h3,aU.mono e ds vs h4]
|.adr a ds,v,h=>by
 let#[vs,h1,h2,h3,h4]:=h;exact#[vs,h1,e _ _ h2,h3,aU.mono e ds vs h4]
theorem aU.mono(e:aZ H H'):∀(ds:M D) (vs:M V),aU K H ds vs->aU K H' ds vs
|[],vs,h=>h
|d::ds,vs,h=>by
 let#[v,r,h1,h2,h3]:=h;exact#[v,r,h1,bg.mono e d v h2,aU.mono e ds r h3]
end
mutual
theorem bg.bE:∀(d:D) (v:V),bg K F (bE d) v↔bg K F d v
|.non,v=>A_
|.bl b,v=>A_
|.int i,v=>A_
|.str x,v=>A_
|.lst o ds,v=>by
 constructor
 ·rintro⟨a,vs,h1,h2,h3,h4⟩;exact#[a,vs,h1,h2,h3,(aU.aF ds vs).mp h4]
 ·rintro⟨a,vs,h1,h2,h3,h4⟩;exact#[a,vs,h1,h2,h3,(aU.aF ds vs).mpr h4]
|.tup ds,v=>by
 constructor
 ·rintro⟨a,vs,h1,h2,h3,h4⟩;exact#[a,vs,h1,h2,h3,(aU.aF ds vs).mp h4]
 ·rintro⟨a,vs,h1,h2,h3,h4⟩;exact#[a,vs,h1,h2,h3,(aU.aF ds vs).mpr h4]
|.cst ds,v=>by
 constructor
 ·rintro⟨a,vs,h1,h2,h3,h4⟩;exact#[a,vs,h1,h2,h3,(aU.aF ds vs).mp h4]
 ·rintro⟨a,vs,h1,h2,h3,h4⟩;exact#[a,vs,h1,h2,h3,(aU.aF ds vs).mpr h4]
|.adr a ds,v=>by
 constructor
 ·rintro⟨vs,h1,h2,h3,h4⟩;exact#[vs,h1,h2,h3,(aU.aF ds vs).mp h4]
 ·rintro⟨vs,h1,h2,h3,h4⟩;exact#[vs,h1,h2,h3,(aU.aF ds vs).mpr h4]
theorem aU.aF:∀(ds:M D) (vs:M V),aU K F (aF ds) vs↔aU K F ds vs
|[],vs=>A_
|d::ds,vs=>by
 constructor
 ·rintro⟨v,r,h1,h2,h3⟩;exact#[v,r,h1,(bg.bE d v).mp h2,(aU.aF ds r).mp h3]
 ·rintro⟨v,r,h1,h2,h3⟩;exact#[v,r,h1,(bg.bE d v).mpr h2,(aU.aF ds r).mpr h3]
end
mutual
theorem bg.zf:∀(d:D) (v:V),bg K F d v->bz K H F (bE d) v []
|.non,v,h=>#[h,rfl]
|.bl b,v,h=>#[h,rfl]
|.int i,v,h=>#[h,rfl]
|.str x,v,h=>#[h,rfl]
|.lst o ds,v,h=>#[(bg.bE (.lst o ds) v).mpr h,rfl]
|.tup ds,v,h=>by
 let#[a,vs,h1,h2,h3,h4]:=h;exact#[a,vs,h1,h2,h3,aU.zf ds vs h4]
|.cst ds,v,h=>#[(bg.bE (.cst ds) v).mpr h,rfl]
|.adr a ds,v,h=>#[(bg.bE (.adr a ds) v).mpr h,rfl]
theorem aU.zf:∀(ds:M D) (vs:M V),aU K F ds vs->aY K H F (aF ds) vs []
|[],vs,h=>#[h,rfl]
|d::ds,vs,h=>by
 let#[v,r,h1,h2,h3]:=h;exact#[v,r,[],[],h1,rfl,bg.zf d v h2,aU.zf ds r h3]
end
mutual
theorem bz.mono(e:aZ F F'):∀(d:D) (v:V) (fp:M Addr),(∀a∈fp,H' a=H a)->bz K H F d v fp->bz K H' F' d v fp
|.non,v,fp,_,h=>h
|.bl b,v,fp,_,h=>h
|.int i,v,fp,_,h=>h
|.str x,v,fp,_,h=>h
|.lst o ds,v,fp,s,h=>by
 unfold bz at h ⊢;split at h
 ·rename_i ho;rw[aB ho];let#[a,vs,fs,h1,h2,h3,h4,rfl]:=h;exact#[a,vs,fs,h1,by rw[s a aj];exact h2,h3,aY.mono e ds vs fs (λb hb=>s b (ai _ hb)) h4,rfl]
 ·rename_i ho;rw[aD ho];exact#[bg.mono e _ v h.1,h.2]
|.tup ds,v,fp,s,h=>by
 let#[a,vs,h1,h2,h3,h4]:=h;exact#[a,vs,h1,e _ _ h2,h3,aY.mono e ds vs fp s h4]
|.cst ds,v,fp,s,h=>#[bg.mono e _ v h.1,h.2]
|.adr a ds,v,fp,s,h=>#[bg.mono e _ v h.1,h.2]
theorem aY.mono(e:aZ F F'):∀(ds:M D) (vs:M V) (fp:M Addr),(∀a∈fp,H' a=H a)->aY K H F ds vs fp->aY K H' F' ds vs fp
|[],vs,fp,_,h=>h
|d::ds,vs,fp,s,h=>by
 let#[v,r,f1,f2,h1,rfl,h3,h4]:=h;exact#[v,r,f1,f2,h1,rfl,bz.mono e d v f1 (λb hb=>s b (aX _ hb)) h3,aY.mono e ds r f2 (λb hb=>s b (aK _ hb)) h4]
end
mutual
theorem bz.fix(e:aZ F F'):∀(d:D) (v:V) (fp:M Addr),(∀a∈fp,F' a=H a)->bz K H F d v fp->bg K F' d v
|.non,v,fp,_,h=>h.1
|.bl b,v,fp,_,h=>h.1
|.int i,v,fp,_,h=>h.1
|.str x,v,fp,_,h=>h.1
|.lst o ds,v,fp,s,h=>by
 unfold bz at h;split at h
 ·let#[a,vs,fs,h1,h2,h3,h4,rfl]:=h;exact#[a,vs,h1,.inl (by rw[s a aj];exact h2),h3,aY.fix e ds vs fs (λb hb=>s b (ai _ hb)) h4]
 ·exact bg.mono e _ v h.1
|.tup ds,v,fp,s,h=>by
 let#[a,vs,h1,h2,h3,h4]:=h;exact#[a,vs,h1,e _ _ h2,h3,aY.fix e ds vs fp s h4]
|.cst ds,v,fp,s,h=>bg.mono e _ v h.1
|.adr a ds,v,fp,s,h=>bg.mono e _ v h.1
theorem aY.fix(e:aZ F F'):∀(ds:M D) (vs:M V) (fp:M Addr),(∀a∈fp,F' a=H a)->aY K H F ds vs fp->aU K F' ds vs
|[],vs,fp,_,h=>h.1
|d::ds,vs,fp,s,h=>by
 let#[v,r,f1,f2,h1,rfl,h3,h4]:=h;exact#[v,r,h1,bz.fix e d v f1 (λb hb=>s b (aX _ hb)) h3,aY.fix e ds r f2 (λb hb=>s b (aK _ hb)) h4]
end
def Ir:HO->Prop
|.lst _=>True
|.dK _=>True
|.dT _=>True
|.ins _ _ _=>True
|.own _=>True
|_=>aR
def Iu(F' F:Hp):Prop:=∀b o,F' b=Y o->F b=Y o\/Ir o
def Iu.tup{a:Addr}{xs:M V}(e:Iu F' F)(h:F' a=Y (.tup xs)):F a=Y (.tup xs):=by
 rcases e a _ h with z|z
 ·exact z
 ·exact z.elim
mutual
theorem bz.less(e:Iu F' F):∀(d:D) (v:V) (fp:M Addr),be d=J->bz K H F' d v fp->bz K H F d v fp
|.non,v,fp,_,h=>h
|.bl b,v,fp,_,h=>h
|.int i,v,fp,_,h=>h
|.str x,v,fp,_,h=>h
|.lst o ds,v,fp,s,h=>by
 have s':o=J/\c9 ds=J:=by simpa[be]using s
 unfold bz at h ⊢;rw[aB s'.1]at h ⊢;let#[a,vs,fs,h1,h2,h3,h4,rfl]:=h;exact#[a,vs,fs,h1,h2,h3,aY.less e ds vs fs s'.2 h4,rfl]
|.tup ds,v,fp,s,h=>by
 let#[a,vs,h1,h2,h3,h4]:=h;exact#[a,vs,h1,e.tup h2,h3,aY.less e ds vs fp s h4]
|.cst ds,v,fp,s,h=>by cases s
|.adr a ds,v,fp,s,h=>by cases s
theorem aY.less(e:Iu F' F):∀(ds:M D) (vs:M V) (fp:M Addr),c9 ds=J->aY K H F' ds vs fp->aY K H F ds vs fp
|[],vs,fp,_,h=>h
|d::ds,vs,fp,s,h=>by
 have s':be d=J/\c9 ds=J:=by simpa[c9]using s
 let#[v,r,f1,f2,h1,rfl,h3,h4]:=h;exact#[v,r,f1,f2,h1,rfl,bz.less e d v f1 s'.1 h3,aY.less e ds r f2 s'.2 h4]
end
theorem aU.len:∀{ds:M D}{vs:M V},aU K H ds vs->vs.length=ds.length
|[],_,h=>by cases h;rfl
|d::ds,_,h=>by
 let#[v,r,rfl,_,h3]:=h;simp[aU.len h3]
theorem aY.len:∀{ds:M D}{vs:M V}{fp:M Addr},aY K H F ds vs fp->vs.length=ds.length
|[],_,_,h=>by cases h.1;rfl
|d::ds,_,_,h=>by
 let#[v,r,_,_,rfl,_,_,h3]:=h;simp[aY.len h3]
theorem aU.get:∀{ds:M D}{vs:M V} (i:L) {d:D},aU K H ds vs->ds[i]?=Y d->∃v,vs[i]?=Y v/\bg K H d v
|[],_,i,_,_,e=>by simp at e
|d::ds,_,0,_,h,e=>by
 let#[v,r,rfl,h2,_]:=h;simp at e;subst e;exact#[v,rfl,h2]
|d::ds,_,i+1,_,h,e=>by
 let#[v,r,rfl,_,h3]:=h;let#[w,e1,e2]:=aU.get i h3 (by simpa using e);exact#[w,by simpa using e1,e2]
theorem aU.app:∀{ds ds':M D}{vs vs':M V},aU K H ds vs->aU K H ds' vs'->aU K H (ds++ds') (vs++vs')
|[],_,_,_,h,h'=>by cases h;exact h'
|d::ds,_,_,_,h,h'=>by
 let#[v,r,rfl,h2,h3]:=h;exact#[v,_,rfl,h2,aU.app h3 h']
theorem aY.app:∀{ds ds':M D}{vs vs':M V}{f f':M Addr},aY K H F ds vs f->aY K H F ds' vs' f'->aY K H F (ds++ds') (vs++vs') (f++f')
|[],_,_,_,_,_,h,h'=>by let#[rfl,rfl]:=h;exact h'
|d::ds,_,_,_,_,_,h,h'=>by
 let#[v,r,f1,f2,rfl,rfl,h2,h3]:=h;exact#[v,_,f1,_,rfl,by simp,h2,aY.app h3 h']
def aY.one(h:bz K H F d v fp):aY K H F [d] [v] fp:=#[v,[],fp,[],rfl,by simp,h,rfl,rfl]
end
inductive R (α:Type) where
|ok (a:α)|ex (x:D)|bad
noncomputable def R.bind{α β:Type}:R α->(α->R β)->R β
|.ok a,f=>f a
|.ex x,_=>.ex x
|.bad,_=>.bad
noncomputable def R.opt{α:Type}:aaV α->R α
|some a=>.ok a
|none=>.bad
noncomputable def R.f6{α:Type}:R α->R α
|.ok a=>.ok a
|_=>.bad
noncomputable def R.bI{α:Type}(b:Bool)(r:R α):R α:=match b with
|true=>r
|false=>.bad
instance (i j:Int):GA (vB i j):=by unfold vB;infer_instance
instance (i j:Int):GA (xg i j):=by unfold xg;infer_instance
instance (i j:Int):GA (HH i j):=by unfold HH;infer_instance
noncomputable def keyD:D->aaV Key
|.int i=>Y (.inl i)
|.str x=>Y (.inr x)
|_=>B
def WC:M D->aaV (M Key)
|[]=>Y []
|d::r=>(keyD d).bind λk=>(WC r).map (k::·)
def Z1:D->aaV (M Key)
|.tup xs=>WC xs
|_=>B
noncomputable def getK{κ:Type}[kj κ]:M κ->M D->κ->aaV D
|k::ks,d::ds,q=>if k=q then Y d else getK ks ds q
|_,_,_=>B
noncomputable def Dp(z:Str)(n:L):Str:=⟨(a8 n z.cps.toList).flatten.toArray⟩
noncomputable def jc:D->Bool
|.non=>J
|_=>W
noncomputable def nZ:D->Bool
|.bl _=>J
|_=>W
noncomputable def pJ:D->Bool
|.bl J=>J
|_=>W
noncomputable def rG:D->Bool
|.int _=>J
|_=>W
noncomputable def k9:M D->aaV (M Str)
|[]=>Y []
|.str x::r=>(k9 r).map (x::·)
|_::_=>B
noncomputable def xA:M D->aaV (M Int)
|[]=>Y []
|.int x::r=>(xA r).map (x::·)
|_::_=>B
def Tt(m:Mt)(xs:M D)(k:Int):R D:=match m with
|.index=>(R.opt (xA xs)).bind λns=>.bI (decide (k∈ns)) (.ok (.int (ns.idxOf k)))
|_=>.bad
def fG(op:x_)(x y:D):R D:=match x,y with
|.int i,.int j=>match op with
 |.Add=>.ok (.int (i+j))
 |.Sub=>.ok (.int (i-j))
 |.Mult=>.bI (decide (vB i j)) (.ok (.int (i*j)))
 |.FloorDiv=>.bI (decide (xg i j)) (.ok (.int (i / j)))
 |.Mod=>.bI (decide (0<j)) (.ok (.int (i%j)))
 |.RShift=>.bI (decide (0<=j)) (.ok (.int (i / 2 ^ j.toNat)))
 |.Pow=>.bI (decide (HH i j)) (.ok (.int (i ^ j.toNat)))
 |_=>.bad
|.str i,.str j=>match op with
 |.Add=>.bI (decide (i.length+j.length<=ah)) (.ok (.str (i++j)))
 |_=>.bad
|.str i,.int j=>match op with
 |.Mult=>.bI (decide (0<=j/\j<2 ^ 40/\i.length*j.toNat<=ah)) (.ok (.str (Dp i j.toNat)))
 |_=>.bad
|.lst _ xs,.lst _ ys=>match op with
 |.Add=>.bI (decide (xs.length+ys.length<=ah)) (.ok (.lst J (aF xs++aF ys)))
 |_=>.bad
|.tup xs,.tup ys=>match op with
 |.Add=>.bI (!xs.isEmpty&&!ys.isEmpty&&decide (xs.length+ys.length<=ah)) (.ok (.tup (aF xs++aF ys)))
 |_=>.bad
|.lst _ xs,.int k=>match op with
 |.Mult=>.bI (decide ((-(2 ^ 63)<=k/\k<2 ^ 63)/\xs.length*k.toNat<=ah)) (.ok (.lst J (a8 k.toNat (aF xs)).flatten))
 |_=>.bad
|_,_=>.bad
noncomputable def aar(op:yb)(x y:D):R D:=match x,y with
|.int i,.int j=>match op with
 |.Lt=>.ok (.bl (decide (i<j)))
 |.LtE=>.ok (.bl (decide (i<=j)))
 |.Gt=>.ok (.bl (decide (j<i)))
 |.GtE=>.ok (.bl (decide (j<=i)))
 |_=>.bad
|.str i,.str j=>match op with
 |.Lt=>.ok (.bl (decide (i.cps.toList<j.cps.toList)))
 |.LtE=>.ok (.bl (!decide (j.cps.toList<i.cps.toList)))
 |_=>.bad
|_,_=>.bad
def inD(x y:D):R Bool:=match y with
|.lst _ ys=>.bI (dY x&&kJ ys) (.ok (memD x ys))
|.tup ys=>.bI (dY x&&kJ ys) (.ok (memD x ys))
|.cst ys=>.bI (dY x&&kJ ys) (.ok (memD x ys))
|_=>.bad
def cA(op:yb)(x y:D):R D:=match op with
|.Eq=>.bI (dY x&&dY y) (.ok (.bl (jP x y)))
|.NotEq=>.bI (dY x&&dY y) (.ok (.bl (!jP x y)))
|.Is=>.bI (jc y) (.ok (.bl (jc x)))
|.IsNot=>.bI (jc y) (.ok (.bl (!jc x)))
|.In=>(inD x y).bind λb=>.ok (.bl b)
|.NotIn=>(inD x y).bind λb=>.ok (.bl (!b))
|op=>aar op x y
noncomputable def jl:D->R Bool
|.bl b=>.ok b
|.non=>.ok W
|.int i=>.ok (i != 0)
|.str z=>.ok (z.length != 0)
|.lst _ xs=>.ok (!xs.isEmpty)
|.tup xs=>.ok (!xs.isEmpty)
|.cst _=>.bad
|.adr _ _=>.bad
def vY(x y:D):R D:=match x with
|.str z=>match y with
 |.int i=>(R.opt (fQ z.cps.toList i)).bind λc=>.ok (.str ⟨#[c]⟩)
 |_=>.bad
|.lst _ xs=>match y with
 |.int i=>(R.opt (fQ xs i)).bind λd=>.ok (bE d)
 |_=>.bad
|.tup xs=>match y with
 |.int i=>(R.opt (fQ xs i)).bind λd=>.ok (bE d)
 |_=>.bad
|_=>.bad
def Ly(x:D)(lo hi:aaV Int):R D:=match x with
|.str z=>.ok (.str ⟨(cut z.cps.toList lo hi).toArray⟩)
|.lst _ xs=>.ok (.lst J (aF (cut xs lo hi)))
|.tup xs=>match lo,hi with
 |some n,B=>.bI (decide (1<=n/\n<=xs.length)) (.ok (.tup (aF (xs.drop n.toNat))))
 |_,_=>.bad
|_=>.bad
def Tu(x:D)(lo hi:aaV Int)(k:Int):R D:=match x with
|.lst _ xs=>.bI (decide (k≠0)&&decide ((o8 xs lo hi k).length<=ah)) (.ok (.lst J (aF (o8 xs lo hi k))))
|_=>.bad
def abV:M D->aaV (M (M Key))
|[]=>Y []
|d::r=>(Z1 d).bind λk=>(abV r).map (k::·)
def kK(f:Bf)(vs:M D):R D:=match vs with
|[x]=>match f with
 |.len=>match x with
  |.str z=>.ok (.int z.length)
  |.lst _ xs=>.ok (.int xs.length)
  |.tup xs=>.ok (.int xs.length)
  |_=>.bad
 |.all=>match x with
  |.lst _ xs=>.bI (xs.all nZ) (.ok (.bl (xs.all pJ)))
  |_=>.bad
 |.any=>match x with
  |.lst _ xs=>.bI (xs.all nZ) (.ok (.bl (xs.any pJ)))
  |_=>.bad
 |.int=>match x with
  |.int i=>.ok (.int i)
  |.bl b=>.ok (.int (if b then 1 else 0))
  |.str z=>.bI (decide (z.length<=640)) ((R.opt (intText? z)).bind λn=>.ok (.int n))
  |_=>.bad
 |.str=>match x with
  |.int i=>.bI (decide (i.natAbs.log2<1920)&&decide ((nA i).length<=ah)) (.ok (.str (nA i)))
  |_=>.bad
 |.abs=>match x with
  |.int i=>.ok (.int (if i<0 then -i else i))
  |_=>.bad
 |_=>.bad
|[x,y]=>match x,y with
 |.int i,.int j=>match f with
  |.min=>.ok (.int (if j<i then j else i))
  |_=>.bad
 |_,_=>.bad
|_=>.bad
noncomputable def iW(t:Ty):D->Bool
|.non=>W
|.bl _=>decide (t=.bool)||decide (t=.int)
|.int _=>decide (t=.int)
|.str _=>decide (t=.str)
|.lst _ _=>decide (t=.list)||decide (t=.none)
|.tup _=>decide (t=.tuple)||decide (t=.none)
|.cst _=>decide (t=.tuple)||decide (t=.none)
|.adr _ _=>decide (t=.list)||decide (t=.none)
def gX:D->Bool
|_=>J
def tY(c:L)(l:M L):M D:=(bZ c l).map λp=>D.str (strOf p)
def kL(m:Mt)(x:D)(vs:M D):R D:=match x with
|.str z=>match vs with
 |[y]=>match y with
  |.str q=>match m with
   |.startswith=>.ok (.bl (q.cps.toList.isPrefixOf z.cps.toList))
   |.split=>.bI (decide (q.length=1)&&decide (z.length+2<=ah)) (.ok (.lst J (tY (q.cps.getD 0 0) z.cps.toList)))
   |.index=>.bI (decide (q.length=1)&&decide ((q.cps.getD 0 0)∈z.cps.toList)) (.ok (.int (z.cps.toList.idxOf (q.cps.getD 0 0))))
   |_=>.bad
  |.lst _ ys=>match m with
   |.join=>(R.opt (k9 ys)).bind λss=>.bI (decide ((ss.map (·.length)).sum+ss.length*z.length<=ah)) (.ok (.str (dU z ss)))
   |_=>.bad
  |_=>.bad
 |[]=>match m with
  |.split=>.bI (decide ((iL z).length<=ah)&&(iL z).all λw=>decide (w.length<=ah)) (.ok (.lst J ((iL z).map D.str)))
  |_=>.bad
 |_=>.bad
|.lst _ xs=>match vs with
 |[y]=>match y with
  |.int k=>Tt m xs k
  |_=>.bad
 |_=>.bad
|_=>.bad
abbrev bh:=M (aaV D)
inductive PG where
|val (d:D)
|fn (m:M D->R D) (dds:M D)
|fh (m:M D->R D)
|fe (m:M D->R D)
|lam
|fm (m:M D->R D)
|nop
inductive Fl where
|nx (O:bh)|rt (d:D)|bk (O:bh)|ct (O:bh)|ex (x:D)|bad
noncomputable def R.a_{α:Type}:R α->(α->Fl)->Fl
|.ok a,f=>f a
|.ex x,_=>.ex x
|.bad,_=>.bad
noncomputable def R.jR{α:Type}(b:Bool):R α->(α->Fl)->Fl
|.ok a,f=>f a
|.ex x,_=>match b with
 |true=>.ex x
 |false=>.bad
|.bad,_=>.bad
noncomputable def zg:V->R D
|.non=>.ok .non
|.bl b=>.ok (.bl b)
|.int i=>.ok (.int i)
|.str x=>.ok (.str x)
|_=>.bad
noncomputable def vZ(z:Str):M D:=z.cps.toList.map λc=>D.str ⟨#[c]⟩
noncomputable def jX(lo:Int)(n:L):M D:=(bH n).map λ(i:L)=>D.int (lo+(i:Int))
noncomputable def nB:M D->M D->M D
|x::xs,y::ys=>.tup [x,y]::nB xs ys
|_,_=>[]
def uR:M D->R (Bool×M D)
|[.lst _ xs,.lst _ ys]=>.ok (W,nB (aF xs) (aF ys))
|[.tup xs,.tup ys]=>.ok (W,nB (aF xs) (aF ys))
|_=>.bad
noncomputable def gj:L->M D->M D
|_,[]=>[]
|n,x::r=>.tup [.int (n:Int),x]::gj (n+1) r
def qQ:D->R (M D)
|.str z=>.ok (vZ z)
|.lst _ xs=>.ok (aF xs)
|.adr _ xs=>.ok (aF xs)
|.tup xs=>.ok (aF xs)
|_=>.bad
def pK:M D->R (M D)
|[.int j]=>.bI (decide (-(2 ^ 62)<=j/\j.toNat<=ah)) (.ok (jX 0 j.toNat))
|[.int i,.int j]=>.bI (decide (-(2 ^ 62)<=i/\i<2 ^ 62/\-(2 ^ 62)<=j/\j<2 ^ 62/\(j-i).toNat<=ah)) (.ok (jX i (j-i).toNat))
|_=>.bad
noncomputable def ee(g:D->bh->R bh)(c:bh->R Bool)(e:bh->R D):M D->bh->R (M D)
|[],_=>.ok []
|d::r,O=>(g d O).bind fun σ2=>(c σ2).bind λb=>if b=J then(e σ2).bind λy=>(ee g c e r σ2).bind λys=>.ok (y::ys)else ee g c e r σ2
noncomputable def forR(g:D->bh->R bh)(b:bh->Fl):M D->bh->Fl
|[],O=>.nx O
|d::r,O=>(g d O).a_ fun σ2=>match b σ2 with
 |.nx σ3=>forR g b r σ3
 |.ct σ3=>forR g b r σ3
 |.bk σ3=>.nx σ3
 |.rt d=>.rt d
 |.ex x=>.ex x
 |.bad=>.bad
noncomputable def vE(c:bh->R Bool)(b:bh->Fl):L->bh->Fl
|0,_=>.bad
|n+1,O=>(c O).a_ λk=>if k=J then match b O with
 |.nx σ3=>vE c b n σ3
 |.ct σ3=>vE c b n σ3
 |.bk σ3=>.nx σ3
 |.rt d=>.rt d
 |.ex x=>.ex x
 |.bad=>.bad
 else .nx O
def Es:D->aaV Str
|.str x=>Y x
|.int i=>if i.natAbs.log2<1920 then Y (nA i)else B
|_=>B
def Pe(O:bh):M (Str×L)->Str->aaV Str
|[],a=>Y a
|p::r,a=>match O[p.2]? with
 |some (Y d)=>(Es d).bind λy=>Pe O r (a++p.1++y)
 |_=>B
def Dq:D->R D
|.lst _ ds=>match k9 ds with
 |some ss=>.bI (decide (ss.length<4000)) (.ok (.int (pe ss).length))
 |none=>.bad
|_=>.bad
mutual
noncomputable def pE(U:M PG):CE->bh->R D
|.var i=>λO=>match O[i]? with
 |some (Y d)=>.ok (bE d)
 |_=>.bad
|.con v=>λ_=>zg v
|.glo g=>λ_=>match U[g]? with
 |some (.val d)=>.ok (bE d)
 |_=>.bad
|.bin op a b=>λO=>(pE U a O).bind λx=>(pE U b O).bind λy=>fG op x y
|.nset a=>λO=>(pE U a O).bind λx=>Dq x
|.neg a=>λO=>(pE U a O).bind λx=>match x with
 |.int i=>.ok (.int (-i))
 |_=>.bad
|.not a=>λO=>(pE U a O).bind λx=>(jl x).bind λb=>.ok (.bl (!b))
|.and a b=>λO=>(pE U a O).bind λx=>match x with
 |.bl c=>if c=J then pE U b O else .ok (.bl W)
 |_=>.bad
|.or a b=>λO=>(pE U a O).bind λx=>match x with
 |.bl c=>if c=J then .ok (.bl J)else pE U b O
 |_=>.bad
|.ite c a b=>λO=>(pT U c O).bind λk=>if k=J then pE U a O else pE U b O
|.cmp op a b=>λO=>(pE U a O).bind λx=>(pE U b O).bind λy=>cA op x y
|.chain o1 o2 a b c=>λO=>(pE U a O).bind λx=>(pE U b O).bind λy=>(cA o1 x y).bind λz=>match z with
 |.bl k=>if k=J then(pE U c O).bind λu=>cA o2 y u else .ok (.bl W)
 |_=>.bad
|.call g as=>λO=>match U[g]? with
 |some (.fn m dds)=>(fH U as O).bind λds=>m (aF ds++dds)
 |_=>.bad
|.blt f as=>λO=>(fH U as O).bind λds=>kK f ds
|.isi a t=>λO=>(pE U a O).bind λx=>.bI (gX x) (.ok (.bl (iW t x)))
|.mth m o as=>λO=>(pE U o O).bind λx=>(fH U as O).f6.bind λds=>kL m x ds
|.ix a b=>λO=>(pE U a O).bind λx=>(pE U b O).bind λy=>vY x y
|.sl a lo hi=>λO=>(pE U a O).bind λx=>(pO U lo O).bind λl=>(pO U hi O).bind λh=>Ly x l h
|.lst as=>λO=>(fH U as O).bind λds=>.bI (decide (ds.length<=ah)) (.ok (.lst J ds))
|.tup as=>λO=>(fH U as O).bind λds=>.bI (decide (ds.length<=ah)) (.ok (.tup ds))
|.comp nl fr elt tg src cond=>λO=>(pI U src O).bind λitems=>(ee (pG tg) (pC U cond) (pE U elt) items.2 (nl.map (λ_=>B)++fr.map (λi=>O.getD i B))).f6.bind λds=>.ok (.lst J ds)
|.slp a lo hi k=>λO=>(pE U a O).bind λx=>(pO U lo O).bind λl=>(pO U hi O).bind λh=>Tu x l h k
noncomputable def pT(U:M PG):CE->bh->R Bool
|.not a=>λO=>(pT U a O).bind λb=>.ok (!b)
|.and a b=>λO=>(pT U a O).bind λc=>if c=J then pT U b O else .ok W
|.or a b=>λO=>(pT U a O).bind λc=>if c=J then .ok J else pT U b O
|.ite c a b=>λO=>(pT U c O).bind λk=>if k=J then pT U a O else pT U b O
|.cmp op a b=>λO=>(pE U a O).bind λx=>(pE U b O).bind λy=>(cA op x y).bind λz=>match z with
 |.bl k=>.ok k
 |_=>.bad
|.chain o1 o2 a b c=>λO=>(pE U a O).bind λx=>(pE U b O).bind λy=>(cA o1 x y).bind λz=>match z with
 |.bl k=>if k=J then(pE U c O).bind λu=>(cA o2 y u).bind λz=>match z with
  |.bl k=>.ok k
  |_=>.bad
  else .ok W
 |_=>.bad
|.var i=>λO=>match O[i]? with
 |some (Y d)=>jl d
 |_=>.bad
|.ix a b=>λO=>((pE U a O).bind λx=>(pE U b O).bind λy=>vY x y).bind jl
|.call g as=>λO=>match U[g]? with
 |some (.fn m dds)=>((fH U as O).bind λds=>m (aF ds++dds)).bind jl
 |_=>.bad
|.blt f as=>λO=>((fH U as O).bind λds=>kK f ds).bind jl
|.isi a t=>λO=>(pE U a O).bind λx=>.bI (gX x) (.ok (iW t x))
|.mth m o as=>λO=>(pE U o O).bind λx=>(fH U as O).f6.bind λds=>(kL m x ds).bind jl
|_=>λ_=>.bad
noncomputable def fH(U:M PG):ja->bh->R (M D)
|.nil=>λ_=>.ok []
|.cons a r=>λO=>(pE U a O).bind λx=>(fH U r O).bind λxs=>.ok (x::xs)
noncomputable def pO(U:M PG):CO->bh->R (aaV Int)
|.none=>λ_=>.ok B
|.some a=>λO=>(pE U a O).bind λx=>match x with
 |.int i=>.ok (Y i)
 |_=>.bad
noncomputable def pC(U:M PG):CO->bh->R Bool
|.none=>λ_=>.ok J
|.some a=>pT U a
noncomputable def pG:CG->D->bh->R bh
|.name i=>λd O=>.ok (O.set i (Y d))
|.tup gs=>λd O=>match d with
 |.tup ds=>.bI (decide (ds.length=gs.len)) (yi gs ds O)
 |_=>.bad
|.sub _ _=>λ_ _=>.bad
noncomputable def yi:rF->M D->bh->R bh
|.nil=>λds O=>match ds with
 |[]=>.ok O
 |_=>.bad
|.cons g r=>λds O=>match ds with
 |d::dr=>(pG g d O).bind fun σ'=>yi r dr σ'
 |_=>.bad
noncomputable def pI(U:M PG):CI->bh->R (Bool×M D)
|.seq a=>λO=>(pE U a O).bind λx=>(qQ x).bind λds=>.ok (be x,ds)
|.range as=>λO=>(fH U as O).bind λxs=>(pK xs).bind λds=>.ok (J,ds)
|.zip as=>λO=>(fH U as O).bind λxs=>uR xs
|.enum a=>λO=>(pE U a O).bind λx=>match x with
 |.lst _ xs=>.ok (be x,gj 0 (aF xs))
 |_=>.bad
end
mutual
noncomputable def cX:CE->Bool
|.con v=>match v with
 |.str x=>decide (x.length<=ah)
 |_=>J
|.bin _ a b=>cX a&&cX b
|.nset a=>cX a
|.neg a=>cX a
|.not a=>cX a
|.and a b=>cX a&&cX b
|.or a b=>cX a&&cX b
|.ite c a b=>cX c&&(cX a&&cX b)
|.cmp _ a b=>cX a&&cX b
|.chain _ _ a b c=>cX a&&(cX b&&cX c)
|.call _ as=>iX as
|.blt _ as=>iX as
|.isi a _=>cX a
|.mth _ o as=>cX o&&iX as
|.ix a b=>cX a&&cX b
|.sl a lo hi=>cX a&&(Iw lo&&Iw hi)
|.lst as=>iX as
|.tup as=>iX as
|.comp _ _ elt _ src cond=>cX elt&&(ltI src&&Iw cond)
|.slp a lo hi _=>cX a&&(Iw lo&&Iw hi)
|_=>J
noncomputable def iX:ja->Bool
|.nil=>J
|.cons a r=>cX a&&iX r
noncomputable def Iw:CO->Bool
|.none=>J
|.some a=>cX a
noncomputable def ltI:CI->Bool
|.seq a=>cX a
|.range as=>iX as
|.zip as=>iX as
|.enum a=>cX a
end
noncomputable def xh:Bf->ja->Bool
|.len,.cons (.var _) .nil=>J
|_,_=>W
mutual
noncomputable def cL:CE->M L
|.var i=>[i]
|.con _=>[]
|.glo _=>[]
|.bin _ a b=>cL a++cL b
|.nset a=>cL a
|.neg a=>cL a
|.not a=>cL a
|.and a b=>cL a++cL b
|.or a b=>cL a++cL b
|.ite c a b=>cL c++(cL a++cL b)
|.cmp _ a b=>cL a++cL b
|.chain _ _ a b c=>cL a++(cL b++cL c)
|.call _ as=>jm as
|.blt f as=>if xh f as=J then[]else jm as
|.isi a _=>cL a
|.mth _ o as=>cL o++jm as
|.ix a b=>cL a++cL b
|.sl a lo hi=>cL a++(Iz lo++Iz hi)
|.lst as=>jm as
|.tup as=>jm as
|.comp _ fr _ _ src _=>qG src++fr
|.slp a lo hi _=>cL a++(Iz lo++Iz hi)
noncomputable def jm:ja->M L
|.nil=>[]
|.cons a r=>cL a++jm r
noncomputable def Iz:CO->M L
|.none=>[]
|.some a=>cL a
noncomputable def qG:CI->M L
|.seq a=>cL a
|.range as=>jm as
|.zip as=>jm as
|.enum a=>cL a
end
def NT:aaV HO->Prop
|none=>True
|some (.tup _)=>True
|_=>aR
def NT.of(h:o=B):NT o:=by rw[h];trivial
def NT.own(h:NT o)(e:o=Y u)(k:Ir u):aR:=by
 subst e;cases u<;>first|exact h.elim|exact k.elim
structure bS (F H F' H':Hp):Prop where
 h:aZ H H'
 f:aZ F F'
 s:aZ F' H'
 n:∀b o,F' b=Y o->F b=B->NT (H b)
structure iu (fp:M Addr) (H F':Hp):Prop where
 nd:fp.Nodup
 nh:∀a∈fp,H a=B
 nf:∀a∈fp,F' a=B
section
variable{K:aa}{H H1 H2 F F1 F2:Hp}
def bS.refl(s:aZ F H):bS F H F H:=#[aZ.refl _,aZ.refl _,s,λb o h h'=>by rw[h]at h';cases h']
def aZ.none(e:aZ H H1)(h:H1 a=B):H a=B:=by
 cases q:H a with
 |none=>rfl
 |some o=>rw[e a o q]at h;cases h
def NT.back(e:aZ H H1)(h:NT (H1 a)):NT (H a):=by
 cases q:H a with
 |none=>trivial
 |some o=>rw[e a o q]at h;exact h
def bS.trans(g:bS F H F1 H1)(g':bS F1 H1 F2 H2):bS F H F2 H2:=#[g.h.trans g'.h,g.f.trans g'.f,g'.s,λb o h h'=>by
 cases q:F1 b with
 |none=>exact NT.back g.h (g'.n b o h q)
 |some u=>exact g.n b u q h']
def iu.nil:iu [] H F:=#[di,λ_ h=>aG h aP,λ_ h=>aG h aP]
mutual
theorem bz.ex:∀(d:D) (v:V) (fp:M Addr),bz K H F d v fp->∀a∈fp,∃o,H a=Y o/\Ir o
|.non,v,fp,h=>by rw[h.2];intro a ha;cases ha
|.bl b,v,fp,h=>by rw[h.2];intro a ha;cases ha
|.int i,v,fp,h=>by rw[h.2];intro a ha;cases ha
|.str x,v,fp,h=>by rw[h.2];intro a ha;cases ha
|.lst o ds,v,fp,h=>by
 unfold bz at h;split at h
 ·let#[a,vs,fs,h1,h2,h3,h4,rfl]:=h;intro b hb;rcases aM.mp hb with rfl|hb
  ·exact#[_,h2,trivial]
  ·exact aY.ex ds vs fs h4 b hb
 ·rw[h.2];intro a ha;cases ha
|.tup ds,v,fp,h=>by
 let#[a,vs,h1,h2,h3,h4]:=h;exact aY.ex ds vs fp h4
|.cst ds,v,fp,h=>by rw[h.2];intro a ha;cases ha
|.adr _ ds,v,fp,h=>by rw[h.2];intro a ha;cases ha
theorem aY.ex:∀(ds:M D) (vs:M V) (fp:M Addr),aY K H F ds vs fp->∀a∈fp,∃o,H a=Y o/\Ir o
|[],vs,fp,h=>by rw[h.2];intro a ha;cases ha
|d::ds,vs,fp,h=>by
 let#[v,r,f1,f2,h1,rfl,h3,h4]:=h;intro a ha;rcases a6.mp ha with ha|ha
 ·exact bz.ex d v f1 h3 a ha
 ·exact aY.ex ds r f2 h4 a ha
end
noncomputable def adopt(F H:Hp)(fp:M Addr):Hp:=λb=>if b∈fp then H b else F b
def jC(h:a∈fp):adopt F H fp a=H a:=aB h
def jY(h:a∉fp):adopt F H fp a=F a:=aD h
def c_(s:aZ F H):aZ F (adopt F H fp):=λb o h=>by
 by_cases q:b∈fp
 ·rw[jC q];exact s b o h
 ·rw[jY q];exact h
def dZ(s:aZ F H):aZ (adopt F H fp) H:=λb o h=>by
 by_cases q:b∈fp
 ·rw[jC q]at h;exact h
 ·rw[jY q]at h;exact s b o h
def sM(g:bS F H F1 H1)(n:∀a∈fp,H a=B):bS F H (adopt F1 H1 fp) H1:=#[g.h,g.f.trans (c_ g.s),dZ g.s,λb o h h'=>by
 by_cases q:b∈fp
 ·exact .of (n b q)
 ·rw[jY q]at h;exact g.n b o h h']
def MX(g:bS F H F1 H1)(fr:iu fp H F1)(r:bz K H1 F1 d v fp):∃F2,bS F H F2 H1/\aZ F1 F2/\bg K F2 d v:=
 #[adopt F1 H1 fp,sM g fr.nh,c_ g.s,bz.fix (c_ g.s) d v fp (λ_ ha=>jC ha) r]
def Dr(g:bS F H F1 H1)(fr:iu fp H F1)(r:aY K H1 F1 ds vs fp):∃F2,bS F H F2 H1/\aZ F1 F2/\aU K F2 ds vs:=
 #[adopt F1 H1 fp,sM g fr.nh,c_ g.s,aY.fix (c_ g.s) ds vs fp (λ_ ha=>jC ha) r]
def carry(g:bS F1 H1 F2 H2)(fr:iu fp H F1)(r:bz K H1 F1 d v fp):bz K H2 F2 d v fp/\(∀a∈fp,F2 a=B):=by
 refine#[bz.mono g.f d v fp (λa ha=>?_) r,λa ha=>?_]
 ·let#[o,e,_]:=bz.ex d v fp r a ha;rw[e,g.h a o e]
 ·let#[o,e,k]:=bz.ex d v fp r a ha;cases q:F2 a with
  |none=>rfl
  |some u=>exact((g.n a u q (fr.nf a ha)).own e k).elim
def aas(g:bS F1 H1 F2 H2)(fr:iu fp H F1)(r:aY K H1 F1 ds vs fp):aY K H2 F2 ds vs fp/\(∀a∈fp,F2 a=B):=by
 refine#[aY.mono g.f ds vs fp (λa ha=>?_) r,λa ha=>?_]
 ·let#[o,e,_]:=aY.ex ds vs fp r a ha;rw[e,g.h a o e]
 ·let#[o,e,k]:=aY.ex ds vs fp r a ha;cases q:F2 a with
  |none=>rfl
  |some u=>exact((g.n a u q (fr.nf a ha)).own e k).elim
def iu.app(s:aZ H H1)(a1:iu f1 H F1)(e1:∀a∈f1,∃o,H1 a=Y o)(k1:∀a∈f1,F2 a=B)(a2:iu f2 H1 F2):iu (f1++f2) H F2:=by
 refine#[bP.mpr #[a1.nd,a2.nd,λa h1 b h2 z=>?_],λa ha=>?_,λa ha=>?_]
 ·subst z;let#[o,e]:=e1 a h1;rw[a2.nh a h2]at e;cases e
 ·rcases a6.mp ha with h|h
  ·exact a1.nh a h
  ·exact aZ.none s (a2.nh a h)
 ·rcases a6.mp ha with h|h
  ·exact k1 a h
  ·exact a2.nf a h
def newList{vs:M V}(s:aZ F H)(hp:H p=B):bS F H F (upd H p o)/\F p=B:=by
 have hf:=aZ.none s hp;refine#[#[λb u q=>by rw[bf (bX q hp)];exact q,aZ.refl _,λb u q=>by rw[bf (bX q hf)];exact s b u q,λb o h h'=>by rw[h]at h';cases h'],hf]
def v5(s:aZ F H)(hp:H p=B):bS F H (upd F p o) (upd H p o):=by
 have hf:=aZ.none s hp;refine#[λb u q=>by rw[bf (bX q hp)];exact q,λb u q=>by rw[bf (bX q hf)];exact q,λb u q=>?_,λb u q q'=>?_]
 ·by_cases e:b=p
  ·subst e;rw[dF]at q ⊢;exact q
  ·rw[bf e]at q ⊢;exact s b u q
 ·by_cases e:b=p
  ·subst e;exact .of hp
  ·rw[bf e]at q;rw[q]at q';cases q'
end
class Ex where
 E:XK
def kM[Ex](K:aa)(F H:Hp)(x:D):Prop:=match x with
|_=>aR
def kM.grow[Ex]{K:aa}{F H F1 H1:Hp}{x:D}(h:kM K F H x)(g:bS F H F1 H1):kM K F1 H1 x:=by
 cases x with
 |_=>exact h
def PV[Ex](K:aa)(F H:Hp)(r:R D)(Q:VK):Prop:=match r with
|.ok d=>∀F' H' v fp,bS F H F' H'->iu fp H F'->bz K H' F' d v fp->Q v H'
|.ex x=>kM K F H x
|.bad=>aR
def zh[Ex](K:aa)(F H:Hp)(r:R (M D))(Q:M V->Hp->Prop):Prop:=match r with
|.ok ds=>∀F' H' vs fp,bS F H F' H'->iu fp H F'->aY K H' F' ds vs fp->Q vs H'
|.ex x=>kM K F H x
|.bad=>aR
def PB[Ex]{α:Type}(K:aa)(F H:Hp)(r:R α)(Q:α->Hp->Prop):Prop:=match r with
|.ok b=>∀F' H',bS F H F' H'->Q b H'
|.ex x=>kM K F H x
|.bad=>aR
def WD(K:aa)(F:Hp)(d:D):Item->Prop
|.v x=>bg K F d x
|.tup xs=>∃ds,d=.tup ds/\aU K F ds xs/\xs.length<=ah
def lQ(K:aa)(F:Hp):M D->M Item->Prop
|[],its=>its=[]
|d::ds,its=>∃it r,its=it::r/\WD K F d it/\lQ K F ds r
noncomputable def minus(F:Hp)(A:M Addr):Hp:=λb=>if b∈A then B else F b
def sO(own:Bool)(F:Hp)(A:M Addr):Hp:=if own=J then minus F A else F
def PI'[Ex](K:aa)(A:M Addr)(F H:Hp)(r:R (Bool×M D))(k:(Hp->Prop)->M Item->Hp->Prop):Prop:=match r with
|.ok ds=>∀F' H' ok its,bS F H F' H'->(∀H'',aZ (sO ds.1 F' A) H''->ok H'')->lQ K (sO ds.1 F' A) ds.2 its->ds.2.length<=ah->k ok its H'
|.ex x=>kM K F H x
|.bad=>aR
def Tv(K:aa)(H:Hp)(σd:bh)(O:L2.St):Prop:=∀(k:L) d,σd[k]?=Y (Y d)->∃v F',O[k]?=Y (Y v)/\aZ F' H/\bg K F' d v
structure jo (K:aa) (F H:Hp) (is:M L) (σd:bh) (O:L2.St):Prop where
 e:∀i∈is,∀d,σd[i]?=Y (Y d)->∃v,O[i]?=Y (Y v)/\bg K F d v
 n:Tv K H σd O
def Ds(K:aa)(m:M D->R D):Sp:=λvs H Q E=>∃F ds,aZ F H/\aF ds=ds/\aU K F ds vs/\@PV ⟨E⟩ K F H (m ds) Q
def spM(K:aa)(m:M D->R D):Sp:=λvs H Q E=>∃F ds vr H0 a us es,vs=vr++[.ref a]/\H=upd H0 a (.lst us)/\H0 a=B/\us.length<=ah/\aZ F H0/\aF ds=ds/\aU K F ds vr/\aY K H F es us []/\@PV ⟨E⟩ K F H0 (m (ds++[.lst J es])) Q
def Tw(K:aa):PG->G->Prop
|.val d,.val v=>bg K (λ_=>B) d v
|.val d,.tup a _=>bg K (λ_=>B) d (.ref a)
|.fn m dds,.fn sp dvs=>(∀vs H Q E,Ds K m vs H Q E->sp vs H Q E)/\aF dds=dds/\aU K (λ_=>B) dds dvs
|.fh m,.fh sp=>∀vs H Q E,Ds K m vs H Q E->sp vs H Q E
|.fe _,.fn _ _=>True
|.lam,.lam _=>True
|.fm m,.fn sp dvs=>dvs=[]/\∀vs H Q E,spM K m vs H Q E->sp vs H Q E
|.nop,.nop=>True
|_,_=>aR
def dc(K:aa):M PG->M G->Prop
|p::ps,gs=>∃g r,gs=g::r/\Tw K p g/\dc K ps r
|[],_=>True
theorem dc.get:∀{ps:M PG}{gs:M G} (i:L) {p:PG},dc K ps gs->ps[i]?=Y p->∃g,gs[i]?=Y g/\Tw K p g
|[],_,i,_,_,e=>by simp at e
|p::ps,_,0,_,h,e=>by
 let#[g,r,rfl,h2,_]:=h;simp at e;subst e;exact#[g,rfl,h2]
|p::ps,_,i+1,_,h,e=>by
 let#[g,r,rfl,_,h3]:=h;let#[w,e1,e2]:=dc.get i h3 (by simpa using e);exact#[w,by simpa using e1,e2]
def IA(K:aa)(Γp:M PG)(U:M G)(H0:Hp):Prop:=∀(g:L) (m:M D->R D),Γp[g]?=Y (.fe m)->∃(e:Addr) (sp0:Sp) (C:Addr) (od:aaV Addr),U[g]?=Y (.fn (spE e sp0) [])/\H0 e=Y (Z6 W e C od)/\∀vs H Q E,Ds K m vs H Q E->sp0 vs H Q E
def gQ(h:b∉A):minus F A b=F b:=aD h
def Cn(h:b∈A):minus F A b=B:=aB h
theorem Fw(F:Hp):minus F []=F:=by rfl
def Fy(o:Bool)(F:Hp):sO o F []=F:=by unfold sO;rw[Fw];split<;>rfl
def kY(F:Hp)(A:M Addr):aZ (minus F A) F:=λb o h=>by
 by_cases q:b∈A
 ·rw[Cn q]at h;cases h
 ·rw[gQ q]at h;exact h
def Fz(o:Bool)(F:Hp)(A:M Addr):aZ (sO o F A) F:=by
 unfold sO;split
 ·exact kY F A
 ·exact aZ.refl F
def oU(H:Hp)(A:M Addr):Prop:=∀a∈A,∃o,H a=Y o/\Ir o
def mX(s:aZ F H)(h:oU H A):Iu F (minus F A):=λb o q=>by
 by_cases z:b∈A
 ·let#[u,e,k]:=h b z;rw[s b o q]at e;cases e;exact .inr k
 ·exact .inl (by rw[gQ z];exact q)
def oU.mono(s:aZ H H')(h:oU H A):oU H' A:=λa ha=>by
 let#[o,e,k]:=h a ha;exact#[o,s a o e,k]
def aau(hA:oU H A)(g:bS F H F1 H1)(fr:iu fp H F1)(r:bz K H1 F1 d v fp):∃F2,bS F H F2 H1/\bg K (sO (be d) F2 A) d v:=by
 have g2:=sM g fr.nh;refine#[adopt F1 H1 fp,g2,?_];unfold sO;by_cases ho:be d=J
 ·rw[aB ho];have r2:=bz.less (mX g.s (hA.mono g.h)) d v fp ho r;refine bz.fix ?_ d v fp ?_ r2
  ·intro b o q;by_cases z:b∈A
   ·rw[Cn z]at q;cases q
   ·rw[gQ z]at q ⊢;exact c_ g.s b o q
  ·intro a ha;have z:a∉A:=λz=>by
    let#[o,e,_]:=hA a z;rw[fr.nh a ha]at e;cases e
   rw[gQ z,jC ha]
 ·rw[aD ho];exact bz.fix (c_ g.s) d v fp (λ_ ha=>jC ha) r
section
variable{K:aa}{H H1 F F1:Hp}{σd:bh}{O:L2.St}
def jo.l(h:jo K F H (a++b) σd O):jo K F H a σd O:=#[λi hi=>h.e i (aX _ hi),h.n]
def jo.r(h:jo K F H (a++b) σd O):jo K F H b σd O:=#[λi hi=>h.e i (aK _ hi),h.n]
def jo.mono(h:jo K F H a σd O)(g:bS F H F1 H1):jo K F1 H1 a σd O:=#[λi hi d hd=>by
 let#[v,h1,h2]:=h.e i hi d hd;exact#[v,h1,bg.mono g.f d v h2],λk d e=>by
 let#[v,F',h1,h2,h3]:=h.n k d e;exact#[v,F',h1,h2.trans g.h,h3]]
def PV.int[Ex](h:PV K F H (.ok (.int n)) Q)(s:aZ F H):PV K F' H (.ok (.int n)) Q:=λF2 H2 v fp g fr r=>by
 let#[rfl,rfl]:=r;exact h F H2 _ [] #[g.h,aZ.refl _,s.trans g.h,λb o q q'=>by rw[q]at q';cases q'] .nil #[rfl,rfl]
def PV.grow[Ex](h:PV K F H r Q)(g:bS F H F1 H1):PV K F1 H1 r Q:=by
 cases r with
 |ok d=>exact λF' H' v fp g' fr rx=>h F' H' v fp (g.trans g') #[fr.nd,λa ha=>aZ.none g.h (fr.nh a ha),fr.nf] rx
 |ex x=>exact kM.grow (K:=K) (x:=x) h g
 |bad=>exact h
def PB.grow[Ex]{α:Type}{r:R α}{Q:α->Hp->Prop}(h:PB K F H r Q)(g:bS F H F1 H1):PB K F1 H1 r Q:=by
 cases r with
 |ok d=>exact λF' H' g'=>h F' H' (g.trans g')
 |ex x=>exact kM.grow (K:=K) (x:=x) h g
 |bad=>exact h
def PV.here[Ex](h:PV K F H (.ok (bE d)) Q)(s:aZ F H)(r:bg K F d v):Q v H:=h F H v [] (bS.refl s) .nil (bg.zf d v r)
def PV.flat[Ex](h:PV K F H (.ok d) Q)(s:aZ F H)(r:bz K H F d v []):Q v H:=h F H v [] (bS.refl s) .nil r
def kO{α:Type}{r:R α}{a:α}(h:R.bI b r=.ok a):b=J/\r=.ok a:=by
 cases b with
 |true=>exact#[rfl,h]
 |false=>cases h
def PV.bI[Ex](h:PV K F H (R.bI b r) Q):b=J/\PV K F H r Q:=by
 cases b with
 |true=>exact#[rfl,h]
 |false=>exact h.elim
def PB.bI[Ex]{α:Type}{b:Bool}{r:R α}{Q:α->Hp->Prop}(h:PB K F H (R.bI b r) Q):b=J/\PB K F H r Q:=by
 cases b with
 |true=>exact#[rfl,h]
 |false=>exact h.elim
end
theorem szl:ah=16777216:=by rfl
theorem v7(x:Str):x.cps.toList.length=x.length:=by rfl
theorem jd(l:M L):(⟨l.toArray⟩:Str).length=l.length:=by rfl
def Pf(l:M L):(strOf l).length=l.length:=by simp[strOf,m9]
theorem IB(z:Str):∀ss:M Str,(dU z ss).length<=(ss.map (·.length)).sum+ss.length*z.length
|[]=>by show(0:L)<=_;lia
|[x]=>by simp[dU]
|x::y::r=>by
 have ih:=IB z (y::r);show(x++z++dU z (y::r)).length<=_;rw[sG,sG];simp only[dm,G5,aT,Kd]at ih ⊢
 lia
def MY(z:Str)(n:L):(Dp z n).length=z.length*n:=by
 unfold Dp;rw[jd];induction n with
 |zero=>simp
 |succ n ih=>rw[cI,eK,ao,ih,v7,Ke,Kf]
def Lz{α:Type}(l:M α)(lo hi:aaV Int):(cut l lo hi).length<=l.length:=by
 unfold cut;rw[lE,fE]
 lia
theorem sP(c:L):∀(l:M L),(∀p∈bZ c l,p.length<=l.length)/\(bZ c l).length<=l.length+1
|[]=>by
 constructor
 ·intro p hp;simp[bZ]at hp;subst hp;simp
 ·simp[bZ]
|x::r=>by
 let#[h1,h2]:=sP c r;unfold bZ;by_cases e:x=c
 ·rw[aB e];constructor
  ·intro p hp;rcases aM.mp hp with rfl|hp
   ·simp
   ·have:=h1 p hp;simp;lia
  ·simp;omega
 ·rw[aD e];cases q:bZ c r with
  |nil=>simp
  |cons h t=>
   rw[q]at h1 h2;constructor
   ·intro p hp;rcases aM.mp hp with rfl|hp
    ·have:=h1 h aj;simp;omega
    ·have:=h1 p (ai _ hp);simp;lia
   ·simp at h2 ⊢;lia
def tD{α:Type}{xs:M α}{i:Int}{x:α}(h:fQ xs i=Y x):∃j,gO xs.length i=Y j/\xs[j]?=Y x:=by
 unfold fQ at h;cases q:gO xs.length i with
 |none=>simp_all
 |some j=>simp_all
def tZ{α:Type}{xs:M α}{i:Int}{j:L}{x:α}(h:gO xs.length i=Y j)(e:xs[j]?=Y x):fQ xs i=Y x:=by
 unfold fQ;rw[h];exact e
def R.bQ{α:Type}(r:R α):Prop:=∀x,r≠.ex x
def bQ.ok{α:Type}{a:α}:(R.ok a).bQ:=λ_ h=>by cases h
def bQ.bad{α:Type}:(R.bad:R α).bQ:=λ_ h=>by cases h
def bQ.opt{α:Type}{o:aaV α}:(R.opt o).bQ:=λ_ h=>by cases o<;>cases h
def bQ.bI{α:Type}{b:Bool}{r:R α}(n:r.bQ):(R.bI b r).bQ:=λx h=>by
 cases b with
 |true=>exact n x h
 |false=>cases h
def bQ.bind{α β:Type}{r:R α}{f:α->R β}(n:r.bQ)(k:∀a,(f a).bQ):(r.bind f).bQ:=λx h=>by
 cases r with
 |ok a=>exact k a x h
 |ex y=>exact n y rfl
 |bad=>cases h
def bQ.f6{α:Type}(r:R α):r.f6.bQ:=λx h=>by cases r<;>cases h
def LA(x y:D):(inD x y).bQ:=by unfold inD;(repeat' (first|exact bQ.ok|exact bQ.bad|exact bQ.opt|exact bQ.f6 _|refine bQ.bI ?_|(refine bQ.bind ?_ λ_=>?_)|split))
def xB(x:D):(jl x).bQ:=by unfold jl;(repeat' (first|exact bQ.ok|exact bQ.bad|exact bQ.opt|exact bQ.f6 _|refine bQ.bI ?_|(refine bQ.bind ?_ λ_=>?_)|split))
def Et(x y:D):(vY x y).bQ:=by unfold vY;(repeat' (first|exact bQ.ok|exact bQ.bad|exact bQ.opt|exact bQ.f6 _|refine bQ.bI ?_|(refine bQ.bind ?_ λ_=>?_)|split))
def Tz(x:D):(qQ x).bQ:=by unfold qQ;(repeat' (first|exact bQ.ok|exact bQ.bad|exact bQ.opt|exact bQ.f6 _|refine bQ.bI ?_|(refine bQ.bind ?_ λ_=>?_)|split))
def TF(xs:M D):(pK xs).bQ:=by unfold pK;(repeat' (first|exact bQ.ok|exact bQ.bad|exact bQ.opt|exact bQ.f6 _|refine bQ.bI ?_|(refine bQ.bind ?_ λ_=>?_)|split))
def TH(m:Mt)(xs:M D)(k:Int):(Tt m xs k).bQ:=by unfold Tt;(repeat' (first|exact bQ.ok|exact bQ.bad|exact bQ.opt|exact bQ.f6 _|refine bQ.bI ?_|(refine bQ.bind ?_ λ_=>?_)|split))
def t6(m:Mt)(x:D)(ds:M D):(kL m x ds).bQ:=by unfold kL;(repeat' (first|exact TH _ _ _|exact bQ.ok|exact bQ.bad|exact bQ.opt|exact bQ.f6 _|refine bQ.bI ?_|(refine bQ.bind ?_ λ_=>?_)|split))
section
variable{K:aa}{H H0 F F0:Hp}
def FA(r:bg K F x v):decide (v=.non)=jc x:=by
 cases x with
 |non=>rw[show v=.non from r];rfl
 |bl b=>rw[show v=.bl b from r];rfl
 |int i=>rw[show v=.int i from r];rfl
 |str z=>rw[show v=.str z from r.1];rfl
 |lst o ds=>let#[a,vs,rfl,_]:=r;rfl
 |tup ds=>let#[a,vs,rfl,_]:=r;rfl
 |cst ds=>let#[a,vs,rfl,_]:=r;rfl
 |adr a ds=>let#[vs,rfl,_]:=r;rfl
def Pg(r:bg K F x v)(h:jc x=J):v=.non:=by
 cases x<;>first|exact r|(cases h)
theorem qR:∀(xs ys:M D),aF (xs++ys)=aF xs++aF ys
|[],_=>rfl
|x::r,ys=>by show bE x::aF (r++ys)=_;rw[qR r ys];rfl
theorem jD:∀xs:M D,(aF xs).length=xs.length
|[]=>rfl
|x::r=>by show(aF r).length+1=_;rw[jD r];rfl
def PV.lst[Ex]{ds:M D}{vs:M V}{Q:VK}{p:Addr}(h:PV K F H (.ok (.lst J (aF ds))) Q)(s:aZ F H)(r:aU K F ds vs)(hl:vs.length<=ah)(hp:H p=B):Q (.ref p) (upd H p (.lst vs)):=by
 let#[g,hf]:=newList (vs:=vs) s hp;refine h F _ (.ref p) [p] g #[by simp,?_,?_] ?_
 ·simp_all
 ·simp_all
 ·unfold bz;rw[aB rfl];exact#[p,vs,[],rfl,dF,hl,aU.zf ds vs r,rfl]
def PV.tup[Ex]{ds:M D}{vs:M V}{Q:VK}{p:Addr}(h:PV K F H (.ok (.tup (aF ds))) Q)(s:aZ F H)(r:aU K F ds vs)(hl:vs.length<=ah)(hp:H p=B):Q (.ref p) (upd H p (.tup vs)):=by
 have g:=v5 (o:=.tup vs) s hp;refine h _ _ (.ref p) [] g .nil ?_;exact#[p,vs,rfl,dF,hl,aU.zf ds vs (aU.mono g.f ds vs r)]
theorem IC:∀(n:L) {ds:M D}{vs:M V},aU K F ds vs->aU K F (a8 n ds).flatten (a8 n vs).flatten
|0,_,_,_=>rfl
|n+1,ds,vs,r=>by
 rw[cI,cI,eK,eK];exact aU.app r (IC n r)
def TJ(n:L)(xs:M D):(a8 n (aF xs)).flatten=aF (a8 n xs).flatten:=by
 induction n with
 |zero=>rfl
 |succ n ih=>rw[cI,cI,eK,eK,qR,ih]
def abW[Ex](s:aZ F H)(rx:bg K F x v)(ry:bg K F y u)(h:PV K F H (fG op x y) Q):SS K op v u H Q:=by
 cases x with
 |int i=>
  cases rx;cases y with
  |int j=>
   cases ry;cases op<;>first|exact h.elim|exact h.flat s ⟨rfl,rfl⟩|(let#[c,h]:=h.bI;exact#[aq c,h.flat s #[rfl,rfl]])
  |_=>exact h.elim
 |str z=>
  let#[rfl,hz]:=rx;cases y with
  |int j=>
   cases ry;cases op<;>first|exact h.elim|skip
   let#[c,h]:=h.bI;have c:=aq c;exact#[c,h.flat s #[#[rfl,by rw[MY];exact c.2.2],rfl]]
  |str q=>
   let#[rfl,hq]:=ry;cases op<;>first|exact h.elim|skip
   let#[c,h]:=h.bI;have c:=aq c;exact#[c,h.flat s #[#[rfl,by rw[sG];exact c],rfl]]
  |_=>exact h.elim
 |lst o xs=>
  let#[a,vs,rfl,h2,h3,h4]:=rx;cases y with
  |lst o' ys=>
   let#[b,us,rfl,k2,k3,k4]:=ry;cases op<;>first|exact h.elim|skip
   let#[c,h]:=h.bI;have c:=aq c;rw[<-h4.len,<-k4.len]at c;rw[<-qR]at h;exact .inl #[vs,us,Rd.same s h2,Rd.same s k2,c,λp hp=>h.lst s (h4.app k4) (by rw[ao];exact c) hp]
  |int k=>
   cases ry;cases op<;>first|exact h.elim|skip
   let#[c,h]:=h.bI;have c:=aq c;rw[<-h4.len]at c;rw[TJ]at h;refine#[vs,Rd.same s h2,c.1,c.2,λp hp=>h.lst s (IC _ h4) ?_ hp];have z:∀n,(a8 n vs).flatten.length=vs.length*n:=by
    intro n;induction n with
    |zero=>rfl
    |succ n ih=>rw[cI,eK,ao,ih,Ke,Kf]
   rw[z];exact c.2
  |_=>exact h.elim
 |tup xs=>
  let#[a,vs,rfl,h2,h3,h4]:=rx;cases y with
  |tup ys=>
   let#[b,us,rfl,k2,k3,k4]:=ry;cases op<;>first|exact h.elim|skip
   let#[c,h]:=h.bI;simp only[cU,cK,Bo,List.isEmpty_eq_false_iff]at c;let#[#[c1,c2],c3]:=c;rw[<-h4.len,<-k4.len]at c3;rw[<-qR]at h;refine .inr #[vs,us,(tupS h2).same' s,(tupS k2).same' s,?_,?_,c3,λp hp=>h.tup s (h4.app k4) (by rw[ao];exact c3) hp]
   ·rintro rfl;exact c1 (ir (by rw[<-h4.len];rfl))
   ·rintro rfl;exact c2 (ir (by rw[<-k4.len];rfl))
  |_=>exact h.elim
 |_=>exact h.elim
def okIn(s:aZ F H)(rx:bg K F x v)(ry:bg K F y u)(h:inD x y=.ok b){Q:Bool->Prop}(q:Q b):∃a,u=.ref a/\((∃t xs dx ds,fR K H a t xs/\bg K H dx v/\aU K H ds xs/\dY dx=J/\kJ ds=J/\Q (memD dx ds))\/(∃kvs k,Rd H a (.dK kvs)/\v=kV k/\Q (jQ kvs k).isSome)\/∃kvs k b,Rd H a (.dT kvs)/\v=.ref b/\H b=Y (.tup (k.map kV))/\Q (jQ kvs k).isSome):=by
 cases y with
 |lst o ys=>
  let#[a,us,rfl,k2,k3,k4]:=ry;let#[c,e]:=kO h;cases e;have c:dY x=J/\kJ ys=J:=by simpa using c
  exact#[a,rfl,.inl #[W,us,x,ys,(Rd.seq k2).same' s,bg.mono s _ _ rx,aU.mono s _ _ k4,c.1,c.2,q]]
 |tup ys=>
  let#[a,us,rfl,k2,k3,k4]:=ry;let#[c,e]:=kO h;cases e;have c:dY x=J/\kJ ys=J:=by simpa using c
  exact#[a,rfl,.inl #[J,us,x,ys,(tupS k2).same' s,bg.mono s _ _ rx,aU.mono s _ _ k4,c.1,c.2,q]]
 |cst ys=>
  let#[a,us,rfl,k2,k3,k4]:=ry;let#[c,e]:=kO h;cases e;have c:dY x=J/\kJ ys=J:=by simpa using c
  exact#[a,rfl,.inl #[J,us,x,ys,.inr k2,bg.mono s _ _ rx,aU.mono s _ _ k4,c.1,c.2,q]]
 |adr a ys=>cases h
 |_=>cases h
def AV[Ex](s:aZ F H)(rx:bg K F x v)(ry:bg K F y u)(h:PV K F H (cA op x y) Q):nv K op v u H Q:=by
 have ord:(op=.Lt\/op=.LtE\/op=.Gt\/op=.GtE)->PV K F H (aar op x y) Q->nv K op v u H Q:=by
  intro ho h;cases x with
  |int i=>
   cases rx;cases y with
   |int j=>
    cases ry;rcases ho with rfl|rfl|rfl|rfl<;>exact h.flat s #[rfl,rfl]
   |_=>exact h.elim
  |str z=>
   let#[rfl,_]:=rx;cases y with
   |str j=>
    let#[rfl,_]:=ry;rcases ho with rfl|rfl|rfl|rfl<;>first|exact h.flat s ⟨rfl,rfl⟩|exact h.elim
   |_=>exact h.elim
  |_=>exact h.elim
 cases op with
 |Lt=>exact ord (.inl rfl) h
 |LtE=>exact ord (.inr (.inl rfl)) h
 |Gt=>exact ord (.inr (.inr (.inl rfl))) h
 |GtE=>exact ord (.inr (.inr (.inr rfl))) h
 |Eq=>
  let#[c,h]:=h.bI;have c:dY x=J/\dY y=J:=by simpa using c
  exact#[x,y,bg.mono s _ _ rx,bg.mono s _ _ ry,c.1,c.2,h.flat s #[rfl,rfl]]
 |NotEq=>
  let#[c,h]:=h.bI;have c:dY x=J/\dY y=J:=by simpa using c
  exact#[x,y,bg.mono s _ _ rx,bg.mono s _ _ ry,c.1,c.2,h.flat s #[rfl,rfl]]
 |Is=>
  let#[c,h]:=h.bI;rw[Pg ry c];show Q (.bl (decide (v=.non))) H;rw[FA rx];exact h.flat s #[rfl,rfl]
 |IsNot=>
  let#[c,h]:=h.bI;rw[Pg ry c];show Q (.bl (!decide (v=.non))) H;rw[FA rx];exact h.flat s #[rfl,rfl]
 |In=>
  have h:PV K F H ((inD x y).bind λb=>.ok (.bl b)) Q:=h;cases e:inD x y with
  |ok b=>
   rw[e]at h;let#[a,rfl,z]:=okIn s rx ry e (Q:=λb=>Q (.bl b) H) (h.flat s #[rfl,rfl]);exact z
  |ex z=>exact aG e (LA x y z)
  |bad=>rw[e]at h;exact h.elim
 |NotIn=>
  have h:PV K F H ((inD x y).bind λb=>.ok (.bl (!b))) Q:=h;cases e:inD x y with
  |ok b=>
   rw[e]at h;let#[a,rfl,z]:=okIn s rx ry e (Q:=λb=>Q (.bl (!b)) H) (h.flat s #[rfl,rfl]);exact z
  |ex z=>exact aG e (LA x y z)
  |bad=>rw[e]at h;exact h.elim
def Bv{α β:Type}{xs:M α}{ys:M β}(h:xs.length=ys.length):xs.isEmpty=ys.isEmpty:=by
 cases xs<;>cases ys<;>first|rfl|(simp at h)
def MZ{Q:Bool->Prop}(s:aZ F H)(rx:bg K F x v)(h:jl x=.ok b)(q:Q b):ny K v H Q:=by
 cases x with
 |non=>cases rx;cases h;exact q
 |bl k=>cases rx;cases h;exact q
 |int i=>cases rx;cases h;exact q
 |str z=>let#[rfl,hz]:=rx;cases h;exact#[hz,q]
 |lst o ds=>
  let#[a,vs,rfl,h2,h3,h4]:=rx;cases h;exact .inl #[W,vs,(Rd.seq h2).same' s,by show Q (!vs.isEmpty);rw[Bv h4.len];exact q]
 |tup ds=>
  let#[a,vs,rfl,h2,h3,h4]:=rx;cases h;exact .inl #[J,vs,(tupS h2).same' s,by show Q (!vs.isEmpty);rw[Bv h4.len];exact q]
 |cst ds=>cases h
 |adr a ds=>cases h
def cJ{α β:Type}{r:R α}{f:α->R β}{b:β}(h:r.bind f=.ok b):∃a,r=.ok a/\f a=.ok b:=by
 cases r with
 |ok a=>exact#[a,rfl,h]
 |ex x=>cases h
 |bad=>cases h
def v8{α:Type}{o:aaV α}{a:α}(h:R.opt o=.ok a):o=Y a:=by
 cases o with
 |none=>cases h
 |some b=>cases h;rfl
def PV.some[Ex]{r:R D}{Q:VK}(h:PV K F H r Q)(n:r.bQ):∃d,r=.ok d:=by
 cases r with
 |ok d=>exact#[d,rfl]
 |ex x=>exact aG rfl (n x)
 |bad=>exact h.elim
def aav[Ex]{x y:D}{v u:V}{Q:VK}(s:aZ F H)(rx:bg K F x v)(ry:bg K F y u)(h:PV K F H (vY x y) Q):HY K v u H Q:=by
 let#[d,e]:=h.some (by first|exact Et _ _|exact t6 _ _ _|(repeat' (first|exact bQ.ok|exact bQ.bad|exact bQ.opt|exact bQ.f6 _|refine bQ.bI ?_|(refine bQ.bind ?_ λ_=>?_)|split)));rw[e]at h;have hs:=szl;cases x with
 |str z=>
  let#[rfl,hz]:=rx;cases y with
  |int i=>
   cases ry;let#[c,e1,e2]:=cJ e;cases e2;exact#[hz,c,v8 e1,h.flat s #[#[rfl,by show(1:L)<=_;lia],rfl]]
  |_=>cases e
 |lst o ds=>
  let#[a,vs,rfl,h2,h3,h4]:=rx;cases y with
  |int i=>
   cases ry;let#[c,e1,e2]:=cJ e;cases e2;let#[j,i1,i2]:=tD (v8 e1);let#[w,w1,w2]:=h4.get j i2;exact .inl #[W,vs,i,w,rfl,(Rd.seq h2).same' s,tZ (by rw[h4.len];exact i1) w1,h.here s w2]
  |_=>cases e
 |tup ds=>
  let#[a,vs,rfl,h2,h3,h4]:=rx;cases y with
  |int i=>
   cases ry;let#[c,e1,e2]:=cJ e;cases e2;let#[j,i1,i2]:=tD (v8 e1);let#[w,w1,w2]:=h4.get j i2;exact .inl #[J,vs,i,w,rfl,(tupS h2).same' s,tZ (by rw[h4.len];exact i1) w1,h.here s w2]
  |_=>cases e
 |_=>cases e
def aU.cut:∀{ds:M D}{vs:M V},aU K F ds vs->∀lo hi,aU K F (L3.cut ds lo hi) (L3.cut vs lo hi):=by
 have dr:∀(n:L) {ds:M D}{vs:M V},aU K F ds vs->aU K F (ds.drop n) (vs.drop n):=by
  intro n;induction n with
  |zero=>intro ds vs h;exact h
  |succ n ih=>
   intro ds vs h;cases ds with
   |nil=>cases h;exact rfl
   |cons d ds=>
    let#[v,r,rfl,_,h3]:=h;exact ih h3
 have tk:∀(n:L) {ds:M D}{vs:M V},aU K F ds vs->aU K F (ds.take n) (vs.take n):=by
  intro n;induction n with
  |zero=>intro ds vs h;exact rfl
  |succ n ih=>
   intro ds vs h;cases ds with
   |nil=>cases h;exact rfl
   |cons d ds=>
    let#[v,r,rfl,h2,h3]:=h;exact#[v,_,rfl,h2,ih h3]
 intro ds vs h lo hi;unfold L3.cut;rw[h.len];exact tk _ (dr _ h)
def okSl[Ex](s:aZ F H)(rx:bg K F x v)(h:PV K F H (Ly x lo hi) Q):Wm K v lo hi H Q:=by
 cases x with
 |str z=>
  let#[rfl,hz]:=rx;refine#[hz,h.flat s #[#[rfl,?_],rfl]];rw[jd];have:=Lz z.cps.toList lo hi;rw[v7]at this
  lia
 |lst o ds=>
  let#[a,vs,rfl,h2,h3,h4]:=rx;exact .inl #[W,vs,(Rd.seq h2).same' s,rfl,λp hp=>h.lst s (h4.cut lo hi) (fJ (Lz _ _ _) h3) hp]
 |tup ds=>
  let#[a,vs,rfl,h2,h3,h4]:=rx;cases lo with
  |none=>exact h.elim
  |some n=>
   cases hi with
   |some _=>exact h.elim
   |none=>
    let#[c,h]:=h.bI;have c:=aq c;have en:((n.toNat:L):Int)=n:=by lia
    have dr:∀(n:L) {ds:M D}{vs:M V},aU K F ds vs->aU K F (ds.drop n) (vs.drop n):=by
     intro n;induction n with
     |zero=>intro ds vs h;exact h
     |succ n ih=>
      intro ds vs h;cases ds with
      |nil=>cases h;exact rfl
      |cons d ds=>
       let#[v,r,rfl,_,h3]:=h;exact ih h3
    have hl:=h4.len;exact .inr #[n.toNat,vs,(tupS h2).same' s,by rw[en],rfl,by lia,by lia,λp hp=>h.tup s (dr n.toNat h4) (by rw[fE];lia) hp]
 |_=>exact h.elim
theorem aU.pick(h:aU K F ds vs):∀is:M L,aU K F (is.filterMap (ds[·]?)) (is.filterMap (vs[·]?))
|[]=>rfl
|i::is=>by
 have hl:=h.len;cases e:ds[i]? with
 |none=>
  have:vs[i]?=B:=by
   rw[sZ]at e ⊢;lia
  rw[jK e,jK this];exact aU.pick h is
 |some d=>
  let#[v,e1,e2]:=h.get i e;rw[jJ e,jJ e1];exact#[v,_,rfl,e2,aU.pick h is]
def abX[Ex](s:aZ F H)(rx:bg K F x v)(h:PV K F H (Tu x lo hi k) Q):SV K v lo hi k H Q:=by
 cases x with
 |lst o ds=>
  let#[a,vs,rfl,h2,h3,h4]:=rx;let#[c,h]:=h.bI;simp only[cU,cK]at c;have r:aU K F (o8 ds lo hi k) (o8 vs lo hi k):=by
   unfold o8;rw[h4.len];exact h4.pick _
  have hz:(o8 vs lo hi k).length<=ah:=by rw[r.len];exact c.2
  exact#[W,vs,(Rd.seq h2).same' s,rfl,#[c.1,hz],λp hp=>h.lst s r hz hp]
 |_=>exact h.elim
theorem zj:∀{ds:M D}{vs:M V},aU K F ds vs->ds.all nZ=J->xj vs=J/\vs.all o9=ds.all pJ/\vs.any o9=ds.any pJ
|[],_,h,_=>by cases h;exact#[rfl,rfl,rfl]
|d::ds,_,h,e=>by
 let#[v,r,rfl,h2,h3]:=h;have e':nZ d=J/\ds.all nZ=J:=by simpa using e
 let#[i1,i2,i3]:=zj h3 e'.2;cases d with
 |bl b=>
  cases h2;refine#[by show(J&&xj r)=J;rw[i1];rfl,?_,?_]
  ·rw[yH,yH,i2];cases b<;>rfl
  ·rw[yG,yG,i3];cases b<;>rfl
 |_=>exact aG e'.1 bq
theorem zm:∀{ds:M D}{vs:M V}{ss:M Str},aU K F ds vs->k9 ds=Y ss->vs=ss.map V.str
|[],_,_,h,e=>by cases h;cases e;rfl
|d::ds,_,ss,h,e=>by
 let#[v,r,rfl,h2,h3]:=h;cases d with
 |str z=>
  have e:(k9 ds).map (z::·)=Y ss:=e;cases q:k9 ds with
  |none=>rw[q]at e;cases e
  |some s2=>
   rw[q]at e;cases e;rw[zm h3 q,h2.1];rfl
 |_=>cases e
theorem FE:∀{ds:M D}{vs:M V}{ss:M Int},aU K F ds vs->xA ds=Y ss->vs=ss.map V.int
|[],_,_,h,e=>by cases h;cases e;rfl
|d::ds,_,ss,h,e=>by
 let#[v,r,rfl,h2,h3]:=h;cases d with
 |int z=>
  have e:(xA ds).map (z::·)=Y ss:=e;cases q:xA ds with
  |none=>rw[q]at e;cases e
  |some s2=>
   rw[q]at e;cases e;rw[FE h3 q,h2];rfl
 |_=>cases e
def M0[Ex](s:aZ F H)(r:aU K F ds vs)(h:PV K F H (kK f ds) Q):xm K f vs H Q:=by
 match ds,r,h with
 |[],_,h=>exact h.elim
 |[x],r,h=>
  let#[v,r',rfl,rx,e]:=r;cases e;cases f with
  |len=>
   cases x with
   |str z=>let#[rfl,hz]:=rx;exact#[hz,h.flat s #[rfl,rfl]]
   |lst o ds=>
    let#[a,vs,rfl,h2,h3,h4]:=rx;exact .inl #[W,vs,(Rd.seq h2).same' s,by show Q (.int vs.length) H;rw[h4.len];exact h.flat s #[rfl,rfl]]
   |tup ds=>
    let#[a,vs,rfl,h2,h3,h4]:=rx;exact .inl #[J,vs,(tupS h2).same' s,by show Q (.int vs.length) H;rw[h4.len];exact h.flat s #[rfl,rfl]]
   |_=>exact h.elim
  |all=>
   cases x with
   |lst o ds=>
    let#[a,vs,rfl,h2,h3,h4]:=rx;let#[c,h]:=h.bI;let#[i1,i2,i3]:=zj h4 c;exact#[W,vs,(Rd.seq h2).same' s,rfl,i1,by rw[i2];exact h.flat s #[rfl,rfl]]
   |_=>exact h.elim
  |any=>
   cases x with
   |lst o ds=>
    let#[a,vs,rfl,h2,h3,h4]:=rx;let#[c,h]:=h.bI;let#[i1,i2,i3]:=zj h4 c;exact#[W,vs,(Rd.seq h2).same' s,rfl,i1,by rw[i3];exact h.flat s #[rfl,rfl]]
   |_=>exact h.elim
  |int=>
   cases x with
   |int i=>cases rx;exact h.flat s #[rfl,rfl]
   |bl b=>cases rx;exact h.flat s #[rfl,rfl]
   |str z=>
    let#[rfl,hz]:=rx;let#[c,h]:=h.bI;let#[d,e]:=h.some (by first|exact Et _ _|exact t6 _ _ _|(repeat' (first|exact bQ.ok|exact bQ.bad|exact bQ.opt|exact bQ.f6 _|refine bQ.bI ?_|(refine bQ.bind ?_ λ_=>?_)|split)));let#[n,e1,e2]:=cJ e;rw[e]at h;cases e2;exact#[aq c,n,v8 e1,h.flat s #[rfl,rfl]]
   |_=>exact h.elim
  |str=>
   cases x with
   |int i=>
    cases rx;let#[c,h]:=h.bI;have c:i.natAbs.log2<1920/\(nA i).length<=ah:=by simpa using c
    exact#[c.1,h.flat s #[#[rfl,c.2],rfl]]
   |_=>exact h.elim
  |abs=>
   cases x with
   |int i=>cases rx;exact h.flat s #[rfl,rfl]
   |_=>exact h.elim
  |_=>exact h.elim
 |[x,y],r,h=>
  let#[v,r',rfl,rx,u,r2,rfl,ry,e]:=r;cases e;cases x with
  |int i=>
   cases rx;cases y with
   |int j=>
    cases ry;cases f<;>first|exact h.elim|exact h.flat s ⟨rfl,rfl⟩
   |_=>exact h.elim
  |_=>exact h.elim
 |_::_::_::_,_,h=>exact h.elim
def WE{Q:Bool->Prop}(s:aZ F H)(rx:bg K F x v)(hn:gX x=J)(q:Q (iW t x)):tT K t v H Q:=by
 cases x with
 |non=>cases rx;exact q
 |bl k=>cases rx;exact q
 |int i=>cases rx;exact q
 |str z=>let#[rfl,hz]:=rx;exact q
 |lst o ds=>
  let#[a,vs,rfl,h2,h3,h4]:=rx;exact .inl #[vs,Rd.same s h2,q]
 |tup ds=>
  let#[a,vs,rfl,h2,h3,h4]:=rx;exact .inr (.inl #[vs,(tupS h2).same' s,q])
 |cst ds=>
  let#[a,vs,rfl,h2,h3,h4]:=rx;exact .inr (.inl #[vs,.inr h2,q])
 |adr a ds=>
  let#[vs,rfl,h2,h3,h4]:=rx;exact .inl #[vs,.inl (s _ _ h2),q]
def M1(c:L)(l:M L)(hl:l.length<=ah):aU K F (tY c l) ((bZ c l).map λp=>V.str (strOf p)):=by
 let#[h1,_]:=sP c l;unfold tY;revert h1;generalize bZ c l=ps;intro h1;induction ps with
 |nil=>exact rfl
 |cons p r ih=>
  refine#[_,_,rfl,#[rfl,?_],ih λq hq=>h1 q (ai _ hq)];rw[Pf];have:=h1 p aj
  lia
theorem zp:∀ps:M (M L),aF (ps.map λp=>D.str (strOf p))=ps.map λp=>D.str (strOf p)
|[]=>rfl
|p::r=>by show D.str (strOf p)::aF _=_;rw[zp r];rfl
def Ph(s:aZ F H)(rx:bg K F x v)(h:kL m x ds=.ok d):o_ m v H:=by
 cases x with
 |str z=>
  let#[rfl,_]:=rx
  match ds,h with
  |[y],h=>
   cases y with
   |str q=>cases m<;>first|exact trivial|(cases h)
   |lst o ys=>cases m<;>first|exact trivial|(cases h)
   |_=>cases h
  |[],h=>cases m<;>first|exact trivial|(cases h)
  |_::_::_,h=>cases h
 |lst o xs=>
  let#[a,us,rfl,h2,_]:=rx
  match ds,h with
  |[y],h=>
   cases y<;>first|(cases h;done)|skip
   all_goals (cases m<;>first|exact⟨us,Rd.same s h2⟩|(cases h))
  |[],h=>cases h
  |_::_::_,h=>cases h
 |_=>cases h
theorem frzs_strs':∀ws:M Str,aF (ws.map D.str)=ws.map D.str
|[]=>rfl
|w::r=>by show D.str w::aF (r.map D.str)=_;rw[frzs_strs' r];rfl
def WG[Ex](s:aZ F H)(rx:bg K F x v)(r:aU K F ds vs)(h:PV K F H (kL m x ds) Q):oB K m v vs H Q:=by
 cases x with
 |str z=>
  let#[rfl,hz]:=rx
  match ds,r,h with
  |[y],r,h=>
   let#[u,r',rfl,ry,e]:=r;cases e;cases y with
   |str q=>
    let#[rfl,hq]:=ry;cases m with
    |startswith=>
     exact h.flat s #[rfl,rfl]
    |split=>
     let#[c,h]:=h.bI;have c:q.length=1/\z.length+2<=ah:=by simpa using c
     refine#[c.1,c.2,λp hp=>?_];have r:=M1 (K:=K) (F:=F) (q.cps.getD 0 0) z.cps.toList (by rw[v7];exact hz);have h':PV K F H (.ok (.lst J (aF (tY (q.cps.getD 0 0) z.cps.toList)))) Q:=by
      unfold tY at h ⊢;rw[zp];exact h
     refine h'.lst s r ?_ hp;rw[ay];have:=(sP (q.cps.getD 0 0) z.cps.toList).2;rw[v7]at this;omega
    |index=>
     let#[c,h]:=h.bI;have c:q.length=1/\(q.cps.getD 0 0)∈z.cps.toList:=by simpa only[cU,cK]using c
     exact#[c.1,hz,c.2,h.flat s #[rfl,rfl]]
    |_=>exact h.elim
   |lst o ys=>
    let#[a,us,rfl,h2,h3,h4]:=ry;cases m with
    |join=>
     let#[d,e]:=h.some (by first|exact Et _ _|exact t6 _ _ _|(repeat' (first|exact bQ.ok|exact bQ.bad|exact bQ.opt|exact bQ.f6 _|refine bQ.bI ?_|(refine bQ.bind ?_ λ_=>?_)|split)));let#[ss,e1,e2]:=cJ (show((R.opt (k9 ys)).bind λss=>R.bI (decide ((ss.map (·.length)).sum+ss.length*z.length<=ah)) (.ok (.str (dU z ss))))=.ok d from e);let#[c,e3]:=kO e2;rw[e]at h;cases e3;exact#[W,us,(Rd.seq h2).same' s,rfl,ss,zm h4 (v8 e1),aq c,h.flat s #[#[rfl,fJ (IB z ss) (aq c)],rfl]]
    |_=>exact h.elim
   |_=>exact h.elim
  |[],r,h=>
   cases m with
   |split=>
    cases r;let#[c,h]:=h.bI;simp only[cU,cK]at c;refine#[#[hz,c.1],λp hp=>?_];have r:∀ws:M Str,(ws.all λw=>decide (w.length<=ah))=J->aU K F (ws.map D.str) (ws.map V.str):=by
     intro ws;induction ws with
     |nil=>intro _;exact rfl
     |cons w ws ih=>
      intro hc;let#[c1,c2]:=yd.mp hc;exact#[_,_,rfl,#[rfl,aq c1],ih c2]
    have h':PV K F H (.ok (.lst J (aF ((iL z).map D.str)))) Q:=by
     rw[frzs_strs'];exact h
    exact h'.lst s (r _ c.2) (by rw[ay];exact c.1) hp
   |_=>exact h.elim
  |_::_::_,_,h=>exact h.elim
 |lst o xs=>
  let#[a,us,rfl,h2,h3,h4]:=rx
  match ds,r,h with
  |[y],r,h=>
   let#[u,r',rfl,ry,e]:=r;cases e;cases y<;>first|exact h.elim|skip
   case int k=>
    cases ry;cases m<;>first|exact h.elim|skip
    have h:PV K F H ((R.opt (xA xs)).bind λns=>.bI (decide (k∈ns)) (.ok (.int (ns.idxOf k)))) Q:=h;cases q:xA xs with
    |none=>rw[q]at h;exact h.elim
    |some ns=>
     rw[q]at h;have e:=FE h4 q;subst e;let#[c,h]:=PV.bI (show PV K F H (.bI (decide (k∈ns)) (.ok (.int (ns.idxOf k)))) Q from h);exact#[ns,Rd.same s h2,aq c,h.flat s #[rfl,rfl]]
  |[],_,h=>exact h.elim
  |_::_::_,_,h=>exact h.elim
 |_=>exact h.elim
end
section
variable{K:aa}{Γp:M PG}{U:M G}
def PV.bind[Ex]{f:D->R D}(h:PV K F H (r.bind f) Q)(k:∀x F1 H1 v,bS F H F1 H1->bg K F1 x v->PV K F1 H1 (f x) Q->Q' v H1):PV K F H r Q':=by
 cases r with
 |ok x=>
  intro F1 H1 v fp g fr rx;let#[F2,g2,s2,rf]:=MX g fr rx;exact k x F2 H1 v g2 rf (PV.grow h g2)
 |ex x=>exact h
 |bad=>exact h.elim
def PB.n6[Ex]{α:Type}{f:D->R α}{Q:α->Hp->Prop}(h:PB K F H (r.bind f) Q)(k:∀x F1 H1 v,bS F H F1 H1->bg K F1 x v->PB K F1 H1 (f x) Q->Q' v H1):PV K F H r Q':=by
 cases r with
 |ok x=>
  intro F1 H1 v fp g fr rx;let#[F2,g2,s2,rf]:=MX g fr rx;exact k x F2 H1 v g2 rf (PB.grow h g2)
 |ex x=>exact h
 |bad=>exact h.elim
def PB.bindB[Ex]{α β:Type}{F H:Hp}{r:R β}{f:β->R α}{Q:α->Hp->Prop}{Q':β->Hp->Prop}(h:PB K F H (r.bind f) Q)(k:∀x F1 H1,bS F H F1 H1->PB K F1 H1 (f x) Q->Q' x H1):PB K F H r Q':=by
 cases r with
 |ok x=>exact λF1 H1 g=>k x F1 H1 g (PB.grow h g)
 |ex x=>exact h
 |bad=>exact h.elim
def PV.bindB[Ex]{β:Type}{r:R β}{f:β->R D}{Q:VK}{Q':β->Hp->Prop}(h:PV K F H (r.bind f) Q)(k:∀x F1 H1,bS F H F1 H1->PV K F1 H1 (f x) Q->Q' x H1):PB K F H r Q':=by
 cases r with
 |ok x=>exact λF1 H1 g=>k x F1 H1 g (PV.grow h g)
 |ex x=>exact h
 |bad=>exact h.elim
def zh.Hr[Ex]{f:M D->R D}{Q':M V->Hp->Prop}(h:PV K F H (r.bind f) Q)(k:∀xs F1 H1 vs,bS F H F1 H1->aU K F1 xs vs->PV K F1 H1 (f xs) Q->Q' vs H1):zh K F H r Q':=by
 cases r with
 |ok x=>
  intro F1 H1 v fp g fr rx;let#[F2,g2,s2,rf]:=Dr g fr rx;exact k x F2 H1 v g2 rf (PV.grow h g2)
 |ex x=>exact h
 |bad=>exact h.elim
def PB.aaw[Ex]{α:Type}{f:M D->R α}{Q:α->Hp->Prop}{Q':M V->Hp->Prop}(h:PB K F H (r.bind f) Q)(k:∀xs F1 H1 vs,bS F H F1 H1->aU K F1 xs vs->PB K F1 H1 (f xs) Q->Q' vs H1):zh K F H r Q':=by
 cases r with
 |ok x=>
  intro F1 H1 v fp g fr rx;let#[F2,g2,s2,rf]:=Dr g fr rx;exact k x F2 H1 v g2 rf (PB.grow h g2)
 |ex x=>exact h
 |bad=>exact h.elim
def PV.aax[Ex](h:PV K F H (.ok (.lst J ds)) Q)(g:bS F H F1 H1)(fr:iu fp H F1)(r:aY K H1 F1 ds vs fp)(hl:vs.length<=ah)(hp:H1 p=B):Q (.ref p) (upd H1 p (.lst vs)):=by
 let#[g2,hf]:=newList (vs:=vs) g.s hp;have np:p∉fp:=λz=>by
  let#[o,e,_]:=aY.ex ds vs fp r p z;rw[hp]at e;cases e
 refine h F1 _ (.ref p) (p::fp) (g.trans g2) #[bF.mpr #[np,fr.nd],?_,?_] ?_
 ·intro a ha;rcases aM.mp ha with rfl|ha
  ·exact aZ.none g.h hp
  ·exact fr.nh a ha
 ·intro a ha;rcases aM.mp ha with rfl|ha
  ·exact hf
  ·exact fr.nf a ha
 ·unfold bz;rw[aB rfl];exact#[p,vs,fp,rfl,dF,hl,aY.mono (aZ.refl _) ds vs fp (λa ha=>bf (λz=>np (by rw[<-z];exact ha))) r,rfl]
def PV.tupX[Ex](h:PV K F H (.ok (.tup ds)) Q)(g:bS F H F1 H1)(fr:iu fp H F1)(r:aY K H1 F1 ds vs fp)(hl:vs.length<=ah)(hp:H1 p=B):Q (.ref p) (upd H1 p (.tup vs)):=by
 have g2:=v5 (o:=.tup vs) g.s hp;have np:p∉fp:=λz=>by
  let#[o,e,_]:=aY.ex ds vs fp r p z;rw[hp]at e;cases e
 refine h _ _ (.ref p) fp (g.trans g2) #[fr.nd,fr.nh,λa ha=>?_] ?_
 ·rw[bf (λz=>np (by simp_all))];exact fr.nf a ha
 ·exact#[p,vs,rfl,dF,hl,aY.mono g2.f ds vs fp (λa ha=>bf (λz=>np (by simp_all))) r]
def Pj(z:Str):lQ K F (vZ z) ((chars z).map .v):=by
 unfold vZ chars;have hs:=szl;induction z.cps.toList with
 |nil=>exact rfl
 |cons c r ih=>exact#[_,_,rfl,#[rfl,by show(1:L)<=_;lia],ih]
theorem uS:∀{ds:M D}{vs:M V},aU K F ds vs->lQ K F (aF ds) (vs.map .v)
|[],_,h=>by cases h;exact rfl
|d::ds,_,h=>by
 let#[v,r,rfl,h2,h3]:=h;exact#[_,_,rfl,(bg.bE d v).mpr h2,uS h3]
theorem Eu:∀{ds es:M D}{vs us:M V},aU K F ds vs->aU K F es us->lQ K F (nB (aF ds) (aF es)) (rR vs us)
|[],_,_,_,h,h'=>by cases h;exact rfl
|d::ds,[],_,_,h,h'=>by
 let#[v,r,rfl,h2,h3]:=h;cases h';exact rfl
|d::ds,e::es,_,_,h,h'=>by
 let#[v,r,rfl,h2,h3]:=h;let#[v',r',rfl,h2',h3']:=h';have hs:=szl;exact#[_,_,rfl,#[_,rfl,#[_,_,rfl,(bg.bE d v).mpr h2,_,_,rfl,(bg.bE e v').mpr h2',rfl],by show(2:L)<=_;lia],Eu h3 h3']
theorem Co:∀(ds es:M D),(nB ds es).length<=ds.length
|[],es=>by cases es<;>exact aW _
|d::ds,[]=>iE _
|d::ds,e::es=>Nat.succ_le_succ (Co ds es)
theorem ID:∀{ds:M D}{vs:M V} (n:L),aU K F ds vs->lQ K F (gj n (aF ds)) (lY n vs)
|[],_,n,h=>by cases h;exact rfl
|d::ds,_,n,h=>by
 let#[v,r,rfl,h2,h3]:=h;have hs:=szl;exact#[_,_,rfl,#[_,rfl,#[_,_,rfl,rfl,_,_,rfl,(bg.bE d v).mpr h2,rfl],by show(2:L)<=_;lia],ID (n+1) h3]
def FF(lo:Int)(n:L):lQ K F (jX lo n) ((bH n).map λ(i:L)=>Item.v (.int (lo+(i:Int)))):=by
 unfold jX;induction bH n with
 |nil=>exact rfl
 |cons c r ih=>exact#[_,_,rfl,rfl,ih]
theorem FG:∀(ds:M D) (n:L),(gj n ds).length=ds.length
|[],n=>rfl
|d::r,n=>by show(gj (n+1) r).length+1=_;rw[FG r];rfl
theorem lQ.mono(e:aZ F F'):∀{ds:M D}{its:M Item},lQ K F ds its->lQ K F' ds its
|[],_,h=>h
|d::ds,_,h=>by
 let#[it,r,h1,h2,h3]:=h;refine#[it,r,h1,?_,lQ.mono e h3];cases it with
 |v x=>exact bg.mono e d x h2
 |tup xs=>let#[es,q1,q2,q3]:=h2;exact#[es,q1,aU.mono e es xs q2,q3]
def zq{k:V->Hp->Prop}(s:aZ F H)(r:WD K F d it)(h:∀F1 H1 v,bS F H F1 H1->bg K F1 d v->k v H1):mkItem it H k:=by
 cases it with
 |v x=>exact h F H x (bS.refl s) r
 |tup xs=>
  let#[ds,rfl,r2,r3]:=r;intro p hp;have g:=v5 (o:=.tup xs) s hp;exact h _ _ _ g #[p,xs,rfl,dF,r3,aU.mono g.f ds xs r2]
def nC(K:aa)(F:Hp)(σd:bh)(O:L2.St):Prop:=∀(i:L) d,σd[i]?=Y (Y d)->∃v,O[i]?=Y (Y v)/\bg K F d v
def nC.env(h:nC K F σd O)(s:aZ F H):jo K F H is σd O:=#[λi _ d e=>h i d e,λk d e=>let⟨v,h1,h2⟩:=h k d e;#[v,F,h1,s,h2]]
def nC.mono(h:nC K F σd O)(e:aZ F F'):nC K F' σd O:=λi d q=>by
 let#[v,h1,h2]:=h i d q;exact#[v,h1,bg.mono e d v h2]
def nC.set(h:nC K F σd O)(hl:σd.length=O.length)(r:bg K F d v):nC K F (σd.set i (Y d)) (O.set i (Y v)):=λj e q=>by
 by_cases hij:i=j
 ·subst hij;rw[fP]at q;by_cases hi:i<σd.length
  ·simp[hi]at q;subst q;exact#[v,by rw[fP];simp[<-hl,hi],r]
  ·simp[hi]at q
 ·rw[bG hij]at q;let#[w,h1,h2]:=h j e q;exact#[w,by rw[bG hij];exact h1,h2]
mutual
theorem ruG:∀(g:CG) {d:D}{v:V}{σd aey:bh}{O:L2.St}{F H:Hp}{Q:L2.St->Hp->Prop},nC K F σd O->σd.length=O.length->aZ F H->bg K F d v->pG g d σd=.ok aey->(∀σ',nC K F aey σ'->aey.length=σ'.length->Q σ' H)->wG K U E g v O H Q
|.name i,d,v,σd,aey,O,F,H,Q,a,hl,s,r,e,h=>by
 cases e;exact h _ (a.set hl r) (by simp[hl])
|.tup gs,d,v,σd,aey,O,F,H,Q,a,hl,s,r,e,h=>by
 cases d with
 |tup ds=>
  let#[b,vs,rfl,h2,h3,h4]:=r;let#[c,e]:=kO e;exact#[J,vs,(tupS h2).same' s,rfl,by rw[h4.len];exact aq c,aay gs a hl s h4 e h]
 |_=>cases e
|.sub _ _,d,v,σd,aey,O,F,H,Q,a,hl,s,r,e,h=>by cases e
theorem aay:∀(g:rF) {ds:M D}{vs:M V}{σd aey:bh}{O:L2.St}{F H:Hp}{Q:L2.St->Hp->Prop},nC K F σd O->σd.length=O.length->aZ F H->aU K F ds vs->yi g ds σd=.ok aey->(∀σ',nC K F aey σ'->aey.length=σ'.length->Q σ' H)->Fi K U E g vs O H Q
|.nil,ds,vs,σd,aey,O,F,H,Q,a,hl,s,r,e,h=>by
 cases ds with
 |nil=>cases r;cases e;exact h O a hl
 |cons d dr=>cases e
|.cons g gr,ds,vs,σd,aey,O,F,H,Q,a,hl,s,r,e,h=>by
 cases ds with
 |nil=>cases e
 |cons d dr=>
  let#[v,vr,rfl,r1,r2]:=r;let#[σ2,e1,e2]:=cJ e;exact ruG g a hl s r1 e1 fun σ' a' hl'=>aay gr a' hl' s r2 e2 h
end
def Pk{σd:bh}{O:L2.St}{nl:M Str}{fr:M L}(h:jo K F H fr σd O):nC K F (nl.map (λ_=>B)++fr.map (λi=>σd.getD i B)) (nl.map (λ_=>B)++fr.map (λi=>O.getD i B)):=by
 intro i d e;by_cases hi:i<nl.length
 ·rw[fW (by simpa using hi)]at e;rw[bT]at e;cases q:nl[i]? with
  |none=>rw[q]at e;cases e
  |some x=>rw[q]at e;cases e
 ·rw[cj (by simpa using hi)]at e ⊢;simp only[ay,bT]at e ⊢;cases q:fr[i-nl.length]? with
  |none=>rw[q]at e;cases e
  |some j=>
   rw[q]at e;have e:σd.getD j B=Y d:=by simpa using e
   have e':σd[j]?=Y (Y d):=by
    rw[bV]at e;cases z:σd[j]? with
    |none=>rw[z]at e;cases e
    |some o=>rw[z]at e;simp at e;rw[e]
   let#[v,h1,h2]:=h.e j (dH q) d e';refine#[v,?_,h2];simp[bV,h1]
def Pn{σd:bh}{O:L2.St}{nl:M Str}{fr:M L}:(nl.map (λ_=>(B:aaV D))++fr.map (λi=>σd.getD i B)).length=(nl.map (λ_=>(B:aaV V))++fr.map (λi=>O.getD i B)).length:=by simp
theorem IE[Ex]{E:XK}{tg:CG}{cond:CO}{elt:CE}{k:M V->Hp->Prop}(hc:∀{σd:bh}{O:L2.St}{F H:Hp}{Q:Bool->Hp->Prop},nC K F σd O->aZ F H->PB K F H (pC Γp cond σd) Q->wC K U E cond O H Q)(he:∀{σd:bh}{O:L2.St}{F H:Hp}{Q:VK},nC K F σd O->aZ F H->PV K F H (pE Γp elt σd) Q->wE K U E elt O H Q)(ok:Hp->Prop)(H0:Hp)(F0:Hp):∀(ds:M D) (its:M Item) (acc:M D) (vacc:M V) (fp:M Addr) (σd:bh) (O:L2.St) (F H:Hp),nC K F σd O->σd.length=O.length->bS F0 H0 F H->lQ K F ds its->(∀H'',aZ F H''->ok H'')->acc.length+ds.length<=ah->
  aY K H F acc vacc fp->iu fp H0 F->
  (∀ys,ee (pG tg) (pC Γp cond) (pE Γp elt) ds σd=.ok ys->∀F' H' vs fp',bS F0 H0 F' H'->aY K H' F' (acc++ys) vs fp'->iu fp' H0 F'->k vs H')->(∃ys,ee (pG tg) (pC Γp cond) (pE Γp elt) ds σd=.ok ys)->
  sJ ok (wG K U E tg) (wC K U E cond) (wE K U E elt) k its vacc O H
|[],its,acc,vacc,fp,σd,O,F,H,a,hl,g,hi,hok,hz,ra,fr,hk,hy=>by
 cases hi;refine#[hok H g.s,hk [] rfl F H vacc fp g (by rw[bK];exact ra) fr]
|d::ds,its,acc,vacc,fp,σd,O,F,H,a,hl,g,hi,hok,hz,ra,fr,hk,hy=>by
 let#[it,r,rfl,i1,i2]:=hi;let#[ys,ey]:=hy;let#[σ2,e1,e2]:=cJ ey;let#[b,e3,e4]:=cJ e2;simp only[aT]at hz;refine#[hok H g.s,by rw[ra.len];lia,zq g.s i1 λF1 H1 v g1 r1=>?_];have fresh1:∀{F' H':Hp},bS F H F' H'->aY K H' F' acc vacc fp/\iu fp H0 F':=λg'=>by
  let#[c1,c2]:=aas g' fr ra;exact#[c1,fr.nd,fr.nh,c2]
 refine ruG tg (a.mono g1.f) hl g1.s r1 e1 fun σ' a' hl'=>?_;refine hc a' g1.s ?_;rw[e3];intro F2 H2 g2;have g12:=g1.trans g2;have hok2:∀{F' H':Hp},bS F H F' H'->∀H'',aZ F' H''->ok H'':=λg' H'' s''=>hok H'' (g'.f.trans s'');cases b with
 |false=>
  rw[aD bq];let#[c1,c2]:=fresh1 g12;refine IE hc he ok H0 F0 ds r acc vacc fp σ2 σ' F2 H2 (a'.mono g2.f) hl' (g.trans g12) (lQ.mono g12.f i2) (hok2 g12) (by lia) c1 c2 (λzs ez=>?_) #[ys,e4];refine hk zs ?_;simp only[ee,e1,R.bind,e3,Bool.false_eq_true,uz];exact ez
 |true=>
  rw[aB rfl];let#[y,e5,e6]:=cJ e4;let#[zs,e7,e8]:=cJ e6;refine he (a'.mono g2.f) g2.s ?_;rw[e5];intro F3 H3 w f3 g3 fr3 r3;have g123:=g12.trans g3;let#[c1,c2]:=fresh1 g123;have hx:∀a∈fp,∃o,H a=Y o:=λa ha=>by
   let#[o,e,_]:=aY.ex acc vacc fp ra a ha;exact#[o,e]
  have fr':=iu.app g.h fr hx c2.nf #[fr3.nd,λa ha=>aZ.none g12.h (fr3.nh a ha),fr3.nf];refine IE hc he ok H0 F0 ds r (acc++[y]) (vacc++[w]) (fp++f3) σ2 σ' F3 H3 (a'.mono (g2.f.trans g3.f)) hl' (g.trans g123) (lQ.mono g123.f i2) (hok2 g123) (by simp;lia) (aY.app c1 (aY.one r3)) fr' (λzs' ez=>?_) #[zs,e7];rw[bx];refine hk (y::zs') ?_;simp only[ee,e1,R.bind,e3,e5,ez,ie]
end
section
variable{K:aa}{Γp:M PG}{U:M G}
mutual
theorem Ew:∀d:D,bE (bE d)=bE d
|.non=>rfl
|.bl _=>rfl
|.int _=>rfl
|.str _=>rfl
|.lst o xs=>by show D.lst W (aF (aF xs))=_;rw[d7 xs];rfl
|.tup xs=>by show D.tup (aF (aF xs))=_;rw[d7 xs];rfl
|.cst xs=>by show D.cst (aF (aF xs))=_;rw[d7 xs];rfl
|.adr a xs=>by show D.adr a (aF (aF xs))=_;rw[d7 xs];rfl
theorem d7:∀ds:M D,aF (aF ds)=aF ds
|[]=>rfl
|d::r=>by show bE (bE d)::aF (aF r)=_;rw[Ew d,d7 r];rfl
end
def PV.isOk[Ex](h:PV K F H r Q)(n:r.bQ):∃d,r=.ok d:=h.some n
def PI'.isOk[Ex]{k:(Hp->Prop)->M Item->Hp->Prop}(h:PI' K A F H r k)(n:r.bQ):∃d,r=.ok d:=by
 cases r with
 |ok d=>exact#[d,rfl]
 |ex x=>exact aG rfl (n x)
 |bad=>exact h.elim
def PB.isOk[Ex]{α:Type}{F H:Hp}{r:R α}{Q:α->Hp->Prop}(h:PB K F H r Q)(n:r.bQ):∃d,r=.ok d:=by
 cases r with
 |ok d=>exact#[d,rfl]
 |ex x=>exact aG rfl (n x)
 |bad=>exact h.elim
def v9{α:Type}{r:R α}{a:α}(h:r.f6=.ok a):r=.ok a:=by
 cases r with
 |ok b=>exact h
 |ex x=>cases h
 |bad=>cases h
def PB.WH[Ex]{F H:Hp}{r:R D}{Q:Bool->Hp->Prop}(h:PB K F H (r.bind jl) Q):PV K F H r (λx H1=>ny K x H1 λb=>Q b H1):=by
 refine h.n6 λx F1 H1 v g r hb=>?_;let#[b,e]:=hb.isOk (xB x);rw[e]at hb;exact MZ g.s r e (hb F1 H1 (bS.refl g.s))
def zu(F:Hp):aZ (λ_=>B) F:=λb o h=>by cases h
def TL(r:bg K F x v)(h:qQ x=.ok ds):ds.length<=ah:=by
 cases x with
 |str z=>cases h;unfold vZ;rw[ay,v7];exact r.2
 |lst o xs=>cases h;let#[a,vs,_,_,h3,h4]:=r;rw[jD,<-h4.len];exact h3
 |adr a xs=>cases h;let#[vs,_,_,h3,h4]:=r;rw[jD,<-h4.len];exact h3
 |tup xs=>cases h;let#[a,vs,_,_,h3,h4]:=r;rw[jD,<-h4.len];exact h3
 |_=>cases h
def abY{G H:Hp}{k:(Hp->Prop)->M Item->Hp->Prop}(s:aZ G H)(r:bg K G x v)(e:qQ x=.ok ds)(h:∀ok its,(∀H'',aZ G H''->ok H'')->lQ K G ds its->ds.length<=ah->k ok its H):Em K v H k:=by
 have hl:=TL r e;cases x with
 |str z=>cases e;let#[rfl,hz]:=r;exact#[hz,h _ _ (λ_ _=>trivial) (Pj z) hl]
 |lst o xs=>
  cases e;let#[a,vs,rfl,h2,h3,h4]:=r;exact#[W,vs,(Rd.seq h2).same' s,h _ _ (λ_ s'=>(Rd.seq h2).same' s') (uS h4) hl]
 |adr a xs=>
  cases e;let#[vs,rfl,h2,h3,h4]:=r;exact#[W,vs,(Rd.seq (.inl h2)).same' s,h _ _ (λ_ s'=>(Rd.seq (.inl h2)).same' s') (uS h4) hl]
 |tup xs=>
  cases e;let#[a,vs,rfl,h2,h3,h4]:=r;exact#[J,vs,(tupS h2).same' s,h _ _ (λ_ s'=>(tupS h2).same' s') (uS h4) hl]
 |_=>cases e
def abZ{k:(Hp->Prop)->M Item->Hp->Prop}(r:aU K F ds vs)(e:pK ds=.ok is)(h:∀its,(∀G,lQ K G is its)->is.length<=ah->k (λ_=>True) its H):yW vs H k:=by
 have hs:=szl
 match ds,r,e with
 |[x],r,e=>
  let#[v,r',rfl,rx,er]:=r;cases er;cases x with
  |int j=>
   cases rx;let#[c,e2]:=kO e;cases e2;have c:=aq c;refine#[#[c.1,by omega],h _ (λG=>?_) (by unfold jX;rw[ay,kF];exact c.2)];have q:=FF (K:=K) (F:=G) 0 j.toNat;simpa using q
  |_=>cases e
 |[x,y],r,e=>
  let#[v,r',rfl,rx,u,r2,rfl,ry,er]:=r;cases er;cases x with
  |int i=>
   cases rx;cases y with
   |int j=>
    cases ry;let#[c,e2]:=kO e;cases e2;have c:=aq c;exact#[#[c.1,c.2.1,c.2.2.1,c.2.2.2.1],h _ (λG=>FF i _) (by unfold jX;rw[ay,kF];exact c.2.2.2.2)]
   |_=>cases e
  |_=>cases e
 |[],_,e=>cases e
 |_::_::_::_,_,e=>
  unfold pK at e;split at e<;>first|(cases e)|(rename_i z;cases z)
theorem l_{α:Type}(f:α->D)(h:∀a,bE (f a)=f a):∀l:M α,aF (l.map f)=l.map f
|[]=>rfl
|a::r=>by show bE (f a)::aF (r.map f)=_;rw[h a,l_ f h r];rfl
def band'(h:(a&&b)=J):a=J/\b=J:=by simpa using h
theorem aaz(n:Tv K H σd O):∀(ps:M (Str×L)) (a y:Str),Pe σd ps a=Y y->Wo O ps a=Y y
|[],a,y,h=>h
|p::r,a,y,h=>by
 have h:(match σd[p.2]? with
  |some (Y d)=>(Es d).bind λy=>Pe σd r (a++p.1++y)
  |_=>B)=Y y:=h
 show(match O[p.2]? with
  |some (Y v)=>(ML v).bind λy=>Wo O r (a++p.1++y)
  |_=>B)=Y y
 cases q:σd[p.2]? with
 |none=>rw[q]at h;cases h
 |some o=>
  cases o with
  |none=>rw[q]at h;cases h
  |some d=>
   rw[q]at h;let#[v,F',h1,_,h2]:=n p.2 d q;rw[h1];have e:∀z,Es d=Y z->ML v=Y z:=λz hz=>by
    cases d<;>first|cases hz|skip
    ·cases h2;exact hz
    ·let#[rfl,_]:=h2;rfl
   cases c:Es d with
   |none=>have h:(Es d).bind (λy=>Pe σd r (a++p.1++y))=Y y:=h;rw[c]at h;cases h
   |some z=>
    have h:(Es d).bind (λy=>Pe σd r (a++p.1++y))=Y y:=h;rw[c]at h;show(ML v).bind (λy=>Wo O r (a++p.1++y))=Y y;rw[e z c];exact aaz n r _ y h
def ab0[Ex](h:PV K F H (kK .len [x]) Q)(s:aZ F H):PV K F' H (kK .len [x]) Q:=by
 cases x<;>first|exact PV.int h s|exact h.elim
def WI[Ex](n:Tv K H σd O)(s:aZ F H)(hl:xh f as=J)(h:PV K F H ((fH Γp as σd).bind λds=>kK f ds) Q):wEs K U Ex.E as O H λvs H1=>xm K f vs H1 Q:=by
 cases f<;>first|cases hl;done|skip
 cases as with
 |nil=>cases hl
 |cons a r=>
  cases a<;>first|cases hl;done|skip
  rename_i k;cases r with
  |cons _ _=>cases hl
  |nil=>
  have h:PV K F H (((match σd[k]? with
   |some (Y d)=>R.ok (bE d)
   |_=>.bad).bind λx=>(R.ok []).bind λxs=>.ok (x::xs)).bind λds=>kK .len ds) Q:=h
  show jW O k λv=>xm K .len [v] H Q;unfold jW;cases q:σd[k]? with
  |none=>rw[q]at h;exact h.elim
  |some o=>
   cases o with
   |none=>rw[q]at h;exact h.elim
   |some d=>
    rw[q]at h;let#[v,F',h1,h2,h3]:=n k d q;rw[h1];exact M0 h2 (show aU K F' [bE d] [v]from#[v,[],rfl,(bg.bE d v).mpr h3,rfl]) (ab0 (show PV K F H (kK .len [bE d]) Q from h) s)
def Po(hΓ:dc K Γp U)[Ex](hE:∀QA:M V->Hp->Prop,zh K F H (fH Γp as σd) QA->wEs K U Ex.E as O H QA)(h:PV K F H (pE Γp (.call g as) σd) Q):wE K U Ex.E (.call g as) O H Q:=by
 have h:PV K F H (match Γp[g]? with
  |some (.fn m dds)=>(fH Γp as σd).bind λds=>m (aF ds++dds)
  |_=>.bad) Q:=h
 show(match U[g]? with
  |some (.fn sp dvs)=>wEs K U Ex.E as O H λvs H1=>sp (vs++dvs) H1 Q Ex.E
  |_=>aR)
 cases q:Γp[g]? with
 |none=>rw[q]at h;exact h.elim
 |some p=>
  let#[g',e1,e2]:=hΓ.get g q;rw[q]at h;rw[e1];cases p<;>first|exact h.elim|skip
  ·rename_i m dds;cases g'<;>first|exact e2.elim|skip
   ·rename_i sp dvs;refine hE _ (zh.Hr h λds F1 H1 vs g1 r1 h1=>?_);exact e2.1 _ _ _ _ #[F1,aF ds++dds,g1.s,by rw[qR,d7,e2.2.1],aU.app ((aU.aF ds vs).mpr r1) (aU.mono (zu F1) dds dvs e2.2.2),h1]
mutual
theorem gk(hΓ:dc K Γp U)[Ex]:∀(e:CE) {σd:bh}{O:L2.St}{F H:Hp}{Q:VK},jo K F H (cL e) σd O->aZ F H->cX e=J->PV K F H (pE Γp e σd) Q->wE K U Ex.E e O H Q
|.var i,σd,O,F,H,Q,env,s,lt,h=>by
 have h:PV K F H (match σd[i]? with
  |some (Y d)=>.ok (bE d)
  |_=>.bad) Q:=h
 show jW O i λv=>Q v H;unfold jW;cases q:σd[i]? with
 |none=>rw[q]at h;exact h.elim
 |some o=>
  cases o with
  |none=>rw[q]at h;exact h.elim
  |some d=>
   rw[q]at h;let#[v,h1,h2]:=env.e i (aQ.mpr rfl) d q;rw[h1];exact h.here s h2
|.con v,σd,O,F,H,Q,env,s,lt,h=>by
 have h:PV K F H (zg v) Q:=h;show Q v H;unfold zg at h;cases v<;>first|exact h.elim|exact h.flat s ⟨rfl,rfl⟩|exact h.flat s ⟨⟨rfl,aq lt⟩,rfl⟩
|.glo g,σd,O,F,H,Q,env,s,lt,h=>by
 have h:PV K F H (match Γp[g]? with
  |some (.val d)=>.ok (bE d)
  |_=>.bad) Q:=h
 show(match U[g]? with
  |some (.val v)=>Q v H
  |some (.tup a _)=>Q (.ref a) H
  |_=>aR)
 cases q:Γp[g]? with
 |none=>rw[q]at h;exact h.elim
 |some p=>
  let#[g',e1,e2]:=hΓ.get g q;rw[q]at h;rw[e1];cases p with
  |val d=>
   cases g' with
   |val v=>exact h.here s (bg.mono (zu F) d v e2)
   |tup a xs=>exact h.here s (bg.mono (zu F) d _ e2)
   |_=>exact e2.elim
  |_=>exact h.elim
|.bin op a b,σd,O,F,H,Q,env,s,lt,h=>by
 let#[l1,l2]:=band' lt;refine gk hΓ a env.l s l1 (PV.bind (show PV K F H ((pE Γp a σd).bind λx=>(pE Γp b σd).bind λy=>fG op x y) Q from h) λx F1 H1 v g1 r1 h1=>?_);refine gk hΓ b (env.r.mono g1) g1.s l2 (h1.bind λy F2 H2 u g2 r2 h2=>?_);exact abW g2.s (bg.mono g2.f x v r1) r2 h2
|.nset a,σd,O,F,H,Q,env,s,lt,h=>by
 refine gk hΓ a env s lt (PV.bind (show PV K F H ((pE Γp a σd).bind λx=>Dq x) Q from h) λx F1 H1 v g1 r1 h1=>?_);cases x with
 |lst o ds=>
  have h1:PV K F1 H1 (match k9 ds with
   |some ss=>.bI (decide (ss.length<4000)) (.ok (.int (pe ss).length))
   |none=>.bad) Q:=h1
  split at h1
  ·rename_i ss e1;let#[c,h1]:=PV.bI h1;let#[b,us,rfl,k2,k3,k4]:=r1;have e2:=zm k4 e1;subst e2;exact#[b,ss,rfl,Rd.same g1.s k2,aq c,h1.flat g1.s #[rfl,rfl]]
  ·exact h1.elim
 |_=>exact h1.elim
|.neg a,σd,O,F,H,Q,env,s,lt,h=>by
 refine gk hΓ a env s lt (PV.bind (show PV K F H ((pE Γp a σd).bind λx=>match x with|.int i=>.ok (.int (-i))|_=>.bad) Q from h) λx F1 H1 v g1 r1 h1=>?_);cases x with
 |int i=>cases r1;exact h1.flat g1.s #[rfl,rfl]
 |_=>exact h1.elim
|.not a,σd,O,F,H,Q,env,s,lt,h=>by
 refine gk hΓ a env s lt (PV.bind (show PV K F H ((pE Γp a σd).bind λx=>(jl x).bind λb=>.ok (.bl (!b))) Q from h) λx F1 H1 v g1 r1 h1=>?_);let#[d,e]:=h1.isOk (bQ.bind (xB x) λ_=>bQ.ok);let#[b,e1,e2]:=cJ e;rw[e1]at h1;exact MZ g1.s r1 e1 (h1.flat g1.s #[rfl,rfl])
|.and a b,σd,O,F,H,Q,env,s,lt,h=>by
 let#[l1,l2]:=band' lt;refine gk hΓ a env.l s l1 (PV.bind (show PV K F H ((pE Γp a σd).bind λx=>match x with|.bl c=>if c=J then pE Γp b σd else .ok (.bl W)|_=>.bad) Q from h) λx F1 H1 v g1 r1 h1=>?_);cases x with
 |bl c=>
  cases r1;cases c with
  |true=>exact gk hΓ b (env.r.mono g1) g1.s l2 h1
  |false=>exact h1.flat g1.s #[rfl,rfl]
 |_=>exact h1.elim
|.or a b,σd,O,F,H,Q,env,s,lt,h=>by
 let#[l1,l2]:=band' lt;refine gk hΓ a env.l s l1 (PV.bind (show PV K F H ((pE Γp a σd).bind λx=>match x with|.bl c=>if c=J then .ok (.bl J)else pE Γp b σd|_=>.bad) Q from h) λx F1 H1 v g1 r1 h1=>?_);cases x with
 |bl c=>
  cases r1;cases c with
  |false=>exact gk hΓ b (env.r.mono g1) g1.s l2 h1
  |true=>exact h1.flat g1.s #[rfl,rfl]
 |_=>exact h1.elim
|.ite c a b,σd,O,F,H,Q,env,s,lt,h=>by
 let#[l1,l2]:=band' lt;let#[l2,l3]:=band' l2;refine yj hΓ c env.l s l1 (PV.bindB (K:=K) (show PV K F H ((pT Γp c σd).bind λk=>if k=J then pE Γp a σd else pE Γp b σd) Q from h) λk F1 H1 g1 h1=>?_);cases k with
 |true=>exact gk hΓ a (env.r.l.mono g1) g1.s l2 h1
 |false=>exact gk hΓ b (env.r.r.mono g1) g1.s l3 h1
|.cmp op a b,σd,O,F,H,Q,env,s,lt,h=>by
 let#[l1,l2]:=band' lt;refine gk hΓ a env.l s l1 (PV.bind (show PV K F H ((pE Γp a σd).bind λx=>(pE Γp b σd).bind λy=>cA op x y) Q from h) λx F1 H1 v g1 r1 h1=>?_);refine gk hΓ b (env.r.mono g1) g1.s l2 (h1.bind λy F2 H2 u g2 r2 h2=>?_);exact AV g2.s (bg.mono g2.f x v r1) r2 h2
|.chain o1 o2 a b c,σd,O,F,H,Q,env,s,lt,h=>by
 let#[l1,l2]:=band' lt;let#[l2,l3]:=band' l2;refine gk hΓ a env.l s l1 (PV.bind (show PV K F H ((pE Γp a σd).bind λx=>(pE Γp b σd).bind λy=>(cA o1 x y).bind λz=>match z with|.bl k=>if k=J then(pE Γp c σd).bind λu=>cA o2 y u else .ok (.bl W)|_=>.bad) Q from h) λx F1 H1 v g1 r1 h1=>?_);refine gk hΓ b (env.r.l.mono g1) g1.s l2 (h1.bind λy F2 H2 u g2 r2 h2=>?_);refine AV g2.s (bg.mono g2.f x v r1) r2 (h2.bind λz F3 H3 w g3 r3 h3=>?_);cases z with
 |bl k=>
  cases r3;cases k with
  |true=>exact gk hΓ c (env.r.r.mono (g1.trans (g2.trans g3))) g3.s l3 (PV.bind (show PV K F3 H3 ((pE Γp c σd).bind λu=>cA o2 y u) Q from h3) λz F4 H4 w g4 r4 h4=>AV g4.s (bg.mono (g3.f.trans g4.f) y u r2) r4 h4)
  |false=>exact h3.flat g3.s #[rfl,rfl]
 |_=>exact h3.elim
|.call g as,σd,O,F,H,Q,env,s,lt,h=>Po hΓ (λ_ h=>rT hΓ as env s lt h) h
|.blt f as,σd,O,F,H,Q,env,s,lt,h=>by
 by_cases hl:xh f as=J
 ·exact WI env.n s hl h
 have env:jo K F H (jm as) σd O:=by
  have e:jo K F H (if xh f as=J then[]else jm as) σd O:=env;rw[aD hl]at e;exact e
 refine rT hΓ as env s lt (zh.Hr (show PV K F H ((fH Γp as σd).bind λds=>kK f ds) Q from h) λds F1 H1 vs g1 r1 h1=>M0 g1.s r1 h1)
|.isi a t,σd,O,F,H,Q,env,s,lt,h=>by
 refine gk hΓ a env s lt (PV.bind (show PV K F H ((pE Γp a σd).bind λx=>.bI (gX x) (.ok (.bl (iW t x)))) Q from h) λx F1 H1 v g1 r1 h1=>?_);let#[hn,h1]:=h1.bI;exact WE g1.s r1 hn (h1.flat g1.s #[rfl,rfl])
|.mth m o as,σd,O,F,H,Q,env,s,lt,h=>by
 let#[l1,l2]:=band' lt;refine gk hΓ o env.l s l1 (PV.bind (show PV K F H ((pE Γp o σd).bind λx=>(fH Γp as σd).f6.bind λds=>kL m x ds) Q from h) λx F1 H1 v g1 r1 h1=>?_);let#[d,e]:=h1.isOk (bQ.bind (bQ.f6 _) λ_=>t6 _ _ _);let#[ds,e1,e2]:=cJ e;have e1':=v9 e1;rw[e1,<-e1']at h1;refine#[Ph g1.s r1 e2,rT hΓ as (env.r.mono g1) g1.s l2 (zh.Hr h1 λds F2 H2 vs g2 r2 h2=>?_)];exact WG g2.s (bg.mono g2.f x v r1) r2 h2
|.ix a b,σd,O,F,H,Q,env,s,lt,h=>by
 let#[l1,l2]:=band' lt;refine gk hΓ a env.l s l1 (PV.bind (show PV K F H ((pE Γp a σd).bind λx=>(pE Γp b σd).bind λy=>vY x y) Q from h) λx F1 H1 v g1 r1 h1=>?_);refine gk hΓ b (env.r.mono g1) g1.s l2 (h1.bind λy F2 H2 u g2 r2 h2=>?_);exact aav g2.s (bg.mono g2.f x v r1) r2 h2
|.sl a lo hi,σd,O,F,H,Q,env,s,lt,h=>by
 let#[l1,l2]:=band' lt;let#[l2,l3]:=band' l2;refine gk hΓ a env.l s l1 (PV.bind (show PV K F H ((pE Γp a σd).bind λx=>(pO Γp lo σd).bind λl=>(pO Γp hi σd).bind λh=>Ly x l h) Q from h) λx F1 H1 v g1 r1 h1=>?_);refine WJ hΓ lo (env.r.l.mono g1) g1.s l2 (h1.bindB λl F2 H2 g2 h2=>?_);refine WJ hΓ hi (env.r.r.mono (g1.trans g2)) g2.s l3 (h2.bindB λl' F3 H3 g3 h3=>?_);exact okSl g3.s (bg.mono (g2.f.trans g3.f) x v r1) h3
|.lst as,σd,O,F,H,Q,env,s,lt,h=>by
 have h:PV K F H ((fH Γp as σd).bind λds=>.bI (decide (ds.length<=ah)) (.ok (.lst J ds))) Q:=h;refine rT hΓ as env s lt ?_;cases e1:fH Γp as σd with
 |ex x=>rw[e1]at h;exact h
 |bad=>rw[e1]at h;exact h.elim
 |ok ds=>
 rw[e1]at h;let#[c,h]:=PV.bI h;intro F1 H1 vs fp g fr r;have hl:vs.length<=ah:=by rw[r.len];exact aq c
 exact#[hl,λp hp=>h.aax g fr r hl hp]
|.tup as,σd,O,F,H,Q,env,s,lt,h=>by
 have h:PV K F H ((fH Γp as σd).bind λds=>.bI (decide (ds.length<=ah)) (.ok (.tup ds))) Q:=h;refine rT hΓ as env s lt ?_;cases e1:fH Γp as σd with
 |ex x=>rw[e1]at h;exact h
 |bad=>rw[e1]at h;exact h.elim
 |ok ds=>
 rw[e1]at h;let#[c,h]:=PV.bI h;intro F1 H1 vs fp g fr r;have hl:vs.length<=ah:=by rw[r.len];exact aq c
 exact#[hl,λp hp=>h.tupX g fr r hl hp]
|.comp nl fr elt tg src cond,σd,O,F,H,Q,env,s,lt,h=>by
 let#[l1,l2]:=band' lt;let#[l2,l3]:=band' l2;have h:PV K F H ((pI Γp src σd).bind λitems=>(ee (pG tg) (pC Γp cond) (pE Γp elt) items.2 (nl.map (λ_=>B)++fr.map (λi=>σd.getD i B))).f6.bind λds=>.ok (.lst J ds)) Q:=h;refine WK hΓ src [] env.l s (λ_ h=>aG h aP) l2 ?_;cases e1:pI Γp src σd with
 |ex x=>rw[e1]at h;exact h
 |bad=>rw[e1]at h;exact h.elim
 |ok items=>
 rw[e1]at h;have h:PV K F H ((ee (pG tg) (pC Γp cond) (pE Γp elt) items.2 (nl.map (λ_=>B)++fr.map (λi=>σd.getD i B))).f6.bind λds=>.ok (.lst J ds)) Q:=h;let#[d,e]:=h.isOk (bQ.bind (bQ.f6 _) λ_=>bQ.ok);let#[ys,e3,e4]:=cJ e;rw[e]at h;cases e4;replace e3:=v9 e3;intro F1 H1 ok its g1 hok hi hl;rw[Fy]at hok hi;refine@IE K Γp U ⟨E0⟩ E0 tg cond elt _ (λa s' hb=>@ruC hΓ ⟨E0⟩ cond _ _ _ _ _ (a.env s') s' l3 hb) (λa s' hv=>@gk hΓ ⟨E0⟩ elt _ _ _ _ _ (a.env s') s' l1 hv) ok H1 F1 items.2 its [] [] [] _ _ F1 H1 (Pk (env.r.mono g1)) Pn (bS.refl g1.s) hi hok (by simpa using hl) #[rfl,rfl] .nil (λzs ez F' H' vs fp' g' r' fr' p hp=>?_) #[ys,e3];rw[e3]at ez;cases ez;have hz:vs.length<=ah:=by
  rw[r'.len,iT];have:∀(ds:M D) (σd:bh) (ys:M D),ee (pG tg) (pC Γp cond) (pE Γp elt) ds σd=.ok ys->ys.length<=ds.length:=by
   intro ds;induction ds with
   |nil=>intro σd ys h;cases h;exact aW _
   |cons d ds ih=>
    intro σd ys h;let#[σ2,i1,i2]:=cJ h;let#[b,i3,i4]:=cJ i2;cases b with
    |false=>have:=ih σ2 ys i4;simp;omega
    |true=>
     let#[y,i5,i6]:=cJ (show((pE Γp elt σ2).bind λy=>(ee (pG tg) (pC Γp cond) (pE Γp elt) ds σ2).bind λys=>.ok (y::ys))=.ok ys from i4);let#[zs,i7,i8]:=cJ i6;cases i8;have:=ih σ2 zs i7;simp;omega
  have:=this items.2 _ ys e3;omega
 refine h.aax (g1.trans g') #[fr'.nd,λa ha=>aZ.none g1.h (fr'.nh a ha),fr'.nf] r' hz hp
|.slp a lo hi k,σd,O,F,H,Q,env,s,lt,h=>by
 let#[l1,l2]:=band' lt;let#[l2,l3]:=band' l2;refine gk hΓ a env.l s l1 (PV.bind (show PV K F H ((pE Γp a σd).bind λx=>(pO Γp lo σd).bind λl=>(pO Γp hi σd).bind λh=>Tu x l h k) Q from h) λx F1 H1 v g1 r1 h1=>?_);refine WJ hΓ lo (env.r.l.mono g1) g1.s l2 (h1.bindB λl F2 H2 g2 h2=>?_);refine WJ hΓ hi (env.r.r.mono (g1.trans g2)) g2.s l3 (h2.bindB λl' F3 H3 g3 h3=>?_);exact abX g3.s (bg.mono (g2.f.trans g3.f) x v r1) h3
theorem yj(hΓ:dc K Γp U)[Ex]:∀(e:CE) {σd:bh}{O:L2.St}{F H:Hp}{Q:Bool->Hp->Prop},jo K F H (cL e) σd O->aZ F H->cX e=J->PB K F H (pT Γp e σd) Q->wT K U Ex.E e O H Q
|.not a,σd,O,F,H,Q,env,s,lt,h=>by
 exact yj hΓ a env s lt (PB.bindB (show PB K F H ((pT Γp a σd).bind λb=>.ok (!b)) Q from h) λb F1 H1 g1 h1=>h1 F1 H1 (bS.refl g1.s))
|.and a b,σd,O,F,H,Q,env,s,lt,h=>by
 let#[l1,l2]:=band' lt;refine yj hΓ a env.l s l1 (PB.bindB (show PB K F H ((pT Γp a σd).bind λc=>if c=J then pT Γp b σd else .ok W) Q from h) λc F1 H1 g1 h1=>?_);cases c with
 |true=>exact yj hΓ b (env.r.mono g1) g1.s l2 h1
 |false=>exact h1 F1 H1 (bS.refl g1.s)
|.or a b,σd,O,F,H,Q,env,s,lt,h=>by
 let#[l1,l2]:=band' lt;refine yj hΓ a env.l s l1 (PB.bindB (show PB K F H ((pT Γp a σd).bind λc=>if c=J then .ok J else pT Γp b σd) Q from h) λc F1 H1 g1 h1=>?_);cases c with
 |false=>exact yj hΓ b (env.r.mono g1) g1.s l2 h1
 |true=>exact h1 F1 H1 (bS.refl g1.s)
|.ite c a b,σd,O,F,H,Q,env,s,lt,h=>by
 let#[l1,l2]:=band' lt;let#[l2,l3]:=band' l2;refine yj hΓ c env.l s l1 (PB.bindB (show PB K F H ((pT Γp c σd).bind λk=>if k=J then pT Γp a σd else pT Γp b σd) Q from h) λk F1 H1 g1 h1=>?_);cases k with
 |true=>exact yj hΓ a (env.r.l.mono g1) g1.s l2 h1
 |false=>exact yj hΓ b (env.r.r.mono g1) g1.s l3 h1
|.cmp op a b,σd,O,F,H,Q,env,s,lt,h=>by
 let#[l1,l2]:=band' lt;refine gk hΓ a env.l s l1 (PB.n6 (show PB K F H ((pE Γp a σd).bind λx=>(pE Γp b σd).bind λy=>(cA op x y).bind λz=>match z with|.bl k=>.ok k|_=>.bad) Q from h) λx F1 H1 v g1 r1 h1=>?_);refine gk hΓ b (env.r.mono g1) g1.s l2 (h1.n6 λy F2 H2 u g2 r2 h2=>?_);refine AV g2.s (bg.mono g2.f x v r1) r2 (h2.n6 λz F3 H3 w g3 r3 h3=>?_);cases z with
 |bl k=>cases r3;exact h3 F3 H3 (bS.refl g3.s)
 |_=>exact h3.elim
|.chain o1 o2 a b c,σd,O,F,H,Q,env,s,lt,h=>by
 let#[l1,l2]:=band' lt;let#[l2,l3]:=band' l2;refine gk hΓ a env.l s l1 (PB.n6 (show PB K F H ((pE Γp a σd).bind λx=>(pE Γp b σd).bind λy=>(cA o1 x y).bind λz=>match z with|.bl k=>if k=J then(pE Γp c σd).bind λu=>(cA o2 y u).bind λz=>match z with|.bl k=>.ok k|_=>.bad else .ok W|_=>.bad) Q from h) λx F1 H1 v g1 r1 h1=>?_);refine gk hΓ b (env.r.l.mono g1) g1.s l2 (h1.n6 λy F2 H2 u g2 r2 h2=>?_);refine AV g2.s (bg.mono g2.f x v r1) r2 (h2.n6 λz F3 H3 w g3 r3 h3=>?_);cases z with
 |bl k=>
  cases r3;cases k with
  |true=>
   refine gk hΓ c (env.r.r.mono (g1.trans (g2.trans g3))) g3.s l3 (PB.n6 (show PB K F3 H3 ((pE Γp c σd).bind λu=>(cA o2 y u).bind λz=>match z with|.bl k=>.ok k|_=>.bad) Q from h3) λz F4 H4 w g4 r4 h4=>?_);refine AV g4.s (bg.mono (g3.f.trans g4.f) y u r2) r4 (h4.n6 λz F5 H5 w g5 r5 h5=>?_);cases z with
   |bl k=>cases r5;exact h5 F5 H5 (bS.refl g5.s)
   |_=>exact h5.elim
  |false=>exact h3 F3 H3 (bS.refl g3.s)
 |_=>exact h3.elim
|.var i,σd,O,F,H,Q,env,s,lt,h=>by
 have h:PB K F H (match σd[i]? with
  |some (Y d)=>jl d
  |_=>.bad) Q:=h
 show jW O i λv=>ny K v H λb=>Q b H;unfold jW;cases q:σd[i]? with
 |none=>rw[q]at h;exact h.elim
 |some o=>
  cases o with
  |none=>rw[q]at h;exact h.elim
  |some d=>
   rw[q]at h;let#[v,h1,h2]:=env.e i (aQ.mpr rfl) d q;rw[h1];let#[b,e]:=h.isOk (xB d);rw[e]at h;exact MZ s h2 e (h F H (bS.refl s))
|.call g as,σd,O,F,H,Q,env,s,lt,h=>by
 rw[Lx];have h':PB K F H ((pE Γp (.call g as) σd).bind jl) Q:=by
  revert h;show PB K F H (match Γp[g]? with
   |some (.fn m dds)=>((fH Γp as σd).bind λds=>m (aF ds++dds)).bind jl
   |_=>.bad) Q->PB K F H ((match Γp[g]? with
   |some (.fn m dds)=>(fH Γp as σd).bind λds=>m (aF ds++dds)
   |_=>.bad).bind jl) Q
  cases Γp[g]? with
  |none=>exact λh=>h
  |some p=>cases p<;>exact λh=>h
 have hv:=PB.WH (K:=K) h';exact Po hΓ (λ_ h=>rT hΓ as env s lt h) hv
|.blt f as,σd,O,F,H,Q,env,s,lt,h=>by
 have hv:=PB.WH (K:=K) (show PB K F H (((fH Γp as σd).bind λds=>kK f ds).bind jl) Q from h);by_cases hl:xh f as=J
 ·exact WI (Q:=λx H2=>ny K x H2 λb=>Q b H2) env.n s hl hv
 have env:jo K F H (jm as) σd O:=by
  have e:jo K F H (if xh f as=J then[]else jm as) σd O:=env;rw[aD hl]at e;exact e
 exact rT hΓ as env s lt (zh.Hr hv λds F1 H1 vs g1 r1 h1=>M0 g1.s r1 h1)
|.isi a t,σd,O,F,H,Q,env,s,lt,h=>by
 refine gk hΓ a env s lt (PB.n6 (show PB K F H ((pE Γp a σd).bind λx=>.bI (gX x) (.ok (iW t x))) Q from h) λx F1 H1 v g1 r1 h1=>?_);let#[hn,h1]:=h1.bI;exact WE g1.s r1 hn (show ny K (.bl (iW t x)) H1 λb=>Q b H1 from h1 F1 H1 (bS.refl g1.s))
|.mth m o as,σd,O,F,H,Q,env,s,lt,h=>by
 let#[l1,l2]:=band' lt;refine gk hΓ o env.l s l1 (PB.n6 (show PB K F H ((pE Γp o σd).bind λx=>(fH Γp as σd).f6.bind λds=>(kL m x ds).bind jl) Q from h) λx F1 H1 v g1 r1 h1=>?_);let#[d,e]:=h1.isOk (bQ.bind (bQ.f6 _) λ_=>bQ.bind (t6 _ _ _) λ_=>xB _);let#[ds,e1,e2]:=cJ e;have e1':=v9 e1;rw[e1,<-e1']at h1;let#[d',e3,e4]:=cJ e2;refine#[Ph g1.s r1 e3,rT hΓ as (env.r.mono g1) g1.s l2 (PB.aaw h1 λds F2 H2 vs g2 r2 h2=>?_)];exact WG g2.s (bg.mono g2.f x v r1) r2 (PB.WH h2)
|.con v,σd,O,F,H,Q,env,s,lt,h=>h.elim
|.glo g,σd,O,F,H,Q,env,s,lt,h=>h.elim
|.bin op a b,σd,O,F,H,Q,env,s,lt,h=>h.elim
|.nset a,σd,O,F,H,Q,env,s,lt,h=>h.elim
|.neg a,σd,O,F,H,Q,env,s,lt,h=>h.elim
|.ix a b,σd,O,F,H,Q,env,s,lt,h=>by
 let#[l1,l2]:=band' lt;have hv:=PB.WH (K:=K) (show PB K F H (((pE Γp a σd).bind λx=>(pE Γp b σd).bind λy=>vY x y).bind jl) Q from h);refine gk hΓ a env.l s l1 (PV.bind hv λx F1 H1 v g1 r1 h1=>?_);refine gk hΓ b (env.r.mono g1) g1.s l2 (h1.bind λy F2 H2 u g2 r2 h2=>?_);exact aav g2.s (bg.mono g2.f x v r1) r2 h2
|.sl a lo hi,σd,O,F,H,Q,env,s,lt,h=>h.elim
|.lst as,σd,O,F,H,Q,env,s,lt,h=>h.elim
|.tup as,σd,O,F,H,Q,env,s,lt,h=>h.elim
|.comp nl fr elt tg src cond,σd,O,F,H,Q,env,s,lt,h=>h.elim
|.slp a lo hi k,σd,O,F,H,Q,env,s,lt,h=>h.elim
theorem rT(hΓ:dc K Γp U)[Ex]:∀(as:ja) {σd:bh}{O:L2.St}{F H:Hp}{Q:M V->Hp->Prop},jo K F H (jm as) σd O->aZ F H->iX as=J->zh K F H (fH Γp as σd) Q->wEs K U Ex.E as O H Q
|.nil,σd,O,F,H,Q,env,s,lt,h=>(show zh K F H (.ok []) Q from h) F H [] [] (bS.refl s) .nil #[rfl,rfl]
|.cons a r,σd,O,F,H,Q,env,s,lt,h=>by
 let#[l1,l2]:=band' lt;have h:zh K F H ((pE Γp a σd).bind λx=>(fH Γp r σd).bind λxs=>.ok (x::xs)) Q:=h;refine gk hΓ a env.l s l1 ?_;cases e1:pE Γp a σd with
 |ex x=>rw[e1]at h;exact h
 |bad=>rw[e1]at h;exact h.elim
 |ok x=>
  cases e2:fH Γp r σd with
  |ex x=>
   rw[e1]at h;simp only[R.bind,e2]at h;intro F1 H1 v f1 g1 fr1 r1;refine rT hΓ r (env.r.mono g1) g1.s l2 ?_;rw[e2];exact kM.grow (K:=K) (x:=x) h g1
  |bad=>rw[e1]at h;simp only[R.bind,e2]at h;exact h.elim
  |ok xs=>
   rw[e1]at h;simp only[R.bind,e2]at h;intro F1 H1 v f1 g1 fr1 r1;refine rT hΓ r (env.r.mono g1) g1.s l2 ?_;rw[e2];intro F2 H2 vs f2 g2 fr2 r2;let#[c1,c2]:=carry g2 fr1 r1;refine h F2 H2 (v::vs) (f1++f2) (g1.trans g2) (iu.app g1.h fr1 (λa ha=>?_) c2 fr2) #[v,vs,f1,f2,rfl,rfl,c1,r2];let#[o,e,_]:=bz.ex x v f1 r1 a ha;exact#[o,e]
theorem WJ(hΓ:dc K Γp U)[Ex]:∀(c:CO) {σd:bh}{O:L2.St}{F H:Hp}{Q:aaV Int->Hp->Prop},jo K F H (Iz c) σd O->aZ F H->Iw c=J->PB K F H (pO Γp c σd) Q->wO K U Ex.E c O H Q
|.none,σd,O,F,H,Q,env,s,lt,h=>(show PB K F H (.ok B) Q from h) F H (bS.refl s)
|.some a,σd,O,F,H,Q,env,s,lt,h=>by
 refine gk hΓ a env s lt (PB.n6 (show PB K F H ((pE Γp a σd).bind λx=>match x with|.int i=>.ok (Y i)|_=>.bad) Q from h) λx F1 H1 v g1 r1 h1=>?_);cases x with
 |int i=>cases r1;exact h1 F1 H1 (bS.refl g1.s)
 |_=>exact h1.elim
theorem ruC(hΓ:dc K Γp U)[Ex]:∀(c:CO) {σd:bh}{O:L2.St}{F H:Hp}{Q:Bool->Hp->Prop},jo K F H (Iz c) σd O->aZ F H->Iw c=J->PB K F H (pC Γp c σd) Q->wC K U Ex.E c O H Q
|.none,σd,O,F,H,Q,env,s,lt,h=>(show PB K F H (.ok J) Q from h) F H (bS.refl s)
|.some a,σd,O,F,H,Q,env,s,lt,h=>yj hΓ a env s lt h
theorem WK(hΓ:dc K Γp U)[Ex]:∀(c:CI) (A:M Addr) {σd:bh}{O:L2.St}{F H:Hp}{k:(Hp->Prop)->M Item->Hp->Prop},jo K F H (qG c) σd O->aZ F H->oU H A->ltI c=J->PI' K A F H (pI Γp c σd) k->wI K U Ex.E c O H k
|.seq a,A,σd,O,F,H,k,env,s,hA,lt,h=>by
 have h:PI' K A F H ((pE Γp a σd).bind λx=>(qQ x).bind λds=>.ok (be x,ds)) k:=h;refine gk hΓ a env s lt ?_;cases e1:pE Γp a σd with
 |ex x=>rw[e1]at h;exact h
 |bad=>rw[e1]at h;exact h.elim
 |ok x=>
 rw[e1]at h;have h:PI' K A F H ((qQ x).bind λds=>.ok (be x,ds)) k:=h;let#[o,e]:=h.isOk (bQ.bind (Tz x) λ_=>bQ.ok);let#[ds,e3,e4]:=cJ (show((qQ x).bind λds=>R.ok (be x,ds))=.ok o from e);rw[e]at h;cases e4;intro F1 H1 v fp g fr r;let#[F2,g2,r2]:=aau hA g fr r;exact abY ((Fz _ _ _).trans g2.s) r2 e3 λok its h1 h2 h3=>h F2 H1 ok its g2 h1 h2 h3
|.range as,A,σd,O,F,H,k,env,s,hA,lt,h=>by
 have h:PI' K A F H ((fH Γp as σd).bind λxs=>(pK xs).bind λds=>.ok (J,ds)) k:=h;refine rT hΓ as env s lt ?_;cases e1:fH Γp as σd with
 |ex x=>rw[e1]at h;exact h
 |bad=>rw[e1]at h;exact h.elim
 |ok xs=>
 rw[e1]at h;have h:PI' K A F H ((pK xs).bind λds=>.ok (J,ds)) k:=h;let#[o,e]:=h.isOk (bQ.bind (TF xs) λ_=>bQ.ok);let#[ds,e3,e4]:=cJ (show((pK xs).bind λds=>R.ok (J,ds))=.ok o from e);rw[e]at h;cases e4;intro F1 H1 vs fp g fr r;let#[F2,g2,_,r2]:=Dr g fr r;exact abZ r2 e3 λits h1 h2=>h F2 H1 _ its g2 (λ_ _=>trivial) (h1 _) h2
|.zip as,A,σd,O,F,H,k,env,s,hA,lt,h=>by
 have h:PI' K A F H ((fH Γp as σd).bind λxs=>uR xs) k:=h;refine rT hΓ as env s lt ?_;cases e1:fH Γp as σd with
 |ex x=>rw[e1]at h;exact h
 |bad=>rw[e1]at h;exact h.elim
 |ok xs=>
 rw[e1]at h;have h:PI' K A F H (uR xs) k:=h;unfold uR at h;split at h
 ·rename_i o1 xs o2 ys;intro F1 H1 vs fp g fr r;let#[F2,g2,_,r2]:=Dr g fr r;let#[v,r',rfl,#[b,us,rfl,h2,h3,h4],v',r'',rfl,#[b',us',rfl,h2',h3',h4'],hr]:=r2;cases hr;exact .inl #[b,b',us,us',rfl,rfl,Rd.same g2.s h2,Rd.same g2.s h2',h F2 H1 _ _ g2 (λ_ s'=>#[Rd.same s' h2,Rd.same s' h2']) (Eu h4 h4') (fJ (Co _ _) (by rw[jD,<-h4.len];exact h3))]
 ·rename_i xs ys;intro F1 H1 vs fp g fr r;let#[F2,g2,_,r2]:=Dr g fr r;let#[v,r',rfl,#[b,us,rfl,h2,h3,h4],v',r'',rfl,#[b',us',rfl,h2',h3',h4'],hr]:=r2;cases hr;exact .inr #[b,b',us,us',rfl,rfl,(tupS h2).same' g2.s,(tupS h2').same' g2.s,h F2 H1 _ _ g2 (λ_ s'=>#[(tupS h2).same' s',(tupS h2').same' s']) (Eu h4 h4') (fJ (Co _ _) (by rw[jD,<-h4.len];exact h3))]
 ·exact h.elim
|.enum a,A,σd,O,F,H,k,env,s,hA,lt,h=>by
 have h:PI' K A F H ((pE Γp a σd).bind λx=>match x with|.lst _ xs=>.ok (be x,gj 0 (aF xs))|_=>.bad) k:=h;refine gk hΓ a env s lt ?_;cases e1:pE Γp a σd with
 |ex x=>rw[e1]at h;exact h
 |bad=>rw[e1]at h;exact h.elim
 |ok x=>
 rw[e1]at h;intro F1 H1 v fp g fr r;let#[F2,g2,r2]:=aau hA g fr r;cases x with
 |lst o xs=>
  have s2:=(Fz (be (.lst o xs)) F2 A).trans g2.s;let#[b,vs,rfl,h2,h3,h4]:=r2;exact#[vs,Rd.same s2 h2,h F2 H1 _ _ g2 (λ_ s'=>Rd.same s' h2) (ID 0 h4) (by rw[FG,jD,<-h4.len];exact h3)]
 |_=>exact h.elim
end
end
def oE:L->bh->bh
|_,[]=>[]
|0,o::r=>o.map bE::r
|n+1,o::r=>o::oE n r
def jL:M L->bh->bh
|[],O=>O
|i::is,O=>jL is (oE i O)
def iO(is:M L)(o:Bool)(O:bh):bh:=match o with
|true=>O
|false=>jL is O
noncomputable def M2:CE->aaV L
|.var i=>Y i
|_=>B
def ni(U:M PG):ja->bh->R (M D)
|.nil=>λ_=>.ok []
|.cons a r=>λO=>match M2 a with
 |some i=>match O[i]? with
  |some (Y d)=>(ni U r (O.set i B)).bind λds=>.ok (d::ds)
  |_=>.bad
 |none=>(pE U a O).bind λd=>.bI (be d) ((ni U r O).bind λds=>.ok (d::ds))
noncomputable def R.alt{α β:Type}(x:R α)(f:α->R β)(y:R β):R β:=match x with
|.ok a=>f a
|_=>y
def pM(U:M PG)(e:CE)(O:bh):R D:=match e with
|.var i=>match O[i]? with
 |some (Y d)=>.ok d
 |_=>.bad
|.tup as=>(ni U as O).alt (λds=>.bI (decide (ds.length<=ah)) (.ok (.tup ds))) (pE U (.tup as) O)
|e=>pE U e O
noncomputable def pL:aaV (aaV D)->Bool
|some (Y (.lst J _))=>J
|_=>W
noncomputable def M3(O:bh):CE->aaV Int
|.var j=>match O[j]? with
 |some (Y (.int n))=>Y n
 |_=>B
|.con (.int n)=>Y n
|.neg (.con (.int n))=>Y (-n)
|_=>B
def oF(O:bh):CE->aaV (L×M Int)
|.var k=>Y (k,[])
|.ix o i=>(oF O o).bind λp=>(M3 O i).map λn=>(p.1,p.2++[n])
|_=>B
def eT:M Int->D->D->aaV D
|[],x,d=>match x with
 |.lst J xs=>if xs.length<ah then Y (.lst J (xs++[d]))else B
 |_=>B
|i::r,x,d=>match x with
 |.lst J xs=>(gO xs.length i).bind λn=>(xs[n]?).bind λy=>(eT r y d).map λy'=>.lst J (xs.set n y')
 |.tup xs=>(gO xs.length i).bind λn=>(xs[n]?).bind λy=>(eT r y d).map λy'=>.tup (xs.set n y')
 |_=>B
def iP:M Int->D->aaV D
|[],x=>Y x
|i::r,x=>match x with
 |.lst J xs=>(gO xs.length i).bind λn=>(xs[n]?).bind λy=>iP r y
 |.tup xs=>(gO xs.length i).bind λn=>(xs[n]?).bind λy=>iP r y
 |_=>B
def Ey(U:M PG)(o a:CE)(O:bh):Fl:=match oF O o with
|some p=>(pE U a O).jR W λd=>match O[p.1]? with
 |some (Y x)=>if be d=J then(R.opt (eT p.2 x d)).a_ λx'=>.nx (O.set p.1 (Y x'))else .bad
 |_=>.bad
|none=>.bad
def Ez(k:L)(is:M L)(d:D)(O:bh):Fl:=match d with
|.lst J ys=>match O[k]? with
 |some (Y (.lst J xs))=>if(decide (xs.length+ys.length<=ah)&&(be d||!is.contains k))=J then .nx ((iO is (be d) O).set k (Y (.lst J (xs++ys))))else .bad
 |_=>.bad
|_=>.bad
def pX(U:M PG)(e:CE)(O:bh):Fl:=match e with
|.mth m (.var k) as=>match m with
 |.append=>match as with
  |.cons a .nil=>(pE U a O).jR (pL O[k]?) λd=>match O[k]? with
   |some (Y (.lst J xs))=>if(decide (xs.length<ah)&&(be d||!(cL a).contains k))=J then .nx ((iO (cL a) (be d) O).set k (Y (.lst J (xs++[d]))))else .bad
   |_=>.bad
  |_=>.bad
 |.extend=>match as with
  |.cons a .nil=>(pE U a O).jR (pL O[k]?) λd=>Ez k (cL a) d O
  |_=>.bad
 |.clear=>match as with
  |.nil=>match O[k]? with
   |some (Y (.lst J _))=>.nx (O.set k (Y (.lst J [])))
   |_=>.bad
  |_=>.bad
 |_=>(pE U e O).a_ λ_=>.nx O
|.mth m (.ix o i) as=>match m with
 |.append=>match as with
  |.cons a .nil=>Ey U (.ix o i) a O
  |_=>.bad
 |_=>(pE U e O).a_ λ_=>.nx O
|e=>(pE U e O).a_ λ_=>.nx O
mutual
noncomputable def M4:D->Bool
|.lst _ _=>W
|.cst _=>W
|.adr _ _=>W
|.tup xs=>mh xs
|_=>J
noncomputable def mh:M D->Bool
|[]=>J
|d::r=>M4 d&&mh r
end
def putL(xs:M D)(d j:D):aaV D:=match j with
|.int j=>(gO xs.length j).map λn=>.lst J (xs.set n d)
|_=>B
def putIn(x d j:D):aaV D:=match x with
|.lst J xs=>putL xs d j
|_=>B
def pA(U:M PG)(g:CG)(e:CE)(O:bh):Fl:=match g with
|.name i=>(pE U e O).a_ λd=>.nx ((iO (cL e) (be d) O).set i (Y d))
|.tup gs=>(pE U e O).a_ λd=>(pG (.tup gs) d (iO (cL e) (be d) O)).a_ .nx
|.sub o i=>match o with
 |.var k=>(pE U e O).a_ λd=>(pE U i (iO (cL e) (be d) O)).jR W λj=>match O[k]? with
  |some (Y x)=>if(be d||!(cL e).contains k)=J then(R.opt (putIn x d j)).a_ λx'=>.nx ((iO (cL e) (be d) O).set k (Y x'))else .bad
  |_=>.bad
 |_=>.bad
def pB(U:M PG):CB->bh->R D
|.call g as=>λO=>match U[g]? with
 |some (.fn m dds)=>(fH U as O).f6.bind λds=>m (aF ds++dds)
 |_=>.bad
|.ite c a b=>λO=>(pT U c O).f6.bind λk=>if k=J then pB U a O else pB U b O
def EA(U:M PG)(k:L)(is:M Int)(j:L)(a:CE)(O:bh):Fl:=match O[k]? with
|some (Y x)=>match iP is x with
 |some (.lst J ys)=>if j<O.length then(pE U a (O.set j (Y (.lst J ys)))).a_ λd=>if be d=J then(R.opt (eT is x d)).a_ λx'=>.nx ((O.set k (Y x')).set j B)else .bad else .bad
 |_=>.bad
|_=>.bad
def xC(U:M PG)(s t:CS)(O:bh):Fl:=match s,t with
|.asg (.name j) o,.expr (.mth .append (.var i) (.cons a .nil))=>if i=j then(match oF O o with|some p=>EA U p.1 p.2 j a O|none=>.bad)else .bad
|_,_=>.bad
def sQ:M Int->D->aaV L
|[],x=>match x with
 |.lst J xs=>Y xs.length
 |.tup xs=>Y xs.length
 |_=>B
|i::r,x=>match x with
 |.lst J xs=>(gO xs.length i).bind λn=>(xs[n]?).bind λy=>sQ r y
 |.tup xs=>(gO xs.length i).bind λn=>(xs[n]?).bind λy=>sQ r y
 |_=>B
noncomputable def Cp:CE->aaV (L×M Int)
|.var k=>Y (k,[])
|.ix o (.con (.int n))=>(Cp o).map λp=>(p.1,p.2++[n])
|_=>B
def M5(U:M PG)(a:CE)(k:L)(is js:M Int):L->L->bh->Fl
|0,_,O=>.nx O
|m+1,n,O=>(pE U a O).jR W λd=>match O[k]? with
 |some (Y x)=>if be d=J then(R.opt (eT (is++(n:Int)::js) x d)).a_ λx'=>M5 U a k is js m (n+1) (O.set k (Y x'))else .bad
 |_=>.bad
def aaA(U:M PG)(j:L)(o w a:CE)(O:bh):Fl:=match oF O o with
|some p=>match Cp w with
 |some q=>if(decide (q.1=j)&&decide (p.1≠j)&&decide (j<O.length))=J then match O[p.1]? with
  |some (Y x)=>(R.opt (sQ p.2 x)).a_ λm=>M5 U a p.1 p.2 q.2 m 0 (O.set j B)
  |_=>.bad
  else .bad
 |none=>.bad
|none=>.bad
mutual
noncomputable def cT:D->L
|.lst _ xs=>eU xs+1
|.tup xs=>eU xs
|_=>0
noncomputable def eU:M D->L
|[]=>0
|d::r=>cT d+eU r
end
mutual
noncomputable def gy:D->Bool
|.lst o xs=>o&&ck xs
|.tup xs=>ck xs
|.non=>J
|.bl _=>J
|.int _=>J
|.str _=>J
|_=>W
noncomputable def ck:M D->Bool
|[]=>J
|d::r=>gy d&&ck r
end
mutual
noncomputable def jE(as:M Addr):D->L->D
|.lst _ xs,c=>.adr (as.getD c 0) (dB as xs (c+1))
|.tup xs,c=>.tup (dB as xs c)
|d,_=>d
noncomputable def dB(as:M Addr):M D->L->M D
|[],_=>[]
|d::r,c=>jE as d c::dB as r (c+cT d)
end
mutual
noncomputable def putN(f:M D->aaV (M D)):D->L->aaV D
|.lst o xs,c=>match c with
 |0=>(f xs).map (.lst o)
 |c+1=>(f7 f xs c).map (.lst o)
|.tup xs,c=>(f7 f xs c).map .tup
|_,_=>B
noncomputable def f7(f:M D->aaV (M D)):M D->L->aaV (M D)
|[],_=>B
|d::r,c=>if c<cT d then(putN f d c).map (·::r)else(f7 f r (c-cT d)).map (d::·)
end
noncomputable def nJ(n:L):D->Bool
|.int m=>decide (m=n)
|_=>W
def xD(q:Bool)(n:L)(ds:M D):aaV (M D):=match q with
|true=>if ds.length<ah then Y (ds++[.int n])else B
|false=>(ds[ds.length-1]?).bind λd=>if nJ n d=J then Y ds.dropLast else B
def oG(q:Bool):M L->L->D->aaV D
|[],_,x=>Y x
|c::r,n,x=>(putN (xD q n) x c).bind (oG q r (n+1))
noncomputable def lS:M D->aaV (M Addr)
|[]=>Y []
|.adr a _::r=>(lS r).map (a::·)
|_=>B
def IF:R D->aaV (M Addr)
|.ok (.lst J xs)=>lS xs
|_=>B
def WL(m:M D->R D)(x:D)(cs:M L):Prop:=∀as:M Addr,as.length=cT x->IF (m [jE as x 0])=Y (cs.map λc=>as.getD c 0)
open Classical in
def xE(m:M D->R D)(x:D):aaV (M L):=(IF (m [jE (bH (cT x)) x 0])).bind λcs=>if WL m x cs then Y cs else B
def Cq(U:M PG)(q:Bool)(g k i j:L)(O:bh):Fl:=match U[g]?,O[k]? with
|some (.fn m []),Y (Y x)=>if(decide (i≠j)&&(decide (k≠i)&&(decide (k≠j)&&(decide (i<O.length)&&(decide (j<O.length)&&gy x)))))=J then
  (R.opt ((xE m x).bind λcs=>oG q cs 0 x)).a_ λy=>.nx (((O.set i B).set j B).set k (Y y))else .bad
|_,_=>.bad
noncomputable abbrev Cr(q:Bool)(i j:L):cE:=match q with
|true=>.cons (.expr (.mth .append (.var j) (.cons (.var i) .nil))) .nil
|false=>.cons (.ifs (.cmp .NotEq (.mth .pop (.var j) .nil) (.var i)) (.cons (.ret (.con (.bl W))) .nil) .nil) .nil
abbrev alsS(q:Bool)(g k i j:L):CS:=.forr (.tup (.cons (.name i) (.cons (.name j) .nil))) (.enum (.call g (.cons (.var k) .nil))) (Cr q i j)
noncomputable def TM(i j:L):cE->aaV Bool
|.cons (.expr (.mth .append (.var j') (.cons (.var i') .nil))) .nil=>if i'=i/\j'=j then Y J else B
|.cons (.ifs (.cmp .NotEq (.mth .pop (.var j') .nil) (.var i')) (.cons (.ret (.con (.bl W))) .nil) .nil) .nil=>if i'=i/\j'=j then Y W else B
|_=>B
mutual
noncomputable def IG:CG->aaV (M L)
|.name i=>Y [i]
|.tup gs=>II gs
|.sub _ _=>B
noncomputable def II:rF->aaV (M L)
|.nil=>Y []
|.cons g r=>(IG g).bind λa=>(II r).map (a++·)
end
noncomputable def xF:M L->bh->bh
|[],O=>O
|i::r,O=>xF r (O.set i B)
def t7(U:M PG)(c:CE)(g:CG):M D->bh->Bool
|[],_=>J
|d::r,O=>match pG g d O with
 |.ok σ2=>match pT U c σ2 with
  |.ok W=>t7 U c g r σ2
  |_=>W
 |_=>W
abbrev pN(O:bh):bh:=jL (bH O.length) O
def Cs(U:M PG)(g:CG)(src:CI)(c:CE)(O:bh):Fl:=match IG g with
|some is=>match pI U src (pN O)with
 |.ok items=>if t7 U c g items.2 (pN O)=J then .nx (xF is O)else .bad
 |_=>.bad
|none=>.bad
noncomputable def TN(k t:L)(O:bh):Fl:=match O[k]?,O[t]? with
|some (Y (.lst J xs)),Y (Y (.lst J ys))=>if(decide (k≠t)&&decide (xs.length<ah))=J then .nx ((O.set t B).set k (Y (.lst J (xs++[.tup [.lst J ys,.lst J []]]))))else .bad
|_,_=>.bad
def qS(U:M PG)(s:CS)(O:bh):Fl:=match s with
|.forr (.name j) (.seq o) (.cons (.expr (.mth .append w (.cons a .nil))) .nil)=>aaA U j o w a O
|.forr (.tup (.cons (.name i) (.cons (.name j) .nil))) (.enum (.call g (.cons (.var k) .nil))) b=>match TM i j b with
 |some q=>Cq U q g k i j O
 |none=>.bad
|.forr g src (.cons (.ifs c _ .nil) .nil)=>Cs U g src c O
|.expr (.mth .append (.var k) (.cons (.tup (.cons (.var t) (.cons (.lst .nil) .nil))) .nil))=>TN k t O
|_=>.bad
noncomputable def HF(i:L)(a:Int)(O:bh):D->Fl
|.int b=>.nx (O.set i (Y (.int (a+b))))
|_=>.bad
noncomputable def nK:ja->aaV (ja×CE)
|.nil=>B
|.cons a r=>match nK r with
 |some p=>Y (.cons a p.1,p.2)
 |none=>Y (.nil,a)
def M6(U:M PG)(m:M D->R D)(i:L)(as:ja)(O:bh):Fl:=match nK as with
|some (bs,.var k)=>match O[k]? with
 |some (Y (.lst J es))=>match mh es with
  |true=>(fH U bs (O.set k B)).f6.a_ λds=>(m (aF ds++[.lst J es])).jR W λd=>.nx ((jL (jm bs) (O.set k B)).set i (Y d))
  |false=>.bad
 |_=>.bad
|_=>.bad
def aaB(m:M D->R D)(ds:M D):D->Fl
|.lst J es=>match mh es with
 |true=>(m (aF ds++[.lst J es])).jR W .rt
 |false=>.bad
|_=>.bad
def M7(U:M PG)(m:M D->R D)(as:ja)(O:bh):Fl:=match nK as with
|some (bs,e)=>(fH U bs O).f6.a_ λds=>(pE U e (jL (jm bs) O)).jR W (aaB m ds)
|none=>.bad
mutual
noncomputable def pS(U:M PG)(n:L):CS->bh->Fl
|.expr e=>λO=>pX U e O
|.asg g e=>λO=>pA U g e O
|.aug i e=>λO=>match O[i]? with
 |some (Y (.int a))=>(pE U e O).a_ λd=>HF i a O d
 |_=>.bad
|.casg i e=>λO=>(pE U e O).a_ λd=>.nx ((iO (cL e) (be d) O).set i (Y d))
|.acl i g as=>λO=>match U[g]? with
 |some (.fm m)=>M6 U m i as O
 |_=>.bad
|.tasg g e=>λO=>pA U g e O
|.ret e=>λO=>(pM U e O).a_ .rt
|.rcl g as=>λO=>match U[g]? with
 |some (.fm m)=>M7 U m as O
 |_=>.bad
|.ifs c a b=>λO=>(pT U c O).a_ λk=>if k=J then dz U n a O else dz U n b O
|.whil c b=>λO=>vE (pT U c) (dz U n b) n O
|.forr g src b=>λO=>(pI U src O).a_ λitems=>forR (pG g) (dz U n b) items.2 (iO (qG src) items.1 O)
|.brk=>λO=>.bk O
|.cont=>λO=>.ct O
|.never=>λ_=>.bad
noncomputable def dz(U:M PG)(n:L):cE->bh->Fl
|.nil=>λO=>.nx O
|.cons s r=>λO=>match pS U n s O with
 |.nx σ'=>dz U n r σ'
 |x=>x
|.two s t r=>λO=>match xC U s t O with
 |.nx σ'=>dz U n r σ'
 |x=>x
|.chg s r=>λO=>match qS U s O with
 |.nx σ'=>dz U n r σ'
 |x=>x
end
noncomputable def v_(N:M Str)(ds:M D):bh:=ds.map Y++a8 (N.length-ds.length) B
noncomputable def EB:Fl->R D
|.nx _=>.ok .non
|.rt d=>.ok d
|.ex x=>.ex x
|_=>.bad
def IJ(U:M PG)(n:L)(N:M Str)(c:cE)(ds:M D):R D:=EB (dz U n c (v_ N ds))
mutual
noncomputable def yk:CS->Bool
|.expr e=>cX e
|.asg g e=>ltG g&&cX e
|.aug _ e=>cX e
|.casg _ e=>cX e
|.acl _ _ as=>iX as
|.tasg g e=>ltG g&&cX e
|.ret e=>cX e
|.rcl _ as=>iX as
|.ifs c a b=>cX c&&(jq a&&jq b)
|.whil c b=>cX c&&jq b
|.forr _ src b=>ltI src&&jq b
|_=>J
noncomputable def jq:cE->Bool
|.nil=>J
|.cons s r=>yk s&&jq r
|.two s t r=>yk s&&(yk t&&jq r)
|.chg s r=>yk s&&jq r
noncomputable def ltG:CG->Bool
|.sub o i=>cX o&&cX i
|_=>J
end
structure bu (K:aa) (F0 H0:Hp) (σd:bh) (O:L2.St) (F H:Hp) (fp:L->M Addr):Prop where
 g:bS F0 H0 F H
 len:σd.length=O.length
 rep:∀(i:L) d,σd[i]?=Y (Y d)->∃v,O[i]?=Y (Y v)/\bz K H F d v (fp i)
 ex:∀i,oU H (fp i)
 nd:∀i,(fp i).Nodup
 nf:∀i a,a∈fp i->F a=B
 nh:∀i a,a∈fp i->H0 a=B
 dis:∀i j a,a∈fp i->a∈fp j->i=j
structure j7 (K:aa) (H0 F H:Hp) (fp:L->M Addr) (d:D) (v:V) (f:M Addr):Prop where
 r:bz K H F d v f
 nd:f.Nodup
 nf:∀a∈f,F a=B
 nh:∀a∈f,H0 a=B
 dis:∀i a,a∈f->a∉fp i
section
variable{K:aa}{F0 H0 F H:Hp}{σd:bh}{O:L2.St}{fp:L->M Addr}
theorem Ct:∀(n:L) (O:bh) (i:L),(oE n O)[i]?=if i=n then(O[i]?).map (Option.map bE)else O[i]?
|n,[],i=>by cases n<;>simp[oE]
|0,o::r,0=>by simp[oE]
|0,o::r,i+1=>by simp[oE]
|n+1,o::r,0=>by simp[oE]
|n+1,o::r,i+1=>by
 simp only[oE,nq,Ct n r i];by_cases h:i=n
 ·simp[h]
 ·simp[h]
theorem IK:∀(n:L) (O:bh),(oE n O).length=O.length
|n,[]=>by cases n<;>rfl
|0,o::r=>rfl
|n+1,o::r=>by simp[oE,IK n r]
theorem zw:∀(is:M L) (O:bh),(jL is O).length=O.length
|[],O=>rfl
|i::is,O=>by rw[jL,zw is,IK]
noncomputable def ownAt(fp:L->M Addr)(is:M L):M Addr:=is.flatMap fp
def d8:a∈ownAt fp is↔∃i∈is,a∈fp i:=by simp[ownAt,List.mem_flatMap]
def bu.lists(I:bu K F0 H0 σd O F H fp)(is:M L):oU H (ownAt fp is):=λa ha=>by
 let#[i,_,h]:=d8.mp ha;exact I.ex i a h
def bu.env(I:bu K F0 H0 σd O F H fp)(is:M L):jo K (adopt F H (ownAt fp is)) H is σd O:=#[λi hi d e=>by
 let#[v,h1,h2]:=I.rep i d e;exact#[v,h1,bz.fix (c_ I.g.s) d v _ (λa ha=>jC (d8.mpr #[i,hi,ha])) h2],λk d e=>by
 let#[v,h1,h2]:=I.rep k d e;exact#[v,adopt F H (ownAt fp [k]),h1,dZ I.g.s,bz.fix (c_ I.g.s) d v _ (λa ha=>jC (d8.mpr #[k,aQ.mpr rfl,ha])) h2]]
def bu.WM(I:bu K F0 H0 σd O F H fp)(g:bS (adopt F H (ownAt fp is)) H F' H')(ha:a∈fp i)(hn:a∉ownAt fp is):F' a=B:=by
 let#[o,e,k]:=I.ex i a ha;cases q:F' a with
 |none=>rfl
 |some u=>exact((g.n a u q (by rw[jY hn];exact I.nf i a ha)).own e k).elim
def bu.WN(I:bu K F0 H0 σd O F H fp)(g:bS (adopt F H (ownAt fp is)) H F' H'):bS F0 H0 F' H':=by
 refine#[I.g.h.trans g.h,(I.g.f.trans (c_ I.g.s)).trans g.f,g.s,λb o h h'=>?_];cases q:adopt F H (ownAt fp is) b with
 |none=>exact NT.back I.g.h (g.n b o h q)
 |some u=>
  by_cases z:b∈ownAt fp is
  ·let#[i,_,hb]:=d8.mp z;exact .of (I.nh i b hb)
  ·rw[jY z]at q;exact I.g.n b u q h'
def bu.back(I:bu K F0 H0 σd O F H fp)(g:bS (adopt F H (ownAt fp is)) H F' H'):bu K F0 H0 σd O (minus F' (ownAt fp is)) H' fp where
 g:=by
  have g0:=I.WN g;refine#[g0.h,λb o h=>?_,(kY _ _).trans g0.s,λb o h h'=>g0.n b o (kY _ _ b o h) h'];have hn:b∉ownAt fp is:=λz=>by
   let#[i,_,hb]:=d8.mp z;have:=I.nf i b hb;rw[I.g.f b o h]at this;cases this
  rw[gQ hn];exact g0.f b o h
 len:=I.len
 rep:=λi d e=>by
  let#[v,h1,h2]:=I.rep i d e;refine#[v,h1,bz.mono ?_ d v _ (λa ha=>?_) h2]
  ·intro b o h;have hn:b∉ownAt fp is:=λz=>by
    let#[i,_,hb]:=d8.mp z;have:=I.nf i b hb;rw[h]at this;cases this
   rw[gQ hn];exact g.f b o (c_ I.g.s b o h)
  ·let#[o,e,_]:=I.ex i a ha;rw[e,g.h a o e]
 ex:=λi=>(I.ex i).mono g.h
 nd:=I.nd
 nf:=λi a ha=>by
  by_cases hn:a∈ownAt fp is
  ·exact Cn hn
  ·rw[gQ hn];exact I.WM g ha hn
 nh:=I.nh
 dis:=I.dis
def FH:∀(is:M L) (O:bh) (i:L),(jL is O)[i]?=Y (Y d)->∃d',O[i]?=Y (Y d')/\((i∈is/\d=bE d')\/(i∉is/\d=d')):=by
 have ff:=Ew;intro is;induction is with
 |nil=>intro O i h;exact#[d,h,.inr #[aP,rfl]]
 |cons j is ih=>
  intro O i h;let#[d1,e1,e2]:=ih (oE j O) i h;rw[Ct]at e1;by_cases hj:i=j
  ·rw[aB hj]at e1;cases q:O[i]? with
   |none=>rw[q]at e1;cases e1
   |some o=>
    cases o with
    |none=>rw[q]at e1;cases e1
    |some d'=>
     rw[q]at e1;cases e1;refine#[d',rfl,.inl #[by rw[hj];exact aj,?_]];rcases e2 with⟨_,rfl⟩|⟨_,rfl⟩
     ·exact ff d'
     ·rfl
  ·rw[aD hj]at e1;refine#[d1,e1,?_];rcases e2 with⟨h1,h2⟩|⟨h1,h2⟩
   ·exact .inl #[ai _ h1,h2]
   ·exact .inr #[λz=>by rcases aM.mp z with z|z;exact hj z;exact h1 z,h2]
def bu.M8(I:bu K F0 H0 σd O F H fp)(g:bS (adopt F H (ownAt fp is)) H F' H'):bu K F0 H0 (jL is σd) O F' H' (λi=>if i∈is then[]else fp i) where
 g:=I.WN g
 len:=by rw[zw];exact I.len
 rep:=λi d e=>by
  let#[d',e1,e2]:=FH is σd i e;rcases e2 with⟨h1,rfl⟩|⟨h1,rfl⟩
  ·let#[v,q1,q2]:=(I.env is).e i h1 d' e1;exact#[v,q1,by rw[aB h1];exact bg.zf d' v (bg.mono g.f d' v q2)]
  ·let#[v,q1,q2]:=I.rep i d e1;refine#[v,q1,?_];rw[aD h1];refine bz.mono ((c_ I.g.s).trans g.f) d v _ (λa ha=>?_) q2;let#[o,e,_]:=I.ex i a ha;rw[e,g.h a o e]
 ex:=λi=>by
  by_cases h:i∈is
  ·rw[aB h];exact λa ha=>aG ha aP
  ·rw[aD h];exact(I.ex i).mono g.h
 nd:=λi=>by
  by_cases h:i∈is
  ·rw[aB h];exact di
  ·rw[aD h];exact I.nd i
 nf:=λi a ha=>by
  by_cases h:i∈is
  ·rw[aB h]at ha;exact aG ha aP
  ·rw[aD h]at ha;refine I.WM g ha λz=>?_;let#[j,hj,hb]:=d8.mp z;have:=I.dis i j a ha hb;subst this;exact h hj
 nh:=λi a ha=>by
  by_cases h:i∈is
  ·rw[aB h]at ha;exact aG ha aP
  ·rw[aD h]at ha;exact I.nh i a ha
 dis:=λi j a ha hb=>by
  by_cases h:i∈is
  ·rw[aB h]at ha;exact aG ha aP
  ·by_cases h':j∈is
   ·rw[aB h']at hb;exact aG hb aP
   ·rw[aD h]at ha;rw[aD h']at hb;exact I.dis i j a ha hb
def bu.told(I:bu K F0 H0 σd O F H fp)(g:bS (adopt F H (ownAt fp is)) H F' H')(fr:iu f H F')(r:bz K H' F' d v f):∃F1 fp1,bu K F0 H0 (iO is (be d) σd) O F1 H' fp1/\j7 K H0 F1 H' fp1 d v f/\(be d=J->fp1=fp)/\∀i,i∉is->fp1 i=fp i:=by
 have nn:∀i a,a∈f->a∉fp i:=λi a ha hb=>by
  let#[o,e,_]:=I.ex i a hb;rw[fr.nh a ha]at e;cases e
 cases ho:be d with
 |true=>
  refine#[_,fp,I.back g,#[bz.less (mX g.s ((I.lists is).mono g.h)) d v f ho r,fr.nd,λa ha=>?_,λa ha=>aZ.none I.g.h (fr.nh a ha),nn],λ_=>rfl,λ_ _=>rfl];exact aZ.none (kY _ _) (fr.nf a ha)
 |false=>
  refine#[_,_,I.M8 g,#[r,fr.nd,fr.nf,λa ha=>aZ.none I.g.h (fr.nh a ha),λi a ha hb=>?_],(λz=>nomatch z),λi hi=>aD hi];by_cases h:i∈is
  ·rw[aB h]at hb;exact aG hb aP
  ·rw[aD h]at hb;exact nn i a ha hb
def bu.set{v:V}(I:bu K F0 H0 σd O F H fp)(V:j7 K H0 F H fp d v f)(k:L):bu K F0 H0 (σd.set k (Y d)) (O.set k (Y v)) F H (λi=>if i=k then f else fp i) where
 g:=I.g
 len:=by simp[I.len]
 rep:=λi d' e=>by
  by_cases h:i=k
  ·subst h;rw[aB rfl];rw[fP]at e;by_cases hi:i<σd.length
   ·simp[hi]at e;subst e;exact#[v,by rw[fP];simp[<-I.len,hi],V.r]
   ·simp[hi]at e
  ·rw[aD h];rw[bG (fj h)]at e;let#[w,h1,h2]:=I.rep i d' e;exact#[w,by rw[bG (fj h)];exact h1,h2]
 ex:=λi=>by
  by_cases h:i=k
  ·rw[aB h];exact bz.ex d v f V.r
  ·rw[aD h];exact I.ex i
 nd:=λi=>by
  by_cases h:i=k
  ·rw[aB h];exact V.nd
  ·rw[aD h];exact I.nd i
 nf:=λi a ha=>by
  by_cases h:i=k
  ·rw[aB h]at ha;exact V.nf a ha
  ·rw[aD h]at ha;exact I.nf i a ha
 nh:=λi a ha=>by
  by_cases h:i=k
  ·rw[aB h]at ha;exact V.nh a ha
  ·rw[aD h]at ha;exact I.nh i a ha
 dis:=λi j a ha hb=>by
  by_cases h:i=k
  ·rw[aB h]at ha;by_cases h':j=k
   ·rw[h,h']
   ·rw[aD h']at hb;exact aG hb (V.dis j a ha)
  ·rw[aD h]at ha;by_cases h':j=k
   ·rw[aB h']at hb;exact aG ha (V.dis i a hb)
   ·rw[aD h']at hb;exact I.dis i j a ha hb
def bu.put(I:bu K F0 H0 σd O F H fp)(ha:a∈fp k)(hv:O[k]?=Y (Y v))(hr:bz K (upd H a o) F d v f)(nd:f.Nodup)(nf:∀b∈f,F b=B)(nh:∀b∈f,H0 b=B)(dis:∀i,i≠k->∀b∈f,b∉fp i):bu K F0 H0 (σd.set k (Y d)) O F (upd H a o) (λi=>if i=k then f else fp i):=by
 have hF:=I.nf k a ha;have hH0:=I.nh k a ha;have hne:∀i,i≠k->∀b∈fp i,b≠a:=λi hi b hb z=>by
  subst z;exact hi (I.dis i k b hb ha)
 refine#[#[λb u q=>by rw[bf (bX q hH0)];exact I.g.h b u q,I.g.f,λb u q=>by rw[bf (bX q hF)];exact I.g.s b u q,I.g.n],by simp[I.len],λi d' e=>?_,λi=>?_,λi=>?_,λi b hb=>?_,λi b hb=>?_,λi j b hb hc=>?_]
 ·by_cases h:i=k
  ·subst h;rw[aB rfl];rw[fP]at e;by_cases hi:i<σd.length
   ·simp[hi]at e;subst e;exact#[v,hv,hr]
   ·simp[hi]at e
  ·rw[aD h];rw[bG (fj h)]at e;let#[w,h1,h2]:=I.rep i d' e;exact#[w,h1,bz.mono (aZ.refl _) d' w _ (λb hb=>bf (hne i h b hb)) h2]
 ·by_cases h:i=k
  ·rw[aB h];exact bz.ex d v f hr
  ·rw[aD h];intro b hb;let#[u,e,q]:=I.ex i b hb;exact#[u,by rw[bf (hne i h b hb)];exact e,q]
 ·by_cases h:i=k
  ·rw[aB h];exact nd
  ·rw[aD h];exact I.nd i
 ·by_cases h:i=k
  ·rw[aB h]at hb;exact nf b hb
  ·rw[aD h]at hb;exact I.nf i b hb
 ·by_cases h:i=k
  ·rw[aB h]at hb;exact nh b hb
  ·rw[aD h]at hb;exact I.nh i b hb
 ·by_cases h:i=k
  ·rw[aB h]at hb;by_cases h':j=k
   ·rw[h,h']
   ·rw[aD h']at hc;exact aG hc (dis j h' b hb)
  ·rw[aD h]at hb;by_cases h':j=k
   ·rw[aB h']at hc;exact aG hb (dis i h b hc)
   ·rw[aD h']at hc;exact I.dis i j b hb hc
def bu.rebase(I:bu K F0 H0 σd O F H fp):bu K F H0 σd O F H fp:=#[#[I.g.h,aZ.refl _,I.g.s,λb o h h'=>by rw[h]at h';cases h'],I.len,I.rep,I.ex,I.nd,I.nf,I.nh,I.dis]
def bu.Dt(g0:bS F0 H0 F1 H1)(I:bu K F1 H0 σd O F H fp):bu K F0 H0 σd O F H fp:=#[#[I.g.h,g0.f.trans I.g.f,I.g.s,λb o h h'=>by
 cases q:F1 b with
 |none=>exact I.g.n b o h q
 |some u=>exact g0.n b u q h'],I.len,I.rep,I.ex,I.nd,I.nf,I.nh,I.dis]
end
def b8[Ex](K:aa)(F0 H0:Hp)(fl:Fl)(X:Ends):Prop:=match fl with
|.nx σd=>∀O F H fp,bu K F0 H0 σd O F H fp->X.nx O H
|.bk σd=>∀O F H fp,bu K F0 H0 σd O F H fp->X.bk O H
|.ct σd=>∀O F H fp,bu K F0 H0 σd O F H fp->X.ct O H
|.rt d=>∀v F H f,bS F0 H0 F H->iu f H0 F->bz K H F d v f->X.rt v H
|.ex x=>kM K F0 H0 x
|.bad=>aR
section
variable{K:aa}{Γp:M PG}{U:M G}{F0 H0 F H:Hp}{σd:bh}{O:L2.St}{fp:L->M Addr}{X:Ends}
def X7(g0:bS F0 H0 F1 H1)(g:bS F1 H0 F H):bS F0 H0 F H:=#[g.h,g0.f.trans g.f,g.s,λb o h h'=>by
 cases q:F1 b with
 |none=>exact g.n b o h q
 |some u=>exact g0.n b u q h']
def b8.rebase[Ex](g0:bS F0 H0 F1 H1)(h:b8 K F0 H0 fl X):b8 K F1 H0 fl X:=by
 cases fl with
 |nx σd=>exact λO F H fp I=>h O F H fp (I.Dt g0)
 |bk σd=>exact λO F H fp I=>h O F H fp (I.Dt g0)
 |ct σd=>exact λO F H fp I=>h O F H fp (I.Dt g0)
 |rt d=>exact λv F H f g fr r=>h v F H f (X7 g0 g) fr r
 |ex x=>
  cases x with
  |_=>exact h
 |bad=>exact h
def zx[Ex]{α:Type}{r:R α}{f:α->Fl}(h:b8 K F0 H0 (r.a_ f) X)(n:r.bQ):∃a,r=.ok a/\b8 K F0 H0 (f a) X:=by
 cases r with
 |ok a=>exact#[a,rfl,h]
 |ex x=>exact aG rfl (n x)
 |bad=>exact h.elim
def mj[Ex]{α:Type}{r:R α}{f:α->Fl}(h:b8 K F0 H0 (r.a_ f) X):(∃x,r=.ex x/\kM K F0 H0 x)\/∃a,r=.ok a/\b8 K F0 H0 (f a) X:=by
 cases r with
 |ok a=>exact .inr #[a,rfl,h]
 |ex x=>exact .inl #[x,rfl,h]
 |bad=>exact h.elim
def EC[Ex]{α:Type}{b:Bool}{r:R α}{f:α->Fl}(h:b8 K F0 H0 (r.jR b f) X):(b=J/\∃x,r=.ex x/\kM K F0 H0 x)\/∃a,r=.ok a/\b8 K F0 H0 (f a) X:=by
 cases r with
 |ok a=>exact .inr #[a,rfl,h]
 |ex x=>
  cases b with
  |true=>exact .inl #[rfl,x,rfl,h]
  |false=>exact h.elim
 |bad=>exact h.elim
def ED[Ex]{α:Type}{r:R α}{f:α->Fl}(h:b8 K F0 H0 (r.jR W f) X):∃a,r=.ok a/\b8 K F0 H0 (f a) X:=by
 rcases EC h with⟨z,_⟩|z
 ·cases z
 ·exact z
mutual
theorem IL:∀(g:CG) (d:D) (O:bh),(pG g d O).bQ
|.name i,d,O=>bQ.ok
|.tup gs,d,O=>by
 cases d<;>first|exact bQ.bad|skip
 exact bQ.bI (LB gs _ O)
|.sub _ _,d,O=>bQ.bad
theorem LB:∀(g:rF) (ds:M D) (O:bh),(yi g ds O).bQ
|.nil,ds,O=>by cases ds<;>first|exact bQ.ok|exact bQ.bad
|.cons g r,ds,O=>by
 cases ds with
 |nil=>exact bQ.bad
 |cons d dr=>exact bQ.bind (IL g d O) fun σ'=>LB r dr σ'
end
theorem Pp(F H:Hp):adopt F H []=F:=by rfl
def bu.grow(I:bu K F0 H0 σd O F H fp)(g:bS F H F1 H1):bu K F0 H0 σd O F1 H1 fp:=by
 have e:ownAt fp []=[]:=rfl;have q:=I.back (by rw[e,Pp];exact g);rw[e,Fw]at q;exact q
def j7.aaD(r:bg K F d v):j7 K H0 F H fp (bE d) v []:=#[bg.zf d v r,di,λ_ h=>aG h aP,λ_ h=>aG h aP,λ_ _ h=>aG h aP]
mutual
theorem ruG':∀(g:CG) {d:D}{v:V}{σd aey:bh}{O:L2.St}{fp:L->M Addr}{Q:L2.St->Hp->Prop},bu K F0 H0 σd O F H fp->bg K F d v->pG g (bE d) σd=.ok aey->(∀σ' fp',bu K F0 H0 aey σ' F H fp'->Q σ' H)->wG K U E g v O H Q
|.name i,d,v,σd,aey,O,fp,Q,I,r,e,h=>by
 cases e;exact h _ _ (I.set (j7.aaD r) i)
|.tup gs,d,v,σd,aey,O,fp,Q,I,r,e,h=>by
 cases d with
 |tup ds=>
  let#[b,vs,rfl,h2,h3,h4]:=r;let#[c,e]:=kO (show R.bI (decide ((aF ds).length=gs.len)) (yi gs (aF ds) σd)=.ok aey from e);have c:=aq c;rw[jD]at c;exact#[J,vs,(tupS h2).same' I.g.s,rfl,by rw[h4.len];exact c,ruGs' gs I h4 e h]
 |_=>cases e
|.sub _ _,d,v,σd,aey,O,fp,Q,I,r,e,h=>by cases e
theorem ruGs':∀(g:rF) {ds:M D}{vs:M V}{σd aey:bh}{O:L2.St}{fp:L->M Addr}{Q:L2.St->Hp->Prop},bu K F0 H0 σd O F H fp->aU K F ds vs->yi g (aF ds) σd=.ok aey->(∀σ' fp',bu K F0 H0 aey σ' F H fp'->Q σ' H)->Fi K U E g vs O H Q
|.nil,ds,vs,σd,aey,O,fp,Q,I,r,e,h=>by
 cases ds with
 |nil=>cases r;cases e;exact h O fp I
 |cons d dr=>cases e
|.cons g gr,ds,vs,σd,aey,O,fp,Q,I,r,e,h=>by
 cases ds with
 |nil=>cases e
 |cons d dr=>
  let#[v,vr,rfl,r1,r2]:=r;let#[σ2,e1,e2]:=cJ (show((pG g (bE d) σd).bind fun σ'=>yi gr (aF dr) σ')=.ok aey from e);exact ruG' g I r1 e1 fun σ' fp' I'=>ruGs' gr I' r2 e2 h
end
mutual
theorem aaE:∀(g:CG) {d:D}{v:V}{σd aey:bh}{O:L2.St}{fp:L->M Addr}{f:M Addr}{Q:L2.St->Hp->Prop},bu K F0 H0 σd O F H fp->j7 K H0 F H fp d v f->pG g d σd=.ok aey->
 (∀σ' fp',bu K F0 H0 aey σ' F H fp'->(∀i a,a∈fp' i->a∈f\/a∈fp i)->Q σ' H)->wG K U E g v O H Q
|.name i,d,v,σd,aey,O,fp,f,Q,I,V,e,h=>by
 cases e;refine h _ _ (I.set V i) λj a ha=>?_;by_cases c:j=i
 ·rw[aB c]at ha;exact .inl ha
 ·rw[aD c]at ha;exact .inr ha
|.tup gs,d,v,σd,aey,O,fp,f,Q,I,V,e,h=>by
 cases d with
 |tup ds=>
  let#[b,vs,rfl,h2,h3,h4]:=V.r;let#[c,e]:=kO e;exact#[J,vs,(tupS h2).same' I.g.s,rfl,by rw[h4.len];exact aq c,WO gs I h4 V.nd V.nf V.nh V.dis e h]
 |_=>cases e
|.sub _ _,d,v,σd,aey,O,fp,f,Q,I,V,e,h=>by cases e
theorem WO:∀(g:rF) {ds:M D}{vs:M V}{σd aey:bh}{O:L2.St}{fp:L->M Addr}{f:M Addr}{Q:L2.St->Hp->Prop},bu K F0 H0 σd O F H fp->aY K H F ds vs f->f.Nodup->(∀a∈f,F a=B)->(∀a∈f,H0 a=B)->
 (∀i a,a∈f->a∉fp i)->yi g ds σd=.ok aey->(∀σ' fp',bu K F0 H0 aey σ' F H fp'->(∀i a,a∈fp' i->a∈f\/a∈fp i)->Q σ' H)->Fi K U E g vs O H Q
|.nil,ds,vs,σd,aey,O,fp,f,Q,I,r,nd,nf,nh,dis,e,h=>by
 cases ds with
 |nil=>
  let#[rfl,_]:=r;cases e;exact h O fp I λ_ _ z=>.inr z
 |cons d dr=>cases e
|.cons g gr,ds,vs,σd,aey,O,fp,f,Q,I,r,nd,nf,nh,dis,e,h=>by
 cases ds with
 |nil=>cases e
 |cons d dr=>
  let#[v,vr,f1,f2,rfl,rfl,r1,r2]:=r;let#[σ2,e1,e2]:=cJ e;let#[n1,n2,n3]:=bP.mp nd;refine aaE g I #[r1,n1,λa ha=>nf a (aX _ ha),λa ha=>nh a (aX _ ha),λi a ha=>dis i a (aX _ ha)] e1 fun σ' fp' I' sub=>?_;refine WO gr I' r2 n2 (λa ha=>nf a (aK _ ha)) (λa ha=>nh a (aK _ ha)) (λi a ha z=>?_) e2 fun σ3 fp3 I3 sub3=>h σ3 fp3 I3 λi a ha=>?_
  ·rcases sub i a z with q|q
   ·exact n3 a q a ha rfl
   ·exact dis i a (aK _ ha) q
  ·rcases sub3 i a ha with q|q
   ·exact .inl (aK _ q)
   ·rcases sub i a q with q|q
    ·exact .inl (aX _ q)
    ·exact .inr q
end
def zy[Ex](hΓ:dc K Γp U)(I:bu K F0 H0 σd O F H fp)(lt:cX e=J)(he:pE Γp e σd=.ok d)(h:∀v F1 H1 fp1 f,bu K F0 H0 (iO (cL e) (be d) σd) O F1 H1 fp1->j7 K H0 F1 H1 fp1 d v f->Q v H1):wE K U Ex.E e O H Q:=by
 refine gk hΓ e (I.env (cL e)) (dZ I.g.s) lt ?_;rw[he];intro F' H' v f g fr r;let#[F1,fp1,I1,V1,_,_]:=I.told g fr r;exact h v F1 H' fp1 f I1 V1
def runD'[Ex](hΓ:dc K Γp U)(I:bu K F0 H0 σd O F H fp)(lt:cX e=J)(he:pE Γp e σd=.ok d)(h:∀v F1 H1,bu K F0 H0 σd O F1 H1 fp->aZ H H1->(be d=J->∃f,j7 K H0 F1 H1 fp d v f)->Q v H1):wE K U Ex.E e O H Q:=by
 refine gk hΓ e (I.env (cL e)) (dZ I.g.s) lt ?_;rw[he];intro F' H' v f g fr r;refine h v _ H' (I.back g) g.h λho=>?_;refine#[f,bz.less (mX g.s ((I.lists _).mono g.h)) d v f ho r,fr.nd,λa ha=>aZ.none (kY _ _) (fr.nf a ha),λa ha=>aZ.none I.g.h (fr.nh a ha),λi a ha hb=>?_];let#[o,e,_]:=I.ex i a hb;rw[fr.nh a ha]at e;cases e
def j7.back(I:bu K F0 H0 σd O F H fp){v:V}(V:j7 K H0 F H fp d v f)(g:bS (adopt F H (ownAt fp is)) H F' H'):j7 K H0 (minus F' (ownAt fp is)) H' fp d v f:=by
 have hn:∀a∈f,a∉ownAt fp is:=λa ha z=>by
  let#[i,_,hb]:=d8.mp z;exact V.dis i a ha hb
 have hx:=bz.ex d v f V.r;refine#[bz.mono ?_ d v f (λa ha=>?_) V.r,V.nd,λa ha=>?_,V.nh,V.dis]
 ·intro b o h;have hb:b∉ownAt fp is:=λz=>by
   let#[i,_,hb]:=d8.mp z;have:=I.nf i b hb;rw[h]at this;cases this
  rw[gQ hb];exact g.f b o (c_ I.g.s b o h)
 ·let#[o,e,_]:=hx a ha;rw[e,g.h a o e]
 ·rw[gQ (hn a ha)];let#[o,e,k]:=hx a ha;cases q:F' a with
  |none=>rfl
  |some u=>exact((g.n a u q (by rw[jY (hn a ha)];exact V.nf a ha)).own e k).elim
structure n9 (K:aa) (H0 F H:Hp) (fp:L->M Addr) (ds:M D) (vs:M V) (f:M Addr):Prop where
 r:aY K H F ds vs f
 nd:f.Nodup
 nf:∀a∈f,F a=B
 nh:∀a∈f,H0 a=B
 dis:∀i a,a∈f->a∉fp i
def n9.back(I:bu K F0 H0 σd O F H fp){v:M V}(V:n9 K H0 F H fp d v f)(g:bS (adopt F H (ownAt fp is)) H F' H'):n9 K H0 (minus F' (ownAt fp is)) H' fp d v f:=by
 have hn:∀a∈f,a∉ownAt fp is:=λa ha z=>by
  let#[i,_,hb]:=d8.mp z;exact V.dis i a ha hb
 have hx:=aY.ex d v f V.r;refine#[aY.mono ?_ d v f (λa ha=>?_) V.r,V.nd,λa ha=>?_,V.nh,V.dis]
 ·intro b o h;have hb:b∉ownAt fp is:=λz=>by
   let#[i,_,hb]:=d8.mp z;have:=I.nf i b hb;rw[h]at this;cases this
  rw[gQ hb];exact g.f b o (c_ I.g.s b o h)
 ·let#[o,e,_]:=hx a ha;rw[e,g.h a o e]
 ·rw[gQ (hn a ha)];let#[o,e,k]:=hx a ha;cases q:F' a with
  |none=>rfl
  |some u=>exact((g.n a u q (by rw[jY (hn a ha)];exact V.nf a ha)).own e k).elim
def n9.snoc{vs:M V}{v:V}(V:n9 K H0 F H fp ds vs f)(aaC:j7 K H0 F H fp d v f')(hd:∀a∈f,a∉f'):n9 K H0 F H fp (ds++[d]) (vs++[v]) (f++f'):=by
 refine#[V.r.app #[v,[],f',[],rfl,by simp,aaC.r,rfl,rfl],bP.mpr #[V.nd,aaC.nd,λa ha b hb z=>hd a ha (by rw[z];exact hb)],λa ha=>?_,λa ha=>?_,λi a ha=>?_]
 ·rcases a6.mp ha with q|q
  ·exact V.nf a q
  ·exact aaC.nf a q
 ·rcases a6.mp ha with q|q
  ·exact V.nh a q
  ·exact aaC.nh a q
 ·rcases a6.mp ha with q|q
  ·exact V.dis i a q
  ·exact aaC.dis i a q
def runN[Ex](hΓ:dc K Γp U)(I:bu K F0 H0 σd O F H fp)(V0:n9 K H0 F H fp ds vs f0)(lt:cX e=J)(he:pE Γp e σd=.ok d)(ho:be d=J)(h:∀v F1 H1 f,bu K F0 H0 σd O F1 H1 fp->n9 K H0 F1 H1 fp (ds++[d]) (vs++[v]) f->Q v H1):wE K U Ex.E e O H Q:=by
 refine gk hΓ e (I.env (cL e)) (dZ I.g.s) lt ?_;rw[he];intro F' H' v f g fr r;refine h v _ H' _ (I.back g) ((V0.back I g).snoc #[bz.less (mX g.s ((I.lists _).mono g.h)) d v f ho r,fr.nd,λa ha=>aZ.none (kY _ _) (fr.nf a ha),λa ha=>aZ.none I.g.h (fr.nh a ha),λi a ha hb=>?_] λa ha hb=>?_)
 ·let#[o,e,_]:=I.ex i a hb;rw[fr.nh a ha]at e;cases e
 ·let#[o,e,_]:=aY.ex ds vs f0 V0.r a ha;rw[fr.nh a hb]at e;cases e
def bu.M9(I:bu K F0 H0 σd O F H fp)(k:L):bu K F0 H0 (σd.set k B) O F H (λi=>if i=k then[]else fp i):=by
 have sub:∀i a,a∈(if i=k then[]else fp i)->a∈fp i:=λi a ha=>by grind
 refine#[I.g,by simp[I.len],λi d e=>?_,λi a ha=>I.ex i a (sub i a ha),λi=>?_,λi a ha=>I.nf i a (sub i a ha),λi a ha=>I.nh i a (sub i a ha),λi j a ha hb=>I.dis i j a (sub i a ha) (sub j a hb)]
 ·by_cases c:i=k
  ·subst c;rw[fP]at e;by_cases hi:i<σd.length
   ·simp[hi]at e
   ·simp[hi]at e
  ·rw[bG (fj c)]at e;rw[aD c];exact I.rep i d e
 ·by_cases c:i=k
  ·rw[aB c];exact di
  ·rw[aD c];exact I.nd i
def runV[Ex](hΓ:dc K Γp U)(I:bu K F0 H0 σd O F H fp)(V0:j7 K H0 F H fp d0 v0 f0)(lt:cX e=J)(he:pE Γp e σd=.ok d)(h:∀v F1 H1,bu K F0 H0 σd O F1 H1 fp->j7 K H0 F1 H1 fp d0 v0 f0->(∀{x:D},d=x->be x=J->bg K H1 x v)->Q v H1):wE K U Ex.E e O H Q:=by
 refine gk hΓ e (I.env (cL e)) (dZ I.g.s) lt ?_;rw[he];intro F' H' v f g fr r;refine h v _ H' (I.back g) (V0.back I g) λz ho=>?_;subst z;let#[F2,g2,s2,rf]:=MX g fr r;exact bg.mono g2.s d v rf
def TQ[Ex](hΓ:dc K Γp U){Q:Bool->Hp->Prop}(I:bu K F0 H0 σd O F H fp)(lt:cX e=J)(he:pT Γp e σd=.ok b)(h:∀F1 H1,bu K F0 H0 σd O F1 H1 fp->Q b H1):wT K U Ex.E e O H Q:=by
 refine yj hΓ e (I.env (cL e)) (dZ I.g.s) lt ?_;rw[he];exact λF' H' g=>h _ H' (I.back g)
def bu.own(I:bu K F0 H0 σd O F H fp)(is:M L):bS F0 H0 (adopt F H (ownAt fp is)) H:=sM I.g λa ha=>by
 let#[i,_,hi]:=d8.mp ha;exact I.nh i a hi
def xG[Ex](hΓ:dc K Γp U){e:CE}{x:D}{Q:VK}(I:bu K F0 H0 σd O F H fp)(lt:cX e=J)(he:pE Γp e σd=.ex x)(h:kM K F0 H0 x):wE K U Ex.E e O H Q:=by
 refine gk hΓ e (I.env (cL e)) (dZ I.g.s) lt ?_;rw[he];exact kM.grow (K:=K) (x:=x) h (I.own (cL e))
def WQ[Ex](hΓ:dc K Γp U){e:CE}{x:D}{Q:Bool->Hp->Prop}(I:bu K F0 H0 σd O F H fp)(lt:cX e=J)(he:pT Γp e σd=.ex x)(h:kM K F0 H0 x):wT K U Ex.E e O H Q:=by
 refine yj hΓ e (I.env (cL e)) (dZ I.g.s) lt ?_;rw[he];exact kM.grow (K:=K) (x:=x) h (I.own (cL e))
def ab1[Ex](hΓ:dc K Γp U){c:CI}{x:D}{k:(Hp->Prop)->M Item->Hp->Prop}(I:bu K F0 H0 σd O F H fp)(lt:ltI c=J)(he:pI Γp c σd=.ex x)(h:kM K F0 H0 x):wI K U Ex.E c O H k:=by
 refine WK hΓ c (ownAt fp (qG c)) (I.env (qG c)) (dZ I.g.s) (I.lists _) lt ?_;rw[he];exact kM.grow (K:=K) (x:=x) h (I.own (qG c))
def EE{o:Bool}{O:bh}{k:L}(h:(o||!is.contains k)=J):(iO is o O)[k]?=O[k]?:=by
 cases o with
 |true=>rfl
 |false=>
  have hk:k∉is:=by simpa using h
  show(jL is O)[k]?=_;clear h;induction is generalizing O with
  |nil=>rfl
  |cons i is ih=>
   rw[jL,ih (λz=>hk (ai _ z)),Ct,aD (λz=>hk (by rw[z];exact aj))]
def bu.lst{k:L}{xs:M D}(I:bu K F0 H0 σd O F H fp)(e:σd[k]?=Y (Y (.lst J xs))):∃a vs fs,O[k]?=Y (Y (.ref a))/\H a=Y (.lst vs)/\vs.length<=ah/\aY K H F xs vs fs/\fp k=a::fs:=by
 let#[v,h1,h2]:=I.rep k _ e;unfold bz at h2;rw[aB rfl]at h2;let#[a,vs,fs,rfl,q]:=h2;exact#[a,vs,fs,h1,q]
def slot_of{k:V->Prop}(h:O[i]?=Y (Y v))(q:k v):jW O i k:=by
 unfold jW;rw[h];exact q
theorem aY.set:∀{ds:M D}{vs:M V}{fs f:M Addr} (n:L) {d:D}{v:V},aY K H F ds vs fs->bz K H F d v f->(fs++f).Nodup->∃fs',aY K H F (ds.set n d) (vs.set n v) fs'/\fs'.Nodup/\∀b∈fs',b∈fs\/b∈f
|[],_,_,_,n,_,_,h,_,nd=>by
 let#[rfl,rfl]:=h;exact#[[],#[rfl,rfl],di,λb hb=>aG hb aP]
|e::ds,_,_,f,0,d,v,h,hd,nd=>by
 let#[w,r,f1,f2,rfl,rfl,h3,h4]:=h;refine#[f++f2,#[v,r,f,f2,rfl,rfl,hd,h4],?_,?_]
 ·grind
 ·grind
|e::ds,_,_,f,n+1,d,v,h,hd,nd=>by
 let#[w,r,f1,f2,rfl,rfl,h3,h4]:=h;have nd':(f2++f).Nodup/\f1.Nodup/\∀a∈f1,∀b,(b∈f2\/b∈f)->a≠b:=by
  rw[bx]at nd;let#[n1,n2,n3]:=bP.mp nd;exact#[n2,n1,λa ha b hb=>n3 a ha b (a6.mpr hb)]
 let#[fs',q1,q2,q3]:=aY.set n h4 hd nd'.1;refine#[f1++fs',#[w,_,f1,fs',rfl,rfl,h3,q1],bP.mpr #[nd'.2.1,q2,λa ha b hb=>nd'.2.2 a ha b (q3 b hb)],?_];intro b hb;rcases a6.mp hb with hb|hb
 ·exact .inl (aX _ hb)
 ·grind
def bu.ab2{k:L}{o:HO}{d':D}{a:Addr}{fs fs' f:M Addr}{d:D}{v:V}(I:bu K F0 H0 σd O F H fp)(V:j7 K H0 F H fp d v f)(hσ:O[k]?=Y (Y (.ref a)))(hk:fp k=a::fs)(nd:fs'.Nodup)(sub:∀b∈fs',b∈fs\/b∈f)(hr:(∀b∈fs,upd H a o b=H b)->(∀b∈f,upd H a o b=H b)->bz K (upd H a o) F d' (.ref a) (a::fs')):∃fp',bu K F0 H0 (σd.set k (Y d')) O F (upd H a o) fp':=by
 have hak:a∈fp k:=by rw[hk];exact aj
 have nda:a∉fs/\fs.Nodup:=by have:=I.nd k;rw[hk]at this;exact bF.mp this
 have haf:a∉f:=λz=>V.dis k a z hak;have hs:∀b∈fs',b∈fp k\/b∈f:=λb hb=>by
  rcases sub b hb with z|z
  ·exact .inl (by rw[hk];exact ai _ z)
  ·exact .inr z
 refine#[_,I.put hak hσ (d:=d') (f:=a::fs') (hr (λb hb=>bf (λz=>nda.1 (by rw[<-z];exact hb))) (λb hb=>bf (λz=>haf (by rw[<-z];exact hb)))) ?_ ?_ ?_ ?_]
 ·refine bF.mpr #[λz=>?_,nd];rcases sub a z with z|z
  ·exact nda.1 z
  ·exact haf z
 ·intro b hb;rcases aM.mp hb with rfl|hb
  ·exact I.nf k b hak
  ·rcases hs b hb with z|z
   ·exact I.nf k b z
   ·exact V.nf b z
 ·intro b hb;rcases aM.mp hb with rfl|hb
  ·exact I.nh k b hak
  ·rcases hs b hb with z|z
   ·exact I.nh k b z
   ·exact V.nh b z
 ·intro i hi b hb hc;rcases aM.mp hb with rfl|hb
  ·exact hi (I.dis i k b hc hak)
  ·rcases hs b hb with z|z
   ·exact hi (I.dis i k b hc z)
   ·exact V.dis i b z hc
def bu.Du{xs xs':M D}{vs vs':M V}{v:V}(I:bu K F0 H0 σd O F H fp)(V:j7 K H0 F H fp d v f)(hσ:O[k]?=Y (Y (.ref a)))(hk:fp k=a::fs)(hl:vs'.length<=ah)(hr:∀{H':Hp},(∀b∈fs,H' b=H b)->(∀b∈f,H' b=H b)->aY K H' F xs' vs' fs')(nd:fs'.Nodup)(sub:∀b∈fs',b∈fs\/b∈f):∃fp',bu K F0 H0 (σd.set k (Y (.lst J xs'))) O F (upd H a (.lst vs')) fp':=I.ab2 V hσ hk nd sub λh1 h2=>by unfold bz;rw[aB rfl];exact#[a,vs',fs',rfl,dF,hl,hr h1 h2,rfl]
end
def bu.drop{fp:L->M Addr}(I:bu K F0 H0 σd O F H fp):bu K F0 H0 (σd.set i B) (O.set i w) F H fp where
 g:=I.g
 len:=by simp[I.len]
 rep:=λj d e=>by
  by_cases hij:i=j
  ·subst hij;rw[fP]at e;split at e
   ·split at e<;>cases e
   ·rename_i z;exact aG rfl z
  ·rw[bG hij]at e ⊢;exact I.rep j d e
 ex:=I.ex
 nd:=I.nd
 nf:=I.nf
 nh:=I.nh
 dis:=I.dis
section
variable{K:aa}{H H' F F':Hp}
mutual
theorem EF(as:M Addr):∀(d:D) (c:L),gy d=J->bE (jE as d c)=jE as d c
|.lst o xs,c,h=>by
 let#[_,h2]:=band' (show(o&&ck xs)=J from h);show D.adr _ (aF (dB as xs (c+1)))=_;rw[qT as xs (c+1) h2];rfl
|.tup xs,c,h=>by
 show D.tup (aF (dB as xs c))=_;rw[qT as xs c h];rfl
|.non,_,_=>rfl
|.bl _,_,_=>rfl
|.int _,_,_=>rfl
|.str _,_,_=>rfl
theorem qT(as:M Addr):∀(ds:M D) (c:L),ck ds=J->aF (dB as ds c)=dB as ds c
|[],_,_=>rfl
|d::r,c,h=>by
 let#[h1,h2]:=band' (show(gy d&&ck r)=J from h);show bE (jE as d c)::aF (dB as r (c+cT d))=_;rw[EF as d c h1,qT as r _ h2];rfl
end
def TR{α:Type}{as:M α}{c:L}{a z:α}{r:M α}(h:as.drop c=a::r):as.getD c z=a/\as.drop (c+1)=r:=by
 constructor
 ·have:=rO (xs:=as) (i:=c) (j:=0);rw[h]at this;simp at this;simp[AK,<-this]
 ·rw[<-wY,h];rfl
mutual
theorem AW:∀(d:D) {v:V}{fp:M Addr},gy d=J->bz K H F d v fp->fp.length=cT d
|.lst o xs,v,fp,h,rx=>by
 let#[h1,h2]:=band' (show(o&&ck xs)=J from h);unfold bz at rx;rw[aB h1]at rx;let#[a,vs,fs,_,_,_,x4,rfl]:=rx;show fs.length+1=eU xs+1;rw[Cu xs h2 x4]
|.tup xs,v,fp,h,rx=>by
 let#[a,vs,_,_,_,x4]:=rx;exact Cu xs h x4
|.non,v,fp,h,rx=>by rw[rx.2];rfl
|.bl _,v,fp,h,rx=>by rw[rx.2];rfl
|.int _,v,fp,h,rx=>by rw[rx.2];rfl
|.str _,v,fp,h,rx=>by rw[rx.2];rfl
theorem Cu:∀(ds:M D) {vs:M V}{fp:M Addr},ck ds=J->aY K H F ds vs fp->fp.length=eU ds
|[],vs,fp,h,rx=>by rw[rx.2];rfl
|d::ds,vs,fp,h,rx=>by
 let#[h1,h2]:=band' (show(gy d&&ck ds)=J from h);let#[v,w,f1,f2,_,rfl,x3,x4]:=rx;rw[ao,AW d h1 x3,Cu ds h2 x4];rfl
end
mutual
theorem LC(e:aZ F F')(as:M Addr):∀(d:D) {v:V}{fp r:M Addr}{c:L},gy d=J->(∀a∈fp,F' a=H a)->as.drop c=fp++r->bz K H F d v fp->bg K F' (jE as d c) v
|.lst o xs,v,fp,r,c,h,s,q,rx=>by
 let#[h1,h2]:=band' (show(o&&ck xs)=J from h);unfold bz at rx;rw[aB h1]at rx;let#[a,vs,fs,rfl,x2,x3,x4,rfl]:=rx;let#[q1,q2]:=TR (z:=0) (show as.drop c=a::(fs++r)from q);show bg K F' (.adr (as.getD c 0) (dB as xs (c+1))) _;rw[q1];exact#[vs,rfl,by rw[s a aj];exact x2,x3,Cv e as xs h2 (λb hb=>s b (ai _ hb)) q2 x4]
|.tup xs,v,fp,r,c,h,s,q,rx=>by
 let#[a,vs,x1,x2,x3,x4]:=rx;exact#[a,vs,x1,e _ _ x2,x3,Cv e as xs h s q x4]
|.non,v,fp,r,c,h,s,q,rx=>rx.1
|.bl _,v,fp,r,c,h,s,q,rx=>rx.1
|.int _,v,fp,r,c,h,s,q,rx=>rx.1
|.str _,v,fp,r,c,h,s,q,rx=>rx.1
theorem Cv(e:aZ F F')(as:M Addr):∀(ds:M D) {vs:M V}{fp r:M Addr}{c:L},ck ds=J->(∀a∈fp,F' a=H a)->as.drop c=fp++r->aY K H F ds vs fp->aU K F' (dB as ds c) vs
|[],vs,fp,r,c,h,s,q,rx=>rx.1
|d::ds,vs,fp,r,c,h,s,q,rx=>by
 let#[h1,h2]:=band' (show(gy d&&ck ds)=J from h);let#[v,w,f1,f2,rfl,rfl,x3,x4]:=rx;have q2:as.drop (c+cT d)=f2++r:=by rw[<-wY,q,bx,<-AW d h1 x3,List.drop_left]
 exact#[v,w,rfl,LC e as d h1 (λb hb=>s b (aX _ hb)) (by rw[q,bx]) x3,Cv e as ds h2 (λb hb=>s b (aK _ hb)) q2 x4]
end
def iy{α β:Type}{o:aaV α}{f:α->β}{b:β}(h:o.map f=Y b):∃a,o=Y a/\f a=b:=by
 cases o with
 |none=>cases h
 |some a=>cases h;exact#[a,rfl,rfl]
def WR(K:aa)(H F:Hp)(f:M D->aaV (M D))(c:L)(fp:M Addr)(k:Hp->Prop):Prop:=
 ∃a vs fs ds ds',fp[c]?=Y a/\H a=Y (.lst vs)/\vs.length<=ah/\f ds=Y ds'/\aY K H F ds vs fs/\(∀b∈fs,b∈fp/\b≠a) /\
  ∀H' vs',H' a=Y (.lst vs')->vs'.length<=ah->(∀b∈fp,b≠a->H' b=H b)->aY K H' F ds' vs' fs->k H'
mutual
theorem LD{f:M D->aaV (M D)}:∀(d:D) {d':D}{v:V}{fp:M Addr}{c:L},gy d=J->bz K H F d v fp->fp.Nodup->putN f d c=Y d'->WR K H F f c fp λH'=>bz K H' F d' v fp
|.lst o xs,d',v,fp,c,h,rx,nd,e=>by
 let#[h1,h2]:=band' (show(o&&ck xs)=J from h);subst h1;unfold bz at rx;rw[aB rfl]at rx;let#[a,vs,fs,rfl,x2,x3,x4,rfl]:=rx;let#[n1,n2]:=bF.mp nd;cases c with
 |zero=>
  let#[ys,e1,rfl]:=iy (show(f xs).map (.lst J)=Y d' from e);refine#[a,vs,fs,xs,ys,rfl,x2,x3,e1,x4,λb hb=>#[ai _ hb,λz=>n1 (z▸hb)],λH' vs' g1 g2 _ g4=>?_];show bz K H' F (.lst J ys) (.ref a) (a::fs);unfold bz;rw[aB rfl];exact#[a,vs',fs,rfl,g1,g2,g4,rfl]
 |succ c=>
  let#[ys,e1,rfl]:=iy (show(f7 f xs c).map (.lst J)=Y d' from e);let#[b,us,gs,ds,ds',p1,p2,p3,p4,p5,p6,p7]:=Cw xs h2 x4 n2 e1;have hb:b∈fs:=dH p1;refine#[b,us,gs,ds,ds',p1,p2,p3,p4,p5,λu hu=>#[ai _ (p6 u hu).1,(p6 u hu).2],λH' vs' g1 g2 g3 g4=>?_];show bz K H' F (.lst J ys) (.ref a) (a::fs);unfold bz;rw[aB rfl];exact#[a,vs,fs,rfl,by rw[g3 a aj λz=>n1 (z▸hb)];exact x2,x3,p7 H' vs' g1 g2 (λu hu=>g3 u (ai _ hu)) g4,rfl]
|.tup xs,d',v,fp,c,h,rx,nd,e=>by
 let#[a,vs,x1,x2,x3,x4]:=rx;let#[ys,e1,rfl]:=iy (show(f7 f xs c).map .tup=Y d' from e);let#[b,us,gs,ds,ds',p1,p2,p3,p4,p5,p6,p7]:=Cw xs h x4 nd e1;exact#[b,us,gs,ds,ds',p1,p2,p3,p4,p5,p6,λH' vs' g1 g2 g3 g4=>#[a,vs,x1,x2,x3,p7 H' vs' g1 g2 g3 g4]]
|.non,_,_,_,_,_,_,_,e=>nomatch e
|.bl _,_,_,_,_,_,_,_,e=>nomatch e
|.int _,_,_,_,_,_,_,_,e=>nomatch e
|.str _,_,_,_,_,_,_,_,e=>nomatch e
theorem Cw{f:M D->aaV (M D)}:∀(ds:M D) {es:M D}{vs:M V}{fp:M Addr}{c:L},ck ds=J->aY K H F ds vs fp->fp.Nodup->f7 f ds c=Y es->WR K H F f c fp λH'=>aY K H' F es vs fp
|[],_,_,_,_,_,_,_,e=>nomatch e
|d::ds,es,vs,fp,c,h,rx,nd,e=>by
 let#[h1,h2]:=band' (show(gy d&&ck ds)=J from h);let#[v,w,f1,f2,rfl,rfl,x3,x4]:=rx;let#[n1,n2,n3]:=bP.mp nd;have l1:f1.length=cT d:=AW d h1 x3;have e:(if c<cT d then(putN f d c).map (·::ds)else(f7 f ds (c-cT d)).map (d::·))=Y es:=e;by_cases hc:c<cT d
 ·rw[aB hc]at e;let#[y,e1,rfl]:=iy e;let#[b,us,gs,ds1,ds2,p1,p2,p3,p4,p5,p6,p7]:=LD d h1 x3 n1 e1;have hb:b∈f1:=dH p1;refine#[b,us,gs,ds1,ds2,by rw[fW (by rw[l1];exact hc)];exact p1,p2,p3,p4,p5,λu hu=>#[aX _ (p6 u hu).1,(p6 u hu).2],λH' vs' g1 g2 g3 g4=>?_];exact#[v,w,f1,f2,rfl,rfl,p7 H' vs' g1 g2 (λu hu=>g3 u (aX _ hu)) g4,aY.mono (aZ.refl _) ds w f2 (λu hu=>g3 u (aK _ hu) λz=>n3 b hb u hu z.symm) x4]
 ·rw[aD hc]at e;let#[y,e1,rfl]:=iy e;let#[b,us,gs,ds1,ds2,p1,p2,p3,p4,p5,p6,p7]:=Cw ds h2 x4 n2 e1;have hb:b∈f2:=dH p1;refine#[b,us,gs,ds1,ds2,by rw[cj (by omega),l1];exact p1,p2,p3,p4,p5,λu hu=>#[aK _ (p6 u hu).1,(p6 u hu).2],λH' vs' g1 g2 g3 g4=>?_];exact#[v,w,f1,f2,rfl,rfl,bz.mono (aZ.refl _) d v f1 (λu hu=>g3 u (aX _ hu) λz=>n3 u hu b hb z) x3,p7 H' vs' g1 g2 (λu hu=>g3 u (aK _ hu)) g4]
end
def TU{n:L}{d:D}(h:nJ n d=J):d=.int n:=by
 cases d<;>first|exact aG h bq|skip
 rw[aq h]
theorem zz:∀{ds:M D}{vs:M V}{fs:M Addr}{n:L},aY K H F ds vs fs->ds[ds.length-1]?=Y (.int n)->vs[vs.length-1]?=Y (.int n)/\aY K H F ds.dropLast vs.dropLast fs
|[],_,_,_,_,e=>nomatch e
|[d],vs,fs,n,r,e=>by
 let#[v,w,f1,f2,rfl,rfl,r1,rfl,rfl]:=r;cases e;let#[rfl,rfl]:=r1;exact#[rfl,rfl,rfl]
|d::d2::ds,vs,fs,n,r,e=>by
 let#[v,w,f1,f2,rfl,rfl,r1,r2]:=r;let#[e1,e2]:=zz r2 (by simpa using e);cases w with
 |nil=>cases e1
 |cons w1 w=>exact#[by simpa using e1,v,_,f1,f2,rfl,rfl,r1,e2]
theorem t8:∀{xs ys:M D},ck xs=J->ck ys=J->ck (xs++ys)=J
|[],_,_,h=>h
|d::r,ys,h,h'=>by
 let#[h1,h2]:=band' (show(gy d&&ck r)=J from h);show(gy d&&ck (r++ys))=J;rw[h1,t8 h2 h'];rfl
theorem LF:∀{xs:M D},ck xs=J->ck xs.dropLast=J
|[],h=>h
|[_],_=>rfl
|d::e::r,h=>by
 let#[h1,h2]:=band' (show(gy d&&ck (e::r))=J from h);show(gy d&&ck (e::r).dropLast)=J;rw[h1,LF h2];rfl
def X8{q:Bool}{n:L}{ds es:M D}(e:xD q n ds=Y es)(h:ck ds=J):ck es=J:=by
 cases q with
 |true=>
  have e:(if ds.length<ah then Y (ds++[.int n])else B)=Y es:=e;split at e<;>cases e;exact t8 h rfl
 |false=>
  have e:((ds[ds.length-1]?).bind λd=>if nJ n d=J then Y ds.dropLast else B)=Y es:=e;cases z:ds[ds.length-1]? with
  |none=>rw[z]at e;cases e
  |some d=>
   rw[z]at e;have e:(if nJ n d=J then Y ds.dropLast else B)=Y es:=e;split at e<;>cases e;exact LF h
mutual
theorem LG{f:M D->aaV (M D)}(hf:∀ds es,f ds=Y es->ck ds=J->ck es=J):∀(d:D) {d':D}{c:L},putN f d c=Y d'->gy d=J->gy d'=J
|.lst o xs,d',c,e,h=>by
 let#[h1,h2]:=band' (show(o&&ck xs)=J from h);cases c with
 |zero=>
  let#[ys,e1,rfl]:=iy (show(f xs).map (.lst o)=Y d' from e);show(o&&ck ys)=J;rw[h1,hf _ _ e1 h2];rfl
 |succ c=>
  let#[ys,e1,rfl]:=iy (show(f7 f xs c).map (.lst o)=Y d' from e);show(o&&ck ys)=J;rw[h1,Cy hf xs e1 h2];rfl
|.tup xs,d',c,e,h=>by
 let#[ys,e1,rfl]:=iy (show(f7 f xs c).map .tup=Y d' from e);exact Cy hf xs e1 h
|.non,_,_,e,_=>nomatch e
|.bl _,_,_,e,_=>nomatch e
|.int _,_,_,e,_=>nomatch e
|.str _,_,_,e,_=>nomatch e
theorem Cy{f:M D->aaV (M D)}(hf:∀ds es,f ds=Y es->ck ds=J->ck es=J):∀(ds:M D) {es:M D}{c:L},f7 f ds c=Y es->ck ds=J->ck es=J
|[],_,_,e,_=>nomatch e
|d::r,es,c,e,h=>by
 let#[h1,h2]:=band' (show(gy d&&ck r)=J from h);have e:(if c<cT d then(putN f d c).map (·::r)else(f7 f r (c-cT d)).map (d::·))=Y es:=e;split at e
 ·let#[y,e1,rfl]:=iy e;show(gy y&&ck r)=J;rw[LG hf d e1 h1,h2];rfl
 ·let#[y,e1,rfl]:=iy e;show(gy d&&ck y)=J;rw[h1,Cy hf r e1 h2];rfl
end
end
section
variable{K:aa}{Γp:M PG}{U:M G}{F0 H0 F H:Hp}{σd:bh}{O:L2.St}{fp:L->M Addr}{X:Ends}
def TV[Ex]{q:Bool}{n i j:L}{a:Addr}{vs:M V}{fs:M Addr}{ds es:M D}(e:xD q n ds=Y es)(rx:aY K H F ds vs fs)(hi:O[i]?=Y (Y (.int n)))(hj:O[j]?=Y (Y (.ref a)))(ha:H a=Y (.lst vs))(hl:vs.length<=ah)(h:∀us,us.length<=ah->(∀H',(∀b∈fs,H' b=H b)->aY K H' F es us fs)->X.nx O (upd H a (.lst us))):wSs K U Ex.E (Cr q i j) X O H:=by
 cases q with
 |true=>
  have e:(if ds.length<ah then Y (ds++[.int n])else B)=Y es:=e;split at e<;>cases e;rename_i c;show wE K U Ex.E (.var j) O H λx H1=>o_ .append x H1/\wEs K U Ex.E (.cons (.var i) .nil) O H1 λus H2=>oB K .append x us H2 λ_ H3=>X.nx O H3;refine slot_of hj #[?_,?_]
  ·show fX H a;unfold fX;rw[ha];trivial
  ·show wE K U Ex.E (.var i) O H λx H1=>oB K .append (.ref a) [x] H1 λ_ H3=>X.nx O H3;refine slot_of hi ?_;show(match H a with|some (.lst xs)=>xs.length<ah/\X.nx O (upd H a (.lst (xs++[.int n])))|_=>aR);rw[ha];have hl2:vs.length<ah:=by rw[rx.len];exact c
   refine#[hl2,h _ (by simp;lia) λH' s=>?_];have:=aY.app (aY.mono (aZ.refl F) ds vs fs s rx) (aY.one (d:=.int n) (v:=.int n) (fp:=[]) (K:=K) (H:=H') (F:=F) #[rfl,rfl]);rw[bK]at this;exact this
 |false=>
  have e:((ds[ds.length-1]?).bind λd=>if nJ n d=J then Y ds.dropLast else B)=Y es:=e;cases z:ds[ds.length-1]? with
  |none=>rw[z]at e;cases e
  |some d=>
   rw[z]at e;have e:(if nJ n d=J then Y ds.dropLast else B)=Y es:=e;by_cases c:nJ n d=J
   case neg=>rw[aD c]at e;cases e
   rw[aB c]at e;cases e;rw[TU c]at z;let#[e1,_]:=zz rx z;show wE K U Ex.E (.var j) O H λx H1=>o_ .pop x H1/\wEs K U Ex.E .nil O H1 λus H2=>oB K .pop x us H2 λx H3=>wE K U Ex.E (.var i) O H3 λy H4=>nv K .NotEq x y H4 λz H5=>match z with
    |.bl k=>if k=J then X.rt (.bl W) H5 else X.nx O H5
    |_=>aR
   refine slot_of hj #[?_,?_]
   ·show fX H a;unfold fX;rw[ha];trivial
   ·show(match H a with|some (.lst xs)=>∃y,xs[xs.length-1]?=Y y/\_|_=>aR);rw[ha];refine#[_,e1,slot_of hi #[.int n,.int n,rfl,rfl,rfl,rfl,?_]];have:(!jP (.int n) (.int n))=W:=by simp[jP]
    rw[this];exact h _ (by simp;lia) λH' s=>(zz (aY.mono (aZ.refl F) ds vs fs s rx) z).2
theorem LH[Ex]{q:Bool}{k i j:L}{as:M Addr}{b:Addr}{us:M V}{xe:D}(hij:i≠j)(hki:k≠i)(hkj:k≠j):∀(cs:M L) (n:L) {x:D}{O:L2.St}{F H:Hp}{fp:L->M Addr},bu K F0 H0 (((σd.set i B).set j B).set k (Y x)) O F H fp->fp k=as->i<O.length->j<O.length->k<σd.length->gy x=J->(∀m,b∉fp m)->H b=Y (.lst us)->
 oG q cs n x=Y xe->b8 K F0 H0 (.nx (((σd.set i B).set j B).set k (Y xe))) X->forL (λH'=>Rd H' b (.lst us)) (wG K U Ex.E (.tup (.cons (.name i) (.cons (.name j) .nil)))) (wSs K U Ex.E (Cr q i j)) X (lY n (cs.map λc=>.ref (as.getD c 0))) O H
|[],n,x,O,F,H,fp,I,hk,li,lj,lk,sx,nb,hb,e,h=>by
 cases e;exact#[.inl hb,h O F H fp I]
|c::cs,n,x,O,F,H,fp,I,hk,li,lj,lk,sx,nb,hb,e,h=>by
 have e:(putN (xD q n) x c).bind (oG q cs (n+1))=Y xe:=e;cases e1:putN (xD q n) x c with
 |none=>rw[e1]at e;cases e
 |some y=>
  rw[e1]at e;have e:oG q cs (n+1) y=Y xe:=e;refine#[.inl hb,λp hp=>?_];have g:=v5 (o:=.tup [.int (n:Int),.ref (as.getD c 0)]) I.g.s hp;have I1:=I.grow g;refine#[J,_,tupS dF,rfl,rfl,?_];show wSs K U Ex.E (Cr q i j) _ ((O.set i (Y (.int (n:Int)))).set j (Y (.ref (as.getD c 0)))) _;have I2:bu K F0 H0 (((σd.set i B).set j B).set k (Y x)) ((O.set i (Y (.int (n:Int)))).set j (Y (.ref (as.getD c 0)))) (upd F p (.tup [.int (n:Int),.ref (as.getD c 0)])) (upd H p (.tup [.int (n:Int),.ref (as.getD c 0)])) fp:=by
   have:=(I1.drop (i:=i) (w:=Y (.int (n:Int)))).drop (i:=j) (w:=Y (.ref (as.getD c 0)));rw[show((((σd.set i B).set j B).set k (Y x)).set i B).set j B=((σd.set i B).set j B).set k (Y x)from ?_]at this
   ·exact this
   ·refine nG λm=>?_;simp only[fP,vo]
    (repeat' split)<;>simp_all
  have hx:(((σd.set i B).set j B).set k (Y x))[k]?=Y (Y x):=by rw[bY (by simpa using lk)]
  let#[v,hv,rx]:=I2.rep _ _ hx;rw[hk]at rx;have nd:=I2.nd k;rw[hk]at nd;let#[a,vs,fs,ds,es,p1,p2,p3,p4,p5,p6,p7]:=LD x sx rx nd e1;have ha:as.getD c 0=a:=by simp[AK,p1]
  have hak:a∈fp k:=by rw[hk];exact dH p1
  have hba:b≠a:=λz=>nb k (z▸hak);have hbp:b≠p:=λz=>by rw[z,hp]at hb;cases hb
  rw[ha]at I2 p2 p5 p7 hv;show wSs K U Ex.E (Cr q i j) _ ((O.set i (Y (.int (n:Int)))).set j (Y (.ref (as.getD c 0)))) (upd H p (.tup [.int (n:Int),.ref (as.getD c 0)]));rw[ha];refine TV p4 p5 (by rw[bG (fj hij),bY li]) (bY (by simpa using lj)) p2 p3 λus2 l2 r2=>?_;have rr:=p7 (upd (upd H p (.tup [.int (n:Int),.ref a])) a (.lst us2)) us2 dF l2 (λu hu hn=>bf hn) (r2 _ λu hu=>bf (p6 u hu).2);have I3:=I2.put (f:=as) hak hv rr nd (λu hu=>I2.nf k u (by rw[hk];exact hu)) (λu hu=>I2.nh k u (by rw[hk];exact hu)) (λm hm u hu z=>hm (I2.dis m k u z (by rw[hk];exact hu)));rw[List.set_set]at I3;refine LH hij hki hkj cs (n+1) I3 (by rw[aB rfl]) (by simpa using li) (by simpa using lj) lk (LG (λ_ _=>X8) x e1 sx) (λm=>?_) (by rw[bf hba,bf hbp];exact hb) e h;by_cases hm:m=k
  ·rw[aB hm,<-hk];exact nb k
  ·rw[aD hm];exact nb m
theorem IM:∀{ds:M D}{as:M Addr}{vs:M V}{f:M Addr},lS ds=Y as->aY K H F ds vs f->vs=as.map V.ref
|[],_,_,_,e,r=>by cases e;exact r.1
|d::ds,as,vs,f,e,r=>by
 cases d<;>first|(cases e;done)|skip
 let#[as',e1,rfl]:=iy (show(lS ds).map _=Y as from e);let#[v,w,f1,f2,rfl,_,r1,r2]:=r;let#[#[_,rfl,_],_]:=r1;rw[IM e1 r2];rfl
def TX{i j:L}{b:cE}{q:Bool}(h:TM i j b=Y q):b=Cr q i j:=by
 unfold TM at h;split at h
 ·split at h<;>cases h;rename_i z;rw[z.1,z.2]
 ·split at h<;>cases h;rename_i z;rw[z.1,z.2]
 ·cases h
def ab3[Ex](hΓ:dc K Γp U){q:Bool}{g k i j:L}(I:bu K F0 H0 σd O F H fp)(h:b8 K F0 H0 (Cq Γp q g k i j σd) X):wS K U Ex.E (alsS q g k i j) X O H:=by
 unfold Cq at h;split at h
 ·rename_i m x eg ex;split at h
  ·rename_i c;let#[c1,c]:=band' c;let#[c2,c]:=band' c;let#[c3,c]:=band' c;let#[c4,c]:=band' c;let#[c5,sx]:=band' c;have c1:=aq c1;have c2:=aq c2;have c3:=aq c3;have c4:=aq c4;have c5:=aq c5;cases e1:xE m x with
   |none=>rw[e1]at h;exact h.elim
   |some cs=>
    rw[e1]at h;cases e2:oG q cs 0 x with
    |none=>rw[show((Y cs).bind λcs=>oG q cs 0 x)=B from e2]at h;exact h.elim
    |some xe=>
     rw[show((Y cs).bind λcs=>oG q cs 0 x)=Y xe from e2]at h;have h:b8 K F0 H0 (.nx (((σd.set i B).set j B).set k (Y xe))) X:=h;have e3:WL m x cs:=by
      unfold xE at e1;cases z:IF (m [jE (bH (cT x)) x 0])with
      |none=>rw[z]at e1;cases e1
      |some cs'=>
       rw[z]at e1;simp only[C7]at e1;split at e1<;>cases e1;assumption
     let#[v,hv,rx]:=I.rep _ _ ex;have e4:=e3 (fp k) (AW x sx rx);let#[G',eG,hG]:=hΓ.get g eg;cases G'<;>first|exact hG.elim|skip
     rename_i sp dvs;let#[h1,h2,h3]:=hG;have h3:dvs=[]:=h3;subst h3;show(match U[g]? with|some (.fn sp dvs)=>(jW O k λv=>sp ([v]++dvs) H (λx H1=>(match x with|.ref b=>∃xs,Rd H1 b (.lst xs)/\forL (λH'=>Rd H' b (.lst xs)) (wG K U Ex.E (.tup (.cons (.name i) (.cons (.name j) .nil)))) (wSs K U Ex.E (Cr q i j)) X (lY 0 xs) O H1|_=>aR)) Ex.E)|_=>aR);rw[eG];refine slot_of hv (h1 _ _ _ _ #[adopt F H (ownAt fp [k]),[jE (fp k) x 0],dZ I.g.s,?_,#[v,[],rfl,?_,rfl],?_])
     ·show[bE (jE (fp k) x 0)]=_;rw[EF _ x 0 sx]
     ·exact LC (r:=[]) (c_ I.g.s) (fp k) x sx (λa ha=>jC (d8.mpr #[k,aQ.mpr rfl,ha])) (by simp) rx
     ·cases e5:m [jE (fp k) x 0]with
      |ex y=>rw[e5]at e4;cases e4
      |bad=>rw[e5]at e4;cases e4
      |ok d=>
       rw[e5]at e4;cases d<;>first|(cases e4;done)|skip
       rename_i o ds;cases o with
       |false=>cases e4
       |true=>
        have e4:lS ds=Y (cs.map λc=>(fp k).getD c 0):=e4;intro F' H' u f g fr r;unfold bz at r;rw[aB rfl]at r;let#[b,us,f2,rfl,r2,r3,r4,rfl]:=r;have e6:=IM e4 r4;rw[bW]at e6;subst e6;refine#[_,.inl r2,?_];have I1:=I.back g;have lk:k<σd.length:=by
         cases Kg k σd.length with
         |inl z=>exact z
         |inr z=>rw[wZ z]at ex;cases ex
        have I2:=(I1.drop (i:=i) (w:=O.getD i B)).drop (i:=j) (w:=O.getD j B);have hs:∀(m:L),m<O.length->O.set m (O.getD m B)=O:=λm hm=>by
         refine nG λn=>?_;by_cases z:m=n
         ·subst z;rw[bY hm];simp[AK,hm]
         ·rw[bG z]
        rw[hs i (by rw[<-I.len];exact c4),hs j (by rw[<-I.len];exact c5)]at I2;have I3:bu K F0 H0 (((σd.set i B).set j B).set k (Y x)) O (minus F' (ownAt fp [k])) H' fp:=by
         rw[show((σd.set i B).set j B).set k (Y x)=(σd.set i B).set j B from ?_]
         ·exact I2
         ·refine nG λn=>?_;by_cases z:k=n
          ·subst z;rw[bY (by simpa using lk),bG (fj c3),bG (fj c2),ex]
          ·rw[bG z]
        exact LH c1 c2 c3 cs 0 I3 rfl (by rw[<-I.len];exact c4) (by rw[<-I.len];exact c5) lk sx (λm hm=>by
         let#[o,eo,_]:=I.ex m b hm;rw[fr.nh b aj]at eo;cases eo) r2 e2 h
  ·exact h.elim
 ·exact h.elim
end
section
variable{K:aa}{Γp:M PG}{U:M G}{F0 H0 F H:Hp}{σd:bh}{O:L2.St}{fp:L->M Addr}{X:Ends}
theorem TY[Ex](hΓ:dc K Γp U):∀(as:ja) {ds acc:M D}{av:M V}{af:M Addr}{σd:bh}{F H:Hp}{fp:L->M Addr}{Q:M V->Hp->Prop},bu K F0 H0 σd O F H fp->n9 K H0 F H fp acc av af->iX as=J->ni Γp as σd=.ok ds->
 (∀vs F1 H1 σ1 fp1 f,bu K F0 H0 σ1 O F1 H1 fp1->n9 K H0 F1 H1 fp1 (acc++ds) (av++vs) f->Q vs H1)->wEs K U Ex.E as O H Q
|.nil,ds,acc,av,af,σd,F,H,fp,Q,I,V,lt,e,h=>by
 cases e;exact h [] F H σd fp af I (by rw[bK,bK];exact V)
|.cons a r,ds,acc,av,af,σd,F,H,fp,Q,I,V,lt,e,h=>by
 let#[l1,l2]:=band' lt;have e:(match M2 a with
  |some i=>match σd[i]? with
   |some (Y d)=>(ni Γp r (σd.set i B)).bind λds=>.ok (d::ds)
   |_=>.bad
  |none=>(pE Γp a σd).bind λd=>.bI (be d) ((ni Γp r σd).bind λds=>.ok (d::ds)))=R.ok ds:=e
 cases va:M2 a with
 |some i=>
  have ea:a=.var i:=by cases a<;>first|(cases va;rfl)|(cases va)
  subst ea;rw[va]at e;simp only at e;cases q:σd[i]? with
  |none=>rw[q]at e;cases e
  |some o=>
   cases o with
   |none=>rw[q]at e;cases e
   |some d=>
    rw[q]at e;let#[ds',e1,e2]:=cJ e;cases e2;let#[v,h1,h2]:=I.rep i d q;have V1:n9 K H0 F H (λj=>if j=i then[]else fp j) (acc++[d]) (av++[v]) (af++fp i):=by
     refine n9.snoc #[V.r,V.nd,V.nf,V.nh,λj a ha=>?_] #[h2,I.nd i,I.nf i,I.nh i,λj a ha=>?_] λa ha hb=>V.dis i a ha hb
     ·by_cases c:j=i
      ·rw[aB c];exact aP
      ·rw[aD c];exact V.dis j a ha
     ·by_cases c:j=i
      ·rw[aB c];exact aP
      ·rw[aD c];exact λz=>c (I.dis j i a z ha)
    refine slot_of h1 (TY hΓ r (I.M9 i) V1 l2 e1 λvs F1 H1 σ1 fp1 f I1 aaC=>h (v::vs) F1 H1 σ1 fp1 f I1 ?_);rw[bx,bx]at aaC;exact aaC
 |none=>
  rw[va]at e;simp only at e;let#[d,e1,e2]:=cJ e;let#[ho,e2]:=kO e2;let#[ds',e3,e4]:=cJ e2;cases e4;refine runN hΓ I V l1 e1 ho λv F1 H1 f I1 V1=>?_;refine TY hΓ r I1 V1 l2 e3 λvs F2 H2 σ2 fp2 f2 I2 aaC=>h (v::vs) F2 H2 σ2 fp2 f2 I2 ?_;rw[bx,bx]at aaC;exact aaC
def ab4[Ex](hΓ:dc K Γp U)(I:bu K F0 H0 σd O F H fp)(lt:cX e=J)(h:b8 K F0 H0 ((pM Γp e σd).a_ .rt) X):wE K U Ex.E e O H X.rt:=by
 rcases mj h with⟨x,e1,hx⟩|⟨d,e1,h'⟩
 ·have gen:pE Γp e σd=.ex x->wE K U Ex.E e O H X.rt:=λhe=>xG hΓ I lt he hx;cases e with
  |var i=>
   have e1:(match σd[i]? with|some (Y d)=>R.ok d|_=>.bad)=.ex x:=e1;split at e1<;>cases e1
  |tup as=>
   have e1:(ni Γp as σd).alt (λds=>.bI (decide (ds.length<=ah)) (.ok (.tup ds))) (pE Γp (.tup as) σd)=.ex x:=e1;unfold R.alt at e1;split at e1
   ·exact aG e1 (bQ.bI bQ.ok x)
   ·exact gen e1
  |_=>exact gen e1
 clear h;have gen:=λhe=>zy hΓ I lt he λv F1 H1 fp1 f I1 V1=>h' v F1 H1 f I1.g #[V1.nd,V1.nh,V1.nf] V1.r;cases e with
 |var i=>
  have e1:(match σd[i]? with|some (Y d)=>R.ok d|_=>.bad)=.ok d:=e1;cases q:σd[i]? with
  |none=>rw[q]at e1;cases e1
  |some o=>
   cases o with
   |none=>rw[q]at e1;cases e1
   |some d'=>
    rw[q]at e1;cases e1;let#[v,h1,h2]:=I.rep i d q;exact slot_of h1 (h' v F H (fp i) I.g #[I.nd i,I.nh i,I.nf i] h2)
 |tup as=>
  have e1:(ni Γp as σd).alt (λds=>.bI (decide (ds.length<=ah)) (.ok (.tup ds))) (pE Γp (.tup as) σd)=.ok d:=e1;cases e2:ni Γp as σd with
  |ok ds=>
   rw[e2]at e1;let#[c3,e4]:=kO e1;cases e4;refine TY hΓ as I (acc:=[]) (av:=[]) (af:=[]) #[#[rfl,rfl],di,λ_ z=>aG z aP,λ_ z=>aG z aP,λ_ _ z=>aG z aP] lt e2 λvs F1 H1 σ1 fp1 f I1 V=>?_;have hr:aY K H1 F1 ds vs f:=V.r;have hl:vs.length<=ah:=by rw[hr.len];exact aq c3
   refine#[hl,λp hp=>?_];have g2:=v5 (o:=.tup vs) I1.g.s hp;have I2:=I1.grow g2;have np:∀a∈f,a≠p:=λa ha z=>by
    let#[o,e,_]:=aY.ex ds vs f hr a ha;rw[z,hp]at e;cases e
   exact h' (.ref p) _ _ f I2.g #[V.nd,V.nh,λa ha=>by rw[bf (np a ha)];exact V.nf a ha] #[p,vs,rfl,dF,hl,aY.mono g2.f ds vs f (λa ha=>bf (np a ha)) hr]
  |_=>
   rw[e2]at e1;exact gen e1
 |_=>exact gen e1
def Dv{f1 f2 f3 g f:M Addr}(nd:(f1++(f2++f3)).Nodup)(g3:∀b∈g,b∈f2\/b∈f)(g2:g.Nodup)(df:∀a∈f,a∉f1++(f2++f3)):(f1++(g++f3)).Nodup:=by grind
def Cz{f1 f2 f3 g f:M Addr}(g3:∀b∈g,b∈f2\/b∈f):∀b∈f1++(g++f3),b∈f1++(f2++f3)\/b∈f:=λb hb=>by grind
def Pq{a:Addr}{f1 f2 f3 g f:M Addr}(nd:(a::(f1++(f2++f3))).Nodup)(g3:∀b∈g,b∈f2\/b∈f)(g2:g.Nodup)(df:∀b∈f,b∉a::(f1++(f2++f3))):(a::(f1++(g++f3))).Nodup:=by
 have nd':=bF.mp nd;refine bF.mpr #[λz=>?_,Dv nd'.2 g3 g2 λb hb z=>df b hb (ai _ z)];rcases Cz g3 a z with q|q
 ·exact nd'.1 q
 ·exact df a q aj
def X_{a:Addr}{f1 f2 f3 g f:M Addr}(g3:∀b∈g,b∈f2\/b∈f):∀b∈a::(f1++(g++f3)),b∈a::(f1++(f2++f3))\/b∈f:=λb hb=>by
 rcases aM.mp hb with rfl|hb
 ·exact .inl aj
 ·rcases Cz g3 b hb with q|q
  ·exact .inl (ai _ q)
  ·exact .inr q
def Reach(K:aa)(H:Hp):V->M Int->V->Prop
|v,[],w=>v=w
|v,i::r,w=>∃a t xs u,v=.ref a/\ig H a=Y (t,xs)/\fQ xs i=Y u/\Reach K H u r w
theorem Reach.snoc:∀{is:M Int}{v w:V}{n:Int},Reach K H v (is++[n]) w->∃x,Reach K H v is x/\Reach K H x [n] w
|[],v,w,n,h=>#[v,rfl,h]
|i::r,v,w,n,h=>by
 let#[a,t,xs,u,e1,e2,e3,h]:=h;let#[x,q1,q2]:=Reach.snoc h;exact#[x,#[a,t,xs,u,e1,e2,e3,q1],q2]
theorem IP[Ex](I:bu K F0 H0 σd O F H fp):∀(o:CE) {k:L}{is:M Int}{v w:V}{Q:VK},oF σd o=Y (k,is)->O[k]?=Y (Y v)->Reach K H v is w->Q w H->wE K U Ex.E o O H Q
|.var j,k,is,v,w,Q,e,hv,hr,q=>by
 cases e;cases hr;exact slot_of hv q
|.ix o i,k,is,v,w,Q,e,hv,hr,q=>by
 have e:((oF σd o).bind λp=>(M3 σd i).map λn=>(p.1,p.2++[n]))=Y (k,is):=e;cases e1:oF σd o with
 |none=>rw[e1]at e;cases e
 |some p=>
  rw[e1]at e;cases e2:M3 σd i with
  |none=>
   rw[e2]at e;cases e
  |some n=>
   rw[e2]at e;cases e;let#[x,q1,a,t,xs,u,rfl,q2,q3,q4]:=Reach.snoc hr;cases q4;refine IP I o e1 hv q1 (show wE K U Ex.E i O H λy H2=>HY K (.ref a) y H2 Q from ?_);have fin:HY K (.ref a) (.int n) H Q:=.inl #[t,xs,n,_,rfl,.inl q2,q3,q];unfold M3 at e2;split at e2
   ·split at e2
    ·rename_i j _ m hj;cases e2;let#[v',h1,h2]:=I.rep _ _ hj;let#[rfl,_]:=h2;exact slot_of h1 fin
    ·cases e2
   ·cases e2;exact fin
   ·cases e2;exact fin
   ·cases e2
|.con _,k,is,v,w,Q,e,hv,hr,q=>by cases e
|.glo _,k,is,v,w,Q,e,hv,hr,q=>by cases e
|.bin _ _ _,k,is,v,w,Q,e,hv,hr,q=>by cases e
|.nset _,k,is,v,w,Q,e,hv,hr,q=>by cases e
|.neg _,k,is,v,w,Q,e,hv,hr,q=>by cases e
|.not _,k,is,v,w,Q,e,hv,hr,q=>by cases e
|.and _ _,k,is,v,w,Q,e,hv,hr,q=>by cases e
|.or _ _,k,is,v,w,Q,e,hv,hr,q=>by cases e
|.ite _ _ _,k,is,v,w,Q,e,hv,hr,q=>by cases e
|.cmp _ _ _,k,is,v,w,Q,e,hv,hr,q=>by cases e
|.chain _ _ _ _ _,k,is,v,w,Q,e,hv,hr,q=>by cases e
|.call _ _,k,is,v,w,Q,e,hv,hr,q=>by cases e
|.blt _ _,k,is,v,w,Q,e,hv,hr,q=>by cases e
|.isi _ _,k,is,v,w,Q,e,hv,hr,q=>by cases e
|.mth _ _ _,k,is,v,w,Q,e,hv,hr,q=>by cases e
|.sl _ _ _,k,is,v,w,Q,e,hv,hr,q=>by cases e
|.lst _,k,is,v,w,Q,e,hv,hr,q=>by cases e
|.tup _,k,is,v,w,Q,e,hv,hr,q=>by cases e
|.comp _ _ _ _ _ _,k,is,v,w,Q,e,hv,hr,q=>by cases e
|.slp _ _ _ _,k,is,v,w,Q,e,hv,hr,q=>by cases e
theorem aY.at:∀{ds:M D}{vs:M V}{fs:M Addr} (n:L) {y:D},aY K H F ds vs fs->ds[n]?=Y y->
 ∃w f1 f2 f3,vs[n]?=Y w/\fs=f1++(f2++f3)/\bz K H F y w f2/\∀{F1 H':Hp}{y':D}{g:M Addr},aZ F F1->(∀b∈f1,H' b=H b)->(∀b∈f3,H' b=H b)->bz K H' F1 y' w g->aY K H' F1 (ds.set n y') vs (f1++(g++f3))
|[],_,_,n,y,h,e=>by simp at e
|d::ds,_,_,0,y,h,e=>by
 let#[v,r,g1,g2,rfl,rfl,h1,h2]:=h;simp at e;subst e;exact#[v,[],g1,g2,rfl,rfl,h1,λs1 _ h3 hr=>#[v,r,_,g2,rfl,rfl,hr,aY.mono s1 _ _ _ h3 h2]]
|d::ds,_,_,n+1,y,h,e=>by
 let#[v,r,g1,g2,rfl,rfl,h1,h2]:=h;let#[w,f1,f2,f3,e1,rfl,q1,q2]:=aY.at n h2 (by simpa using e);refine#[w,g1++f1,f2,f3,by simpa using e1,by simp,q1,λs1 h3 h4 hr=>#[v,r,g1,_,rfl,by simp,bz.mono s1 _ _ _ (λb hb=>h3 b (aX _ hb)) h1,q2 s1 (λb hb=>h3 b (aK _ hb)) h4 hr]]
theorem EG:∀(is:M Int) {x x' d:D},eT is x d=Y x'->∃ys,iP is x=Y (.lst J ys)
|[],x,x',d,e=>by
 unfold eT at e;split at e
 ·exact#[_,rfl]
 ·cases e
|i::r,x,x',d,e=>by
 unfold eT at e;have key:∀(xs:M D) (f:D->D),(((gO xs.length i).bind λn=>(xs[n]?).bind λy=>(eT r y d).map λy'=>f (.lst J (xs.set n y')))=Y x'\/((gO xs.length i).bind λn=>(xs[n]?).bind λy=>(eT r y d).map λy'=>f (.tup (xs.set n y')))=Y x')->∃ys,((gO xs.length i).bind λn=>(xs[n]?).bind λy=>iP r y)=Y (.lst J ys):=by
  intro xs f e;cases e1:gO xs.length i with
  |none=>rw[e1]at e;rcases e with e|e<;>cases e
  |some n=>
   rw[e1]at e;show ∃ys,((xs[n]?).bind λy=>iP r y)=Y (.lst J ys);cases e2:xs[n]? with
   |none=>simp[e2]at e
   |some y=>
    cases e3:eT r y d with
    |none=>simp[e2,e3]at e
    |some y'=>exact EG r e3
 split at e
 ·exact key _ id (.inl e)
 ·exact key _ id (.inr e)
 ·cases e
theorem t9:∀(is:M Int) {x:D}{ys:M D}{v:V}{fs:M Addr},aZ F H->bz K H F x v fs->iP is x=Y (.lst J ys)->fs.Nodup->
 ∃c ws f2,c∈fs/\H c=Y (.lst ws)/\Reach K H v is (.ref c)/\bz K H F (.lst J ys) (.ref c) f2/\(∀b∈f2,b∈fs)/\∀{d x':D},eT is x d=Y x'->ws.length<ah /\
  ∀{F1 H':Hp}{u:V}{f:M Addr},aZ F F1->bz K H' F1 d u f->f.Nodup->(∀a∈f,a∉fs)->(∀b∈fs,b≠c->H' b=H b)->H' c=Y (.lst (ws++[u]))->∃fs',bz K H' F1 x' v fs'/\fs'.Nodup/\∀b∈fs',b∈fs\/b∈f
|[],x,ys,v,fs,s,r,e,nd=>by
 cases e;have r0:=r;unfold bz at r;rw[aB rfl]at r;let#[a,vs,f1,rfl,r2,r3,r4,rfl]:=r;have nd':=bF.mp nd;refine#[a,vs,a::f1,aj,r2,rfl,r0,λb hb=>hb,λ{d x'} e=>?_];have e:(if ys.length<ah then Y (D.lst J (ys++[d]))else B)=Y x':=e;split at e
 ·rename_i hl;cases e;refine#[by rw[r4.len];exact hl,λ{F1 H' u f} s1 rd nf df h1 h2=>#[a::(f1++f),?_,?_,?_]]
  ·unfold bz;rw[aB rfl];exact#[a,vs++[u],f1++f,rfl,h2,by rw[ao,r4.len];exact hl,aY.app (aY.mono s1 _ _ _ (λb hb=>h1 b (ai _ hb) λz=>nd'.1 (by rw[<-z];exact hb)) r4) (aY.one rd),rfl]
  ·refine bF.mpr #[λz=>?_,bP.mpr #[nd'.2,nf,λp hp q hq z=>df q hq (by rw[<-z];exact ai _ hp)]];rcases a6.mp z with z|z
   ·exact nd'.1 z
   ·exact df a z aj
  ·intro b hb;rcases aM.mp hb with rfl|hb
   ·exact .inl aj
   ·rcases a6.mp hb with z|z
    ·exact .inl (ai _ z)
    ·exact .inr z
 ·cases e
|i::r,x,ys,v,fs,s,rx,e,nd=>by
 unfold iP at e;split at e
 ·rename_i xs;cases e1:gO xs.length i with
  |none=>rw[e1]at e;cases e
  |some n=>
   rw[e1]at e;have e:((xs[n]?).bind λy=>iP r y)=Y (.lst J ys):=e;cases e2:xs[n]? with
   |none=>rw[e2]at e;cases e
   |some y=>
    rw[e2]at e;have e:iP r y=Y (.lst J ys):=e;unfold bz at rx;rw[aB rfl]at rx;let#[a,vs,f0,rfl,r2,r3,r4,rfl]:=rx;let#[w,f1,f2,f3,w1,rfl,w2,w3]:=aY.at n r4 e2;have nd':=bF.mp nd;let#[n1,n23,n4]:=bP.mp nd'.2;let#[n2,n3,n5]:=bP.mp n23;let#[c,ws,f4,c1,c2,c4,c6,c7,c5]:=t9 r s w2 e n2;have cf:c∈f1++(f2++f3):=aK _ (aX _ c1);refine#[c,ws,f4,ai _ cf,c2,#[a,W,vs,w,rfl,by unfold ig;rw[r2],tZ (by rw[r4.len];exact e1) w1,c4],c6,λb hb=>ai _ (aK _ (aX _ (c7 b hb))),λ{d x'} e3=>?_];have e3:((gO xs.length i).bind λn=>(xs[n]?).bind λy=>(eT r y d).map λy'=>D.lst J (xs.set n y'))=Y x':=e3;rw[e1]at e3;have e3:((xs[n]?).bind λy=>(eT r y d).map λy'=>D.lst J (xs.set n y'))=Y x':=e3;rw[e2]at e3;have e3:((eT r y d).map λy'=>D.lst J (xs.set n y'))=Y x':=e3;cases e4:eT r y d with
    |none=>rw[e4]at e3;cases e3
    |some y'=>
     rw[e4]at e3;cases e3;let#[c3,c5]:=c5 e4;refine#[c3,λ{F1 H' u f} s1 rd nf df h1 h2=>?_];let#[g,g1,g2,g3]:=c5 s1 rd nf (λb hb z=>df b hb (ai _ (aK _ (aX _ z)))) (λb hb hc=>h1 b (ai _ (aK _ (aX _ hb))) hc) h2;refine#[a::(f1++(g++f3)),?_,?_,?_]
     ·unfold bz;rw[aB rfl];refine#[a,vs,_,rfl,by rw[h1 a aj λz=>nd'.1 (by rw[z];exact cf)];exact r2,r3,w3 s1 (λb hb=>h1 b (ai _ (aX _ hb)) λz=>n4 b hb c (aX _ c1) z) (λb hb=>h1 b (ai _ (aK _ (aK _ hb))) λz=>n5 c c1 b hb z.symm) g1,rfl]
     ·exact Pq nd (λb hb=>g3 b hb) g2 df
     ·exact X_ g3
 ·rename_i xs;cases e1:gO xs.length i with
  |none=>rw[e1]at e;cases e
  |some n=>
   rw[e1]at e;have e:((xs[n]?).bind λy=>iP r y)=Y (.lst J ys):=e;cases e2:xs[n]? with
   |none=>rw[e2]at e;cases e
   |some y=>
    rw[e2]at e;have e:iP r y=Y (.lst J ys):=e;let#[a,vs,rfl,r2,r3,r4]:=rx;let#[w,f1,f2,f3,w1,rfl,w2,w3]:=aY.at n r4 e2;let#[n1,n23,n4]:=bP.mp nd;let#[n2,n3,n5]:=bP.mp n23;let#[c,ws,f4,c1,c2,c4,c6,c7,c5]:=t9 r s w2 e n2;refine#[c,ws,f4,aK _ (aX _ c1),c2,#[a,J,vs,w,rfl,by unfold ig;rw[s _ _ r2],tZ (by rw[r4.len];exact e1) w1,c4],c6,λb hb=>aK _ (aX _ (c7 b hb)),λ{d x'} e3=>?_];have e3:((gO xs.length i).bind λn=>(xs[n]?).bind λy=>(eT r y d).map λy'=>D.tup (xs.set n y'))=Y x':=e3;rw[e1]at e3;have e3:((xs[n]?).bind λy=>(eT r y d).map λy'=>D.tup (xs.set n y'))=Y x':=e3;rw[e2]at e3;have e3:((eT r y d).map λy'=>D.tup (xs.set n y'))=Y x':=e3;cases e4:eT r y d with
    |none=>rw[e4]at e3;cases e3
    |some y'=>
     rw[e4]at e3;cases e3;let#[c3,c5]:=c5 e4;refine#[c3,λ{F1 H' u f} s1 rd nf df h1 h2=>?_];let#[g,g1,g2,g3]:=c5 s1 rd nf (λb hb z=>df b hb (aK _ (aX _ z))) (λb hb hc=>h1 b (aK _ (aX _ hb)) hc) h2;refine#[f1++(g++f3),#[a,vs,rfl,s1 _ _ r2,r3,w3 s1 (λb hb=>h1 b (aX _ hb) λz=>n4 b hb c (aX _ c1) z) (λb hb=>h1 b (aK _ (aK _ hb)) λz=>n5 c c1 b hb z.symm) g1],?_,?_]
     ·exact Dv nd (λb hb=>g3 b hb) g2 df
     ·exact Cz g3
 ·cases e
theorem Reach.split:∀{p q:M Int}{v w:V},Reach K H v (p++q) w->∃u,Reach K H v p u/\Reach K H u q w
|[],q,v,w,h=>#[v,rfl,h]
|i::r,q,v,w,h=>by
 let#[a,t,xs,u,e1,e2,e3,h]:=h;let#[x,q1,q2]:=Reach.split h;exact#[x,#[a,t,xs,u,e1,e2,e3,q1],q2]
theorem Reach.det:∀{p:M Int}{v w w':V},Reach K H v p w->Reach K H v p w'->w=w'
|[],v,w,w',h,h'=>h.symm.trans h'
|i::r,v,w,w',h,h'=>by
 let#[a,t,xs,u,e1,e2,e3,h]:=h;let#[a',t',xs',u',f1,f2,f3,h']:=h';rw[e1]at f1;cases f1;rw[e2]at f2;cases f2;rw[e3]at f3;cases f3;exact Reach.det h h'
def FI(s:aZ H H1)(h:ig H a=Y y):ig H1 a=Y y:=by
 unfold ig at h ⊢;cases q:H a with
 |none=>rw[q]at h;cases h
 |some o=>rw[q]at h;rw[s a o q];exact h
def IQ(h:a≠c):ig (upd H1 c o) a=ig H1 a:=by
 unfold ig;rw[bf h]
theorem Reach.upd(s:aZ H H1):∀{is:M Int}{v w:V},Reach K H v is w->(∀p n q a,is=p++n::q->Reach K H v p (.ref a)->a≠c)->Reach K (upd H1 c o) v is w
|[],v,w,h,_=>h
|i::r,v,w,h,off=>by
 let#[a,t,xs,u,rfl,e2,e3,h]:=h;exact#[a,t,xs,u,rfl,by rw[IQ (off [] i r a rfl rfl)];exact FI s e2,e3,Reach.upd s h λp n q b e hb=>off (i::p) n q b (by rw[e];rfl) #[a,t,xs,u,rfl,e2,e3,hb]]
theorem IS:∀(is:M Int) {x:D}{ys:M D}{v:V}{fs:M Addr}{c:Addr},aZ F H->bz K H F x v fs->iP is x=Y (.lst J ys)->fs.Nodup->Reach K H v is (.ref c)->
 c∈fs/\∀p n q a,is=p++n::q->Reach K H v p (.ref a)->a≠c
|[],x,ys,v,fs,c,s,r,e,nd,h=>by
 cases e;unfold bz at r;rw[aB rfl]at r;let#[a,vs,f1,rfl,r2,r3,r4,rfl]:=r;cases h;exact#[aj,λp n q a z=>by cases p<;>cases z]
|i::r,x,ys,v,fs,c,s,rx,e,nd,h=>by
 let#[a,t,us,u,rfl,e2,e3,h]:=h;have key:∀(xs:M D) (vs:M V) (f0:M Addr),ig H a=Y (t,vs)->aY K H F xs vs f0->f0.Nodup->((gO xs.length i).bind λn=>(xs[n]?).bind λy=>iP r y)=Y (.lst J ys)->c∈f0/\∀p n q b,r=p++n::q->Reach K H u p (.ref b)->b≠c:=by
  intro xs vs f0 hs r4 nd e;cases e1:gO xs.length i with
  |none=>rw[e1]at e;cases e
  |some n=>
   rw[e1]at e;have e:((xs[n]?).bind λy=>iP r y)=Y (.lst J ys):=e;cases q:xs[n]? with
   |none=>rw[q]at e;cases e
   |some y=>
    rw[q]at e;let#[w,f1,f2,f3,w1,rfl,w2,_]:=aY.at n r4 q;rw[e2]at hs;cases hs;have e4:=tZ (by rw[r4.len];exact e1) w1;rw[e3]at e4;cases e4;let#[n1,n23,n4]:=bP.mp nd;let#[n2,n3,n5]:=bP.mp n23;let#[h1,h2]:=IS r s w2 e n2 h;exact#[aK _ (aX _ h1),h2]
 have fin:∀(f0:M Addr),a≠c->(∀p n q b,r=p++n::q->Reach K H u p (.ref b)->b≠c)->∀p n q b,i::r=p++n::q->Reach K H (.ref a) p (.ref b)->b≠c:=by
  intro f0 ha hr p n q b e hb;cases p with
  |nil=>cases hb;exact ha
  |cons j p=>
   cases e;let#[a',t',xs',u',f1,g2,g3,hb]:=hb;cases f1;rw[e2]at g2;cases g2;rw[e3]at g3;cases g3;exact hr p n q b rfl hb
 unfold iP at e;split at e
 ·unfold bz at rx;rw[aB rfl]at rx;let#[a',vs,f0,z,r2,r3,r4,rfl]:=rx;cases z;have nd':=bF.mp nd;let#[h1,h2]:=key _ vs f0 (by
   have:ig H a=Y (W,vs):=by unfold ig;rw[r2]
   rw[e2]at this;cases this;exact e2) r4 nd'.2 e
  exact#[ai _ h1,fin f0 (λz=>nd'.1 (by rw[z];exact h1)) h2]
 ·let#[a',vs,z,r2,r3,r4]:=rx;cases z;let#[h1,h2]:=key _ vs fs (by
   have:ig H a=Y (J,vs):=by unfold ig;rw[s _ _ r2]
   rw[e2]at this;cases this;exact e2) r4 nd e
  refine#[h1,fin fs (λz=>?_) h2];let#[o,eo,ho]:=aY.ex _ _ _ r4 c h1;rw[<-z,s _ _ r2]at eo;cases eo;exact ho
 ·cases e
theorem IT:∀(is:M Int) {x:D}{m:L}{v:V}{fs:M Addr},aZ F H->bz K H F x v fs->sQ is x=Y m->∃c t vs,Reach K H v is (.ref c)/\ig H c=Y (t,vs)/\vs.length=m
|[],x,m,v,fs,s,r,e=>by
 unfold sQ at e;split at e
 ·cases e;unfold bz at r;rw[aB rfl]at r;let#[a,vs,f1,rfl,r2,r3,r4,rfl]:=r;exact#[a,W,vs,rfl,by unfold ig;rw[r2],r4.len]
 ·cases e;let#[a,vs,rfl,r2,r3,r4]:=r;exact#[a,J,vs,rfl,by unfold ig;rw[s _ _ r2],r4.len]
 ·cases e
|i::r,x,m,v,fs,s,rx,e=>by
 have key:∀(a:Addr) (t:Bool) (xs:M D) (vs:M V) (f0:M Addr),v=.ref a->ig H a=Y (t,vs)->aY K H F xs vs f0->((gO xs.length i).bind λn=>(xs[n]?).bind λy=>sQ r y)=Y m->∃c t vs,Reach K H v (i::r) (.ref c)/\ig H c=Y (t,vs)/\vs.length=m:=by
  intro a t xs vs f0 ev hs r4 e;cases e1:gO xs.length i with
  |none=>rw[e1]at e;cases e
  |some n=>
   rw[e1]at e;have e:((xs[n]?).bind λy=>sQ r y)=Y m:=e;cases q:xs[n]? with
   |none=>rw[q]at e;cases e
   |some y=>
    rw[q]at e;let#[w,f1,f2,f3,w1,_,w2,_]:=aY.at n r4 q;let#[c,t',us,h1,h2,h3]:=IT r s w2 e;exact#[c,t',us,#[a,t,vs,w,ev,hs,tZ (by rw[r4.len];exact e1) w1,h1],h2,h3]
 unfold sQ at e;split at e
 ·unfold bz at rx;rw[aB rfl]at rx;let#[a,vs,f0,z,r2,r3,r4,rfl]:=rx;exact key a W _ vs f0 z (by unfold ig;rw[r2]) r4 e
 ·let#[a,vs,z,r2,r3,r4]:=rx;exact key a J _ vs fs z (by unfold ig;rw[s _ _ r2]) r4 e
 ·cases e
theorem IU:∀{w:CE}{p:L×M Int},Cp w=Y p->oF σd w=Y p
|.var k,p,h=>h
|.ix o (.con (.int n)),p,h=>by
 have h:(Cp o).map (λp=>(p.1,p.2++[n]))=Y p:=h;cases q:Cp o with
 |none=>rw[q]at h;cases h
 |some r=>
  rw[q]at h;cases h;show((oF σd o).bind λp=>(Y n).map λn=>(p.1,p.2++[n]))=_;rw[IU q];rfl
def aaF[Ex](hΓ:dc K Γp U)(I:bu K F0 H0 σd O F H fp)(lt:cX e=J)(he:pE Γp e σd=.ok d)(h:∀v F1 H1,bu K F0 H0 σd O F1 H1 fp->aZ F F1->aZ H H1->(be d=J->∃f,j7 K H0 F1 H1 fp d v f)->Q v H1):wE K U Ex.E e O H Q:=by
 refine gk hΓ e (I.env (cL e)) (dZ I.g.s) lt ?_;rw[he];intro F' H' v f g fr r;refine h v _ H' (I.back g) (λb o q=>?_) g.h λho=>?_
 ·have hb:b∉ownAt fp (cL e):=λz=>by
   let#[i,_,hb]:=d8.mp z;rw[I.nf i b hb]at q;cases q
  rw[gQ hb];exact g.f b o (c_ I.g.s b o q)
 refine#[f,bz.less (mX g.s ((I.lists _).mono g.h)) d v f ho r,fr.nd,λa ha=>aZ.none (kY _ _) (fr.nf a ha),λa ha=>aZ.none I.g.h (fr.nh a ha),λi a ha hb=>?_];let#[o,e,_]:=I.ex i a hb;rw[fr.nh a ha]at e;cases e
def ab5[Ex](hΓ:dc K Γp U)(I:bu K F0 H0 σd O F H fp)(la:cX a=J)(h:b8 K F0 H0 (Ey Γp o a σd) X):wE K U Ex.E (.mth .append o (.cons a .nil)) O H λ_ H1=>X.nx O H1:=by
 unfold Ey at h;split at h
 ·rename_i p ep;let#[d,e1,h]:=ED h;split at h
  ·rename_i x ex;split at h
   ·rename_i ho;cases e3:eT p.2 x d with
    |none=>rw[e3]at h;exact h.elim
    |some x'=>
     rw[e3]at h;let#[v,hv,rx]:=I.rep _ _ ex;let#[ys,eg]:=EG p.2 e3;let#[c,ws,f2,c1,c2,c4,_,_,c5]:=t9 p.2 I.g.s rx eg (I.nd _);let#[c3,c5]:=c5 e3;refine IP I o (show oF σd o=Y (p.1,p.2)from ep) hv c4 #[?_,?_]
     ·show fX H c;unfold fX;rw[c2];trivial
     ·simp only[wEs];refine aaF hΓ I la e1 λu F1 H1 I1 sF sH V1=>?_;let#[f,V1]:=V1 ho;show(match H1 c with|some (.lst xs)=>xs.length<ah/\X.nx O (upd H1 c (.lst (xs++[u])))|_=>aR);rw[sH _ _ c2];refine#[c3,?_];have hcf:c∉f:=λz=>V1.dis p.1 c z c1;let#[fs',g1,g2,g3]:=c5 (H':=upd H1 c (.lst (ws++[u]))) sF (bz.mono (aZ.refl _) _ _ _ (λb hb=>bf λz=>hcf (by rw[<-z];exact hb)) V1.r) V1.nd (λb hb=>V1.dis p.1 b hb) (λb hb hc=>by
       rw[bf hc];let#[o,eo,_]:=I.ex p.1 b hb;rw[eo,sH b o eo]) dF
      refine h O F1 _ _ (I1.put c1 hv g1 g2 (λb hb=>?_) (λb hb=>?_) λi hi b hb z=>?_)
      ·rcases g3 b hb with q|q
       ·exact I1.nf p.1 b q
       ·exact V1.nf b q
      ·rcases g3 b hb with q|q
       ·exact I1.nh p.1 b q
       ·exact V1.nh b q
      ·rcases g3 b hb with q|q
       ·exact hi (I1.dis i p.1 b z q)
       ·exact V1.dis i b q z
   ·exact h.elim
  ·exact h.elim
 ·exact h.elim
def okX[Ex](hΓ:dc K Γp U)(I:bu K F0 H0 σd O F H fp)(lt:cX e=J)(h:b8 K F0 H0 (pX Γp e σd) X):wE K U Ex.E e O H λ_ H1=>X.nx O H1:=by
 have gen:b8 K F0 H0 ((pE Γp e σd).a_ λ_=>.nx σd) X->wE K U Ex.E e O H λ_ H1=>X.nx O H1:=λh=>by
  rcases mj h with⟨x,e1,hx⟩|⟨d,e1,h⟩
  ·exact xG hΓ I lt e1 hx
  exact runD' hΓ I lt e1 λv F1 H1 I1 _ _=>h O F1 H1 fp I1
 cases e with
 |mth m o as=>
  cases o with
  |var k=>
   let#[_,lt2]:=band' (show(cX (.var k)&&iX as)=J from lt);cases m with
   |append=>
    cases as with
    |nil=>exact h.elim
    |cons a r=>
     cases r with
     |cons _ _=>exact h.elim
     |nil=>
      let#[la,_]:=band' (show(cX a&&iX .nil)=J from lt2);rcases EC (show b8 K F0 H0 ((pE Γp a σd).jR (pL σd[k]?) λd=>match σd[k]? with|some (Y (.lst J xs))=>if(decide (xs.length<ah)&&(be d||!(cL a).contains k))=J then .nx ((iO (cL a) (be d) σd).set k (Y (.lst J (xs++[d]))))else .bad|_=>.bad) X from h)with⟨hb,x,e1,hx⟩|⟨d,e1,h⟩
      ·unfold pL at hb;split at hb
       ·rename_i xs q;let#[a0,us,fs,s1,s2,s3,s4,s5]:=I.lst q;refine slot_of s1 #[?_,?_]
        ·show fX H a0;unfold fX;rw[s2];trivial
        ·simp only[wEs];exact xG hΓ I la e1 hx
       ·cases hb
      split at h
      ·rename_i xs q;split at h
       ·rename_i c;let#[c1,c2]:=band' c;have c1:=aq c1;let#[a0,us,fs,s1,s2,s3,s4,s5]:=I.lst q;refine slot_of s1 #[?_,?_]
        ·show fX H a0;unfold fX;rw[s2];trivial
        ·simp only[wEs];refine zy hΓ I la e1 λv F1 H1 fp1 f I1 V1=>?_;let#[a1,us1,fs1,t1,t2,t3,t4,t5]:=I1.lst (k:=k) (xs:=xs) (by rw[EE c2];exact q);rw[s1]at t1;cases t1;show(match H1 a0 with|some (.lst xs)=>xs.length<ah/\X.nx O (upd H1 a0 (.lst (xs++[v])))|_=>aR);rw[t2];refine#[by rw[t4.len];exact c1,?_];have nd1:(fs1++f).Nodup:=by
          have n:=I1.nd k;rw[t5]at n;refine bP.mpr #[(bF.mp n).2,V1.nd,λa ha b hb z=>?_];subst z;exact V1.dis k a hb (by rw[t5];exact ai _ ha)
         let#[fp',I']:=I1.Du (xs:=xs) (xs':=xs++[d]) (vs:=us1) (vs':=us1++[v]) (fs:=fs1) (fs':=fs1++f) V1 s1 t5 (by rw[ao,t4.len];simp;omega)
          (λh1 h2=>aY.app (aY.mono (aZ.refl _) _ _ _ h1 t4) (aY.one (bz.mono (aZ.refl _) _ _ _ h2 V1.r))) nd1 (λb hb=>a6.mp hb)
         exact h O F1 _ fp' I'
       ·exact h.elim
      ·exact h.elim
   |extend=>
    cases as with
    |nil=>exact h.elim
    |cons a r=>
     cases r with
     |cons _ _=>exact h.elim
     |nil=>
      let#[la,_]:=band' (show(cX a&&iX .nil)=J from lt2);rcases EC (show b8 K F0 H0 ((pE Γp a σd).jR (pL σd[k]?) λd=>Ez k (cL a) d σd) X from h)with⟨hb,x,e1,hx⟩|⟨d,e1,h⟩
      ·unfold pL at hb;split at hb
       ·rename_i xs q;let#[a0,us,fs,s1,s2,s3,s4,s5]:=I.lst q;refine slot_of s1 #[?_,?_]
        ·show fX H a0;unfold fX;rw[s2];trivial
        ·simp only[wEs];exact xG hΓ I la e1 hx
       ·cases hb
      unfold Ez at h;split at h
      ·rename_i ys;split at h
       ·rename_i xs q;split at h
        ·rename_i c;let#[c1,c2]:=band' c;have c1:=aq c1;let#[a0,us,fs,s1,s2,s3,s4,s5]:=I.lst q;refine slot_of s1 #[?_,?_]
         ·show fX H a0;unfold fX;rw[s2];trivial
         ·simp only[wEs];refine zy hΓ I la e1 λv F1 H1 fp1 f I1 V1=>?_;let#[a1,us1,fs1,t1,t2,t3,t4,t5]:=I1.lst (k:=k) (xs:=xs) (by rw[EE c2];exact q);rw[s1]at t1;cases t1;have rv:=V1.r;unfold bz at rv;rw[aB rfl]at rv;let#[b,ws,f2,rfl,k2,k3,k4,rfl]:=rv;show(match H1 a0 with|some (.lst xs)=>∃zs,H1 b=Y (.lst zs)/\xs.length+zs.length<=ah/\X.nx O (upd H1 a0 (.lst (xs++zs)))|_=>aR);rw[t2];refine#[ws,k2,by rw[t4.len,k4.len];exact c1,?_];have nd2:=bF.mp V1.nd;have nd1:(fs1++f2).Nodup:=by
           have n:=I1.nd k;rw[t5]at n;refine bP.mpr #[(bF.mp n).2,nd2.2,λa ha b hb z=>?_];subst z;exact V1.dis k a (ai _ hb) (by rw[t5];exact ai _ ha)
          let#[fp',I']:=I1.Du (xs:=xs) (xs':=xs++ys) (vs:=us1) (vs':=us1++ws) (fs:=fs1) (fs':=fs1++f2) V1 s1 t5 (by rw[ao,t4.len,k4.len];exact c1)
           (λh1 h2=>aY.app (aY.mono (aZ.refl _) _ _ _ h1 t4) (aY.mono (aZ.refl _) _ _ _ (λb hb=>h2 b (ai _ hb)) k4)) nd1 (λb hb=>by
            rcases a6.mp hb with z|z
            ·exact .inl z
            ·exact .inr (ai _ z))
          exact h O F1 _ fp' I'
        ·exact h.elim
       ·exact h.elim
      ·exact h.elim
   |clear=>
    cases as with
    |cons _ _=>exact h.elim
    |nil=>
     have h:b8 K F0 H0 (match σd[k]? with|some (Y (.lst J _))=>.nx (σd.set k (Y (.lst J [])))|_=>.bad) X:=h;split at h
     ·rename_i xs q;let#[a0,us,fs,s1,s2,s3,s4,s5]:=I.lst q;refine slot_of s1 #[?_,?_]
      ·show fX H a0;unfold fX;rw[s2];trivial
      ·show(match H a0 with|some (.lst xs)=>X.nx O (upd H a0 (.lst []))|_=>aR);rw[s2];have ha:a0∈fp k:=by rw[s5];exact aj
       have rr:bz K (upd H a0 (.lst [])) F (.lst J []) (.ref a0) [a0]:=by
        unfold bz;rw[aB rfl];exact#[a0,[],[],rfl,dF,iE _,#[rfl,rfl],rfl]
       exact h O F _ _ (I.put ha s1 rr (bF.mpr #[aP,di]) (λb hb=>by rw[aQ.mp hb];exact I.nf k a0 ha) (λb hb=>by rw[aQ.mp hb];exact I.nh k a0 ha) λi hi b hb z=>by
        rw[aQ.mp hb]at z;exact hi (I.dis i k a0 z ha))
     ·exact h.elim
   |_=>exact gen h
  |ix o i=>
   let#[_,lt2]:=band' (show(cX (.ix o i)&&iX as)=J from lt);cases m with
   |append=>
    cases as with
    |nil=>exact h.elim
    |cons a r=>
     cases r with
     |cons _ _=>exact h.elim
     |nil=>
      let#[la,_]:=band' (show(cX a&&iX .nil)=J from lt2);exact ab5 hΓ I la h
   |_=>exact gen h
  |_=>exact gen h
 |_=>exact gen h
def aaG[Ex](hΓ:dc K Γp U){g:CG}{e:CE}(I:bu K F0 H0 σd O F H fp)(lg:ltG g=J)(lt:cX e=J)(h:b8 K F0 H0 (pA Γp g e σd) X):wE K U Ex.E e O H λx H1=>wG K U Ex.E g x O H1 X.nx:=by
 cases g with
 |name i=>
  rcases mj (show b8 K F0 H0 ((pE Γp e σd).a_ λd=>.nx ((iO (cL e) (be d) σd).set i (Y d))) X from h)with⟨x,e1,hx⟩|⟨d,e1,h⟩
  ·exact xG hΓ I lt e1 hx
  exact zy hΓ I lt e1 λv F1 H1 fp1 f I1 V1=>h _ F1 H1 _ (I1.set V1 i)
 |tup gs=>
  rcases mj (show b8 K F0 H0 ((pE Γp e σd).a_ λd=>(pG (.tup gs) d (iO (cL e) (be d) σd)).a_ .nx) X from h)with⟨x,e1,hx⟩|⟨d,e1,h⟩
  ·exact xG hΓ I lt e1 hx
  let#[σ2,e2,h]:=zx h (IL _ _ _);refine zy hΓ I lt e1 λv F1 H1 fp1 f I1 V1=>?_;exact aaE (.tup gs) I1 V1 e2 fun σ' fp' I' _=>h σ' _ H1 fp' I'
 |sub o i=>
  let#[_,li]:=band' (show(cX o&&cX i)=J from lg);cases o with
  |var k=>
   rcases mj (show b8 K F0 H0 ((pE Γp e σd).a_ λd=>(pE Γp i (iO (cL e) (be d) σd)).jR W λj=>match σd[k]? with
    |some (Y x)=>if(be d||!(cL e).contains k)=J then(R.opt (putIn x d j)).a_ λx'=>.nx ((iO (cL e) (be d) σd).set k (Y x'))else .bad
    |_=>.bad) X from h)with⟨x,e1,hx⟩|⟨d,e1,h⟩
   ·exact xG hΓ I lt e1 hx
   let#[j,e2,h]:=ED h;cases q:σd[k]? with
   |none=>simp only[q]at h;exact h.elim
   |some o=>
    cases o with
    |none=>simp only[q]at h;exact h.elim
    |some x=>
     simp only[q]at h;by_cases c:(be d||!(cL e).contains k)=J
     ·rw[aB c]at h;let#[x',e3,h]:=zx h bQ.opt;have e3:=v8 e3;refine zy hΓ I lt e1 λv F1 H1 fp1 f I1 V1=>?_;have nd1:∀{F2 H2:Hp}{a0:Addr}{fs1:M Addr},bu K F0 H0 (iO (cL e) (be d) σd) O F2 H2 fp1->j7 K H0 F2 H2 fp1 d v f->fp1 k=a0::fs1->(fs1++f).Nodup:=λI2 V2 t5=>by
       have n:=I2.nd k;rw[t5]at n;refine bP.mpr #[(bF.mp n).2,V2.nd,λa ha b hb z=>?_];subst z;exact V2.dis k a hb (by rw[t5];exact ai _ ha)
      have q1:(iO (cL e) (be d) σd)[k]?=Y (Y x):=by rw[EE c];exact q
      cases x with
      |lst o xs=>
       cases o with
       |false=>cases e3
       |true=>
        cases j with
        |int j=>
         have e3:(gO xs.length j).map (λn=>D.lst J (xs.set n d))=Y x':=e3;cases en:gO xs.length j with
         |none=>rw[en]at e3;cases e3
         |some n=>
          rw[en]at e3;cases e3;let#[a0,us,fs,s1,s2,s3,s4,s5]:=I1.lst q1;refine slot_of s1 (runV hΓ I1 V1 li e2 λw F2 H2 I2 V2 rj=>?_);have rj:=rj rfl rfl;subst rj;let#[a1,us1,fs1,t1,t2,t3,t4,t5]:=I2.lst q1;rw[s1]at t1;cases t1;simp only[t2];refine#[j,n,rfl,by rw[t4.len];exact en,?_];let#[fs',q1,q2,q3]:=aY.set n t4 V2.r (nd1 I2 V2 t5);let#[fp',I']:=I2.Du (xs:=xs) (xs':=xs.set n d) (vs:=us1) (vs':=us1.set n v) (fs:=fs1) (fs':=fs') V2 s1 t5 (by rw[vo];exact t3)
           (λh1 h2=>aY.mono (aZ.refl _) _ _ _ (λb hb=>by
            rcases q3 b hb with z|z
            ·exact h1 b z
            ·exact h2 b z) q1) q2 q3
          exact h O F2 _ fp' I'
        |_=>cases e3
      |_=>cases e3
     ·rw[aD c]at h;exact h.elim
  |_=>exact h.elim
theorem CA:∀(ds es:M D),aF ds=ds->aF es=es->aF (nB ds es)=nB ds es
|[],es,_,_=>by cases es<;>rfl
|d::r,[],_,_=>rfl
|d::r,e::t,h,h'=>by
 injection h with h1 h2;injection h' with h3 h4;show D.tup [bE d,bE e]::aF (nB r t)=_;rw[h1,h3,CA r t h2 h4];rfl
theorem FJ:∀(ds:M D) (n:L),aF ds=ds->aF (gj n ds)=gj n ds
|[],_,_=>rfl
|d::r,n,h=>by
 have h':=h;injection h' with h1 h2;show D.tup [.int (n:Int),bE d]::aF (gj (n+1) r)=_;rw[h1,FJ r (n+1) h2];rfl
def Pr(h:pI Γp src σd=.ok items):aF items.2=items.2:=by
 cases src with
 |seq a=>
  let#[x,e1,e2]:=cJ h;let#[ds,e3,e4]:=cJ e2;cases e4;cases x with
  |str z=>cases e3;exact l_ _ (λ_=>rfl) _
  |lst o xs=>cases e3;exact d7 xs
  |adr a xs=>cases e3;exact d7 xs
  |tup xs=>cases e3;exact d7 xs
  |_=>cases e3
 |range as=>
  let#[x,e1,e2]:=cJ h;let#[ds,e3,e4]:=cJ e2;cases e4;unfold pK at e3;split at e3
  ·let#[_,e5]:=kO e3;cases e5;exact l_ _ (λ_=>rfl) _
  ·let#[_,e5]:=kO e3;cases e5;exact l_ _ (λ_=>rfl) _
  ·cases e3
 |zip as=>
  let#[xs,e1,e2]:=cJ h;unfold uR at e2;split at e2
  ·cases e2;exact CA _ _ (d7 _) (d7 _)
  ·cases e2;exact CA _ _ (d7 _) (d7 _)
  ·cases e2
 |enum a=>
  let#[x,e1,e2]:=cJ h;cases x with
  |lst o xs=>cases e2;exact FJ _ 0 (d7 xs)
  |_=>cases e2
theorem M_[Ex]{ok:Hp->Prop}(hok:∀H'',aZ aaP H''->ok H'')(hb:∀{σd:bh}{O:L2.St}{F H:Hp}{fp:L->M Addr}{X:Ends},bu K aaP H0 σd O F H fp->b8 K aaP H0 (dz Γp n b σd) X->wSs K U Ex.E b X O H):∀(ds:M D) (its:M Item) {σd:bh}{O:L2.St}{F H:Hp}{fp:L->M Addr},bu K aaP H0 σd O F H fp->lQ K aaP ds its->b8 K aaP H0 (forR (pG g) (dz Γp n b) (aF ds) σd) X->forL ok (wG K U Ex.E g) (wSs K U Ex.E b) X its O H
|[],its,σd,O,F,H,fp,I,hi,h=>by
 cases hi;exact#[hok H (I.g.f.trans I.g.s),h O F H fp I]
|d::ds,its,σd,O,F,H,fp,I,hi,h=>by
 let#[it,r,rfl,i1,i2]:=hi;have hit:WD K F d it:=by
  cases it with
  |v x=>exact bg.mono I.g.f d x i1
  |tup xs=>let#[es,q1,q2,q3]:=i1;exact#[es,q1,aU.mono I.g.f es xs q2,q3]
 refine#[hok H (I.g.f.trans I.g.s),zq I.g.s hit λF1 H1 v g1 r1=>?_];let#[σ2,e1,h]:=zx (show b8 K aaP H0 ((pG g (bE d) σd).a_ fun σ2=>match dz Γp n b σ2 with
  |.nx σ3=>forR (pG g) (dz Γp n b) (aF ds) σ3
  |.ct σ3=>forR (pG g) (dz Γp n b) (aF ds) σ3
  |.bk σ3=>.nx σ3
  |.rt d=>.rt d
  |.ex x=>.ex x
  |.bad=>.bad) X from h) (IL _ _ _)
 refine ruG' g (I.grow g1) r1 e1 fun σ' fp' I'=>?_;refine hb I' ?_;cases q:dz Γp n b σ2 with
 |nx σ3=>simp only[q]at h;exact λO F H fp I3=>M_ hok hb ds r I3 i2 h
 |ct σ3=>simp only[q]at h;exact λO F H fp I3=>M_ hok hb ds r I3 i2 h
 |bk σ3=>simp only[q]at h;exact h
 |rt d=>simp only[q]at h;exact h
 |ex x=>simp only[q]at h;exact h
 |bad=>simp only[q]at h;exact h.elim
end
def ab6[Ex]{fp:L->M Addr}(hΓ:dc K Γp U)(I:bu K F0 H0 σd O F H fp)(lt:yk t=J)(h:b8 K F0 H0 (xC Γp s t σd) X):wS K U Ex.E s { X with nx:=wS K U Ex.E t X } O H:=by
 unfold xC at h;split at h
 ·rename_i j o i a;split at h
  ·rename_i hij;subst hij;split at h
   ·rename_i p ep;unfold EA at h;split at h
    ·rename_i x ex;split at h
     ·rename_i ys eg;split at h
      ·rename_i hl;have hi:i<O.length:=by rw[<-I.len];exact hl
       let#[v,hv,rx]:=I.rep _ _ ex;let#[c,ws,f2,c1,c2,c4,c6,c7,c5]:=t9 p.2 I.g.s rx eg (I.nd _);let#[_,lt2]:=band' (show(cX (.var i)&&iX (.cons a .nil))=J from lt);let#[la,_]:=band' (show(cX a&&iX .nil)=J from lt2);refine IP I o (show oF σd o=Y (p.1,p.2)from ep) hv c4 ?_;refine slot_of (bY hi) #[?_,?_]
       ·show fX H c;unfold fX;rw[c2];trivial
       ·simp only[wEs];have env:jo K (adopt F H (ownAt fp (p.1::cL a))) H (cL a) (σd.set i (Y (.lst J ys))) (O.set i (Y (.ref c))):=#[λb hb d e=>by
         by_cases hbi:b=i
         ·subst hbi;rw[bY hl]at e;cases e;exact#[.ref c,bY hi,bz.fix (c_ I.g.s) _ _ f2 (λa ha=>jC (d8.mpr #[p.1,aj,c7 a ha])) c6]
         ·rw[bG (fj hbi)]at e ⊢;exact(I.env (p.1::cL a)).e b (ai _ hb) d e,λb d e=>by
         by_cases hbi:b=i
         ·subst hbi;rw[bY hl]at e;cases e;exact#[.ref c,adopt F H (ownAt fp (p.1::cL a)),bY hi,dZ I.g.s,bz.fix (c_ I.g.s) _ _ f2 (λa ha=>jC (d8.mpr #[p.1,aj,c7 a ha])) c6]
         ·rw[bG (fj hbi)]at e ⊢;exact(I.env []).n b d e]
        refine gk hΓ a env (dZ I.g.s) la ?_;rcases mj h with⟨x0,e1,hx⟩|⟨d,e1,h⟩
        ·rw[e1];exact kM.grow (K:=K) (x:=x0) hx (I.own (p.1::cL a))
        ·rw[e1];intro F' H' u f g fr r;split at h
         ·rename_i ho;cases e3:eT p.2 x d with
          |none=>rw[e3]at h;exact h.elim
          |some x'=>
           rw[e3]at h;have h:b8 K F0 H0 (.nx ((σd.set p.1 (Y x')).set i B)) X:=h;let#[c3,c5]:=c5 e3;have I1:=I.back g;have V1:j7 K H0 (minus F' (ownAt fp (p.1::cL a))) H' fp d u f:=#[bz.less (mX g.s ((I.lists _).mono g.h)) d u f ho r,fr.nd,λa ha=>aZ.none (kY _ _) (fr.nf a ha),λa ha=>aZ.none I.g.h (fr.nh a ha),λi a ha hb=>by
            let#[o,e,_]:=I.ex i a hb;rw[fr.nh a ha]at e;cases e]
           have sF:aZ F (minus F' (ownAt fp (p.1::cL a))):=λb o q=>by
            have hb:b∉ownAt fp (p.1::cL a):=λz=>by
             let#[i,_,hb]:=d8.mp z;rw[I.nf i b hb]at q;cases q
            rw[gQ hb];exact g.f b o (c_ I.g.s b o q)
           show(match H' c with|some (.lst xs)=>xs.length<ah/\X.nx (O.set i (Y (.ref c))) (upd H' c (.lst (xs++[u])))|_=>aR);rw[g.h _ _ c2];refine#[c3,?_];have hcf:c∉f:=λz=>V1.dis p.1 c z c1;let#[fs',g1,g2,g3]:=c5 (H':=upd H' c (.lst (ws++[u]))) sF (bz.mono (aZ.refl _) _ _ _ (λb hb=>bf λz=>hcf (by rw[<-z];exact hb)) V1.r) V1.nd (λb hb=>V1.dis p.1 b hb) (λb hb hc=>by
            rw[bf hc];let#[o,eo,_]:=I.ex p.1 b hb;rw[eo,g.h b o eo]) dF
           refine h _ _ _ _ (I1.put c1 hv g1 g2 (λb hb=>?_) (λb hb=>?_) λi hi b hb z=>?_).drop
           ·rcases g3 b hb with q|q
            ·exact I1.nf p.1 b q
            ·exact V1.nf b q
           ·rcases g3 b hb with q|q
            ·exact I1.nh p.1 b q
            ·exact V1.nh b q
           ·rcases g3 b hb with q|q
            ·exact hi (I1.dis i p.1 b z q)
            ·exact V1.dis i b q z
         ·exact h.elim
      ·exact h.elim
     ·exact h.elim
    ·exact h.elim
   ·exact h.elim
  ·exact h.elim
 ·exact h.elim
section
variable{K:aa}{Γp:M PG}{U:M G}{F0 H0 F H:Hp}{σd:bh}{O:L2.St}{fp:L->M Addr}{X:Ends}
theorem Pu[Ex](hΓ:dc K Γp U){ok:Hp->Prop}(la:cX a=J)(hw:Cp w=Y (j,js))(hkj:k≠j)(hok:∀H,ig H c=Y (t,vs)->ok H):∀(us:M V) (n:L) {σd:bh}{O:L2.St}{F H:Hp}{fp:L->M Addr},vs.drop n=us->bu K F0 H0 σd O F H fp->j<O.length->σd.set j B=σd->O[k]?=Y (Y v)->Reach K H v is (.ref c)->ig H c=Y (t,vs)->
 b8 K F0 H0 (M5 Γp a k is js us.length n σd) X->forL ok (wG K U Ex.E (.name j)) (wSs K U Ex.E (.cons (.expr (.mth .append w (.cons a .nil))) .nil)) X (us.map .v) O H
|[],n,σd,O,F,H,fp,_,I,lj,hj,hk,hr,hs,h=>#[hok H hs,h O F H fp I]
|u::us,n,σd,O,F,H,fp,hd,I,lj,hj,hk,hr,hs,h=>by
 refine#[hok H hs,?_];have I':bu K F0 H0 σd (O.set j (Y u)) F H fp:=by have:=I.drop (i:=j) (w:=Y u);rw[hj]at this;exact this
 have hk':(O.set j (Y u))[k]?=Y (Y v):=by rw[bG (fj hkj)];exact hk
 let#[d,e1,h]:=ED (show b8 K F0 H0 ((pE Γp a σd).jR W λd=>match σd[k]? with
  |some (Y x)=>if be d=J then(R.opt (eT (is++(n:Int)::js) x d)).a_ λx'=>M5 Γp a k is js us.length (n+1) (σd.set k (Y x'))else .bad
  |_=>.bad) X from h)
 split at h
 ·rename_i x ex;split at h
  ·rename_i ho;cases e3:eT (is++(n:Int)::js) x d with
   |none=>rw[e3]at h;exact h.elim
   |some x'=>
    rw[e3]at h;let#[v',hv,rx]:=I'.rep _ _ ex;rw[hk']at hv;cases hv;let#[ys,eg]:=EG _ e3;let#[c',ws,f2,c1,c2,c4,_,_,c5]:=t9 _ I'.g.s rx eg (I'.nd _);let#[_,off]:=IS _ I'.g.s rx eg (I'.nd _) c4;let#[c3,c5]:=c5 e3;let#[u1,d1,d2]:=Reach.split c4;cases Reach.det d1 hr;let#[a',t',xs',u2,d3,d4,d5,d6]:=d2;cases d3;rw[hs]at d4;cases d4;have hn:fQ vs (n:Int)=Y u:=by
     have hl:n<vs.length:=by
      have:=lC KZ hd;simp at this;omega
     refine tZ (j:=n) ?_ ?_
     ·unfold gO;simp[hl]
     ·have:=rO (xs:=vs) (i:=n) (j:=0);rw[hd]at this;simpa using this.symm
    rw[hn]at d5;cases d5;refine IP I' w (IU hw) (bY lj) d6 #[?_,?_]
    ·show fX H c';unfold fX;rw[c2];trivial
    ·simp only[wEs];refine aaF hΓ I' la e1 λy F1 H1 I1 sF sH V1=>?_;let#[f,V1]:=V1 ho;show(match H1 c' with|some (.lst xs)=>xs.length<ah/\forL ok (wG K U Ex.E (.name j)) (wSs K U Ex.E (.cons (.expr (.mth .append w (.cons a .nil))) .nil)) X (us.map .v) (O.set j (Y u)) (upd H1 c' (.lst (xs++[y])))|_=>aR);rw[sH _ _ c2];refine#[c3,?_];have hcf:c'∉f:=λz=>V1.dis k c' z c1;let#[fs',g1,g2,g3]:=c5 (H':=upd H1 c' (.lst (ws++[y]))) sF (bz.mono (aZ.refl _) _ _ _ (λb hb=>bf λz=>hcf (by rw[<-z];exact hb)) V1.r) V1.nd (λb hb=>V1.dis k b hb) (λb hb hc=>by
      rw[bf hc];let#[o,eo,_]:=I'.ex k b hb;rw[eo,sH b o eo]) dF
     refine Pu hΓ la hw hkj hok us (n+1) (by rw[<-wY,hd];rfl) (I1.put c1 hk' g1 g2 (λb hb=>?_) (λb hb=>?_) λi hi b hb z=>?_) (by simpa using lj) ?_ hk' (Reach.upd sH hr λp m q b e=>off p m (q++(n:Int)::js) b (by rw[e];simp)) ?_ h
     ·rcases g3 b hb with q|q
      ·exact I1.nf k b q
      ·exact V1.nf b q
     ·rcases g3 b hb with q|q
      ·exact I1.nh k b q
      ·exact V1.nh b q
     ·rcases g3 b hb with q|q
      ·exact hi (I1.dis i k b z q)
      ·exact V1.dis i b q z
     ·rw[List.set_comm _ _ hkj,hj]
     ·rw[IQ (off is n js c rfl hr)];exact FI sH hs
  ·exact h.elim
 ·exact h.elim
def Dw(is:M L)(O σ':L2.St):Prop:=σ'.length=O.length/\∀i,i∉is->σ'[i]?=O[i]?
mutual
theorem Pw[Ex]:∀(g:CG) {is:M L}{v:V}{O:L2.St}{H:Hp}{P Q:L2.St->Hp->Prop},IG g=Y is->(∀σ' H',P σ' H'->Dw is O σ'->Q σ' H')->wG K U Ex.E g v O H P->wG K U Ex.E g v O H Q
|.name i,is,v,O,H,P,Q,e,k,h=>by
 cases e;exact k _ _ h #[by simp,λj hj=>bG λz=>hj (aQ.mpr z.symm)]
|.tup gs,is,v,O,H,P,Q,e,k,h=>by
 cases v<;>first|exact h.elim|skip
 let#[t,xs,h1,h2,h3,h4]:=h;exact#[t,xs,h1,h2,h3,LI gs e k h4]
|.sub _ _,_,_,_,_,_,_,e,_,_=>nomatch e
theorem LI[Ex]:∀(g:rF) {is:M L}{vs:M V}{O:L2.St}{H:Hp}{P Q:L2.St->Hp->Prop},II g=Y is->(∀σ' H',P σ' H'->Dw is O σ'->Q σ' H')->Fi K U Ex.E g vs O H P->Fi K U Ex.E g vs O H Q
|.nil,is,vs,O,H,P,Q,e,k,h=>by
 cases vs<;>first|exact h.elim|skip
 exact k _ _ h #[rfl,λ_ _=>rfl]
|.cons g r,is,vs,O,H,P,Q,e,k,h=>by
 cases vs with
 |nil=>exact h.elim
 |cons v vs=>
  have e:((IG g).bind λa=>(II r).map (a++·))=Y is:=e;cases e1:IG g with
  |none=>rw[e1]at e;cases e
  |some a=>
   rw[e1]at e;let#[b,e2,rfl]:=iy (show(II r).map (a++·)=Y is from e);exact Pw g e1 (fun σ1 H1 h1 o1=>LI r e2 (fun σ2 H2 h2 o2=>k σ2 H2 h2 #[o2.1.trans o1.1,λi hi=>(o2.2 i λz=>hi (aK _ z)).trans (o1.2 i λz=>hi (aX _ z))]) h1) h
end
theorem FL:∀(is:M L) (O:bh) (i:L) (d:D),(xF is O)[i]?=Y (Y d)->i∉is/\O[i]?=Y (Y d)
|[],O,i,d,h=>#[aP,h]
|j::r,O,i,d,h=>by
 let#[h1,h2]:=FL r (O.set j B) i d h;rw[fP]at h2;split at h2
 ·split at h2<;>cases h2
 ·rename_i z;exact#[λq=>by rcases aM.mp q with q|q;exact z q.symm;exact h1 q,h2]
theorem FN:∀(is:M L) (O:bh),(xF is O).length=O.length
|[],O=>rfl
|j::r,O=>by rw[xF,FN r];simp
def bu.ab7{σ':L2.St}{H':Hp}{is:M L}(I:bu K F0 H0 σd O F H fp)(s:aZ H H')(o:Dw is O σ'):bu K F0 H0 (xF is σd) σ' F H' fp:=by
 have I1:=I.grow (F1:=F) (H1:=H') #[s,aZ.refl _,I.g.s.trans s,λb o h h'=>by rw[h]at h';cases h'];exact#[I1.g,by rw[FN,I.len,o.1],λi d e=>by
  let#[h1,h2]:=FL is σd i d e;rw[o.2 i h1];exact I1.rep i d h2,I1.ex,I1.nd,I1.nf,I1.nh,I1.dis]
def bu.pN(I:bu K F0 H0 σd O F H fp):∃F',bu K F' H (L3.pN σd) O F' H λ_=>[]:=by
 refine#[adopt F H (ownAt fp (bH σd.length)),?_];have s:=dZ (fp:=ownAt fp (bH σd.length)) I.g.s;refine#[bS.refl s,by rw[zw];exact I.len,λi d e=>?_,λ_ _ ha=>aG ha aP,λ_=>di,λ_ _ ha=>aG ha aP,λ_ _ ha=>aG ha aP,λ_ _ _ ha=>aG ha aP];let#[d',e1,e2]:=FH _ σd i e;have hi:i∈bH σd.length:=by
  rw[iz];cases Kg i σd.length with
  |inl z=>exact z
  |inr z=>rw[wZ z]at e1;cases e1
 rcases e2 with⟨_,rfl⟩|⟨h1,_⟩
 ·let#[v,q1,q2]:=(I.env _).e i hi d' e1;exact#[v,q1,bg.zf d' v q2]
 ·exact aG hi h1
theorem Px[Ex](hΓ:dc K Γp U){g:CG}{c:CE}{A:cE}{is:M L}{aaP H1:Hp}{ok:Hp->Prop}(hg:IG g=Y is)(lc:cX c=J)(hok:∀H'',aZ aaP H''->ok H'')(hX:∀σ' H',aZ H1 H'->Dw is O σ'->X.nx σ' H'):∀(ds:M D) (its:M Item) {σd:bh}{σ':L2.St}{F H:Hp}{fp:L->M Addr},bu K aaP H1 σd σ' F H fp->Dw is O σ'->lQ K aaP ds its->t7 Γp c g (aF ds) σd=J->forL ok (wG K U Ex.E g) (wSs K U Ex.E (.cons (.ifs c A .nil) .nil)) X its σ' H
|[],its,σd,σ',F,H,fp,I,o,hi,h=>by
 cases hi;exact#[hok H (I.g.f.trans I.g.s),hX σ' H I.g.h o]
|d::ds,its,σd,σ',F,H,fp,I,o,hi,h=>by
 let#[it,r,rfl,i1,i2]:=hi;have hit:WD K F d it:=by
  cases it with
  |v x=>exact bg.mono I.g.f d x i1
  |tup xs=>let#[es,q1,q2,q3]:=i1;exact#[es,q1,aU.mono I.g.f es xs q2,q3]
 refine#[hok H (I.g.f.trans I.g.s),zq I.g.s hit λF1 H1 v g1 r1=>?_];have h:(match pG g (bE d) σd with
  |.ok σ2=>(match pT Γp c σ2 with
   |.ok W=>t7 Γp c g (aF ds) σ2
   |_=>W)
  |_=>W)=J:=h
 split at h
 ·rename_i σ2 e1;split at h
  ·rename_i e2;refine Pw g hg (P:=fun σ3 H3=>H3=H1/\∃fp',bu K aaP _ σ2 σ3 F1 H1 fp') (fun σ3 H3 h3 o'=>?_) (ruG' g (I.grow g1) r1 e1 fun σ3 fp' I'=>#[rfl,fp',I']);let#[rfl,fp',I']:=h3;refine TQ hΓ I' lc e2 λF2 H2 I2=>?_;rw[aD bq];exact Px hΓ hg lc hok hX ds r I2 #[o'.1.trans o.1,λi hi=>(o'.2 i hi).trans (o.2 i hi)] i2 h
  ·cases h
 ·cases h
def ab8[Ex](hΓ:dc K Γp U){g:CG}{src:CI}{c:CE}{A:cE}(I:bu K F0 H0 σd O F H fp)(l1:ltI src=J)(l2:cX c=J)(h:b8 K F0 H0 (Cs Γp g src c σd) X):wS K U Ex.E (.forr g src (.cons (.ifs c A .nil) .nil)) X O H:=by
 unfold Cs at h;split at h
 ·rename_i is hg;split at h
  ·rename_i items e;split at h
   ·rename_i hr;let#[F1,I1]:=I.pN;show wI K U Ex.E src O H λok items H1=>forL ok (wG K U Ex.E g) (wSs K U Ex.E (.cons (.ifs c A .nil) .nil)) X items O H1;refine WK hΓ src (ownAt (λ_=>[]) (qG src)) (I1.env (qG src)) (dZ I1.g.s) (I1.lists _) l1 ?_;rw[e];intro F2 H2 ok its g1 hok hi _;have hz:ownAt (λ_=>([]:M Addr)) (qG src)=[]:=by
     cases q:ownAt (λ_=>([]:M Addr)) (qG src)with
     |nil=>rfl
     |cons a r=>
      have:a∈ownAt (λ_=>([]:M Addr)) (qG src):=by rw[q];exact aj
      let#[_,_,z]:=d8.mp this;cases z
    rw[hz]at g1 hok hi;rw[Fy]at hok hi;have ha:adopt F1 H []=F1:=by funext b;exact jY aP
    rw[ha]at g1;have I2:=(I1.grow g1).rebase;refine Px hΓ hg l2 hok (fun σ' H' s o=>h _ _ _ _ (I.ab7 s o)) items.2 its I2 #[rfl,λ_ _=>rfl] hi ?_;rw[Pr e];exact hr
   ·exact h.elim
  ·exact h.elim
 ·exact h.elim
def ab9[Ex]{k t:L}(I:bu K F0 H0 σd O F H fp)(h:b8 K F0 H0 (TN k t σd) X):wE K U Ex.E (.mth .append (.var k) (.cons (.tup (.cons (.var t) (.cons (.lst .nil) .nil))) .nil)) O H λ_ H1=>X.nx O H1:=by
 unfold TN at h;split at h
 ·rename_i xs ys q1 q2;split at h
  ·rename_i c;let#[c1,c2]:=band' c;have c1:=aq c1;have c2:=aq c2;let#[a,us,fs,s1,s2,s3,s4,s5]:=I.lst q1;let#[v,t1,t2]:=I.rep _ _ q2;show jW O k λx=>o_ .append x H/\jW O t λv=>(Nat.zero<=ah/\∀p,H p=B->(2<=ah/\∀p',upd H p (.lst []) p'=B->oB K .append x [.ref p'] (upd (upd H p (.lst [])) p' (.tup [v,.ref p])) λ_ H1=>X.nx O H1));refine slot_of s1 #[?_,slot_of t1 #[iE _,λp hp=>#[by rw[szl];decide,λp' hp'=>?_]]]
   ·show fX H a;unfold fX;rw[s2];trivial
   ·have g1:=(newList (vs:=[]) (o:=.lst []) I.g.s hp).1;have I1:=(I.M9 t).grow g1;have g2:=v5 (o:=.tup [v,.ref p]) g1.s hp';have I2:=I1.grow g2;have hpp:p≠p':=λz=>by rw[<-z,dF]at hp';cases hp'
    have hF:F p=B:=aZ.none I.g.s hp;have nt:∀b∈fp t,b≠p/\b≠p':=λb hb=>by
     let#[o,e,_]:=I.ex t b hb;refine#[λz=>?_,λz=>?_]
     ·rw[z,hp]at e;cases e
     ·rw[z]at e;rw[bf (fj hpp)]at hp';rw[hp']at e;cases e
    have V:j7 K H0 (upd F p' (.tup [v,.ref p])) (upd (upd H p (.lst [])) p' (.tup [v,.ref p])) (λi=>if i=t then[]else fp i) (.tup [.lst J ys,.lst J []]) (.ref p') (fp t++[p]):=by
     refine#[#[p',[v,.ref p],rfl,dF,by rw[szl];exact aq rfl,v,[.ref p],fp t,[p],rfl,rfl,bz.mono g2.f _ v _ (λb hb=>by rw[bf (nt b hb).2,bf (nt b hb).1]) t2,.ref p,[],[p],[],rfl,rfl,?_,rfl,rfl],?_,λb hb=>?_,λb hb=>?_,λi b hb=>?_]
     ·unfold bz;rw[aB rfl];exact#[p,[],[],rfl,by rw[bf hpp,dF],iE _,#[rfl,rfl],rfl]
     ·refine bP.mpr #[I.nd t,bF.mpr #[aP,di],λb hb b' hb' z=>(nt b hb).1 (z.trans (aQ.mp hb'))]
     ·rcases a6.mp hb with hb|hb
      ·rw[bf (nt b hb).2];exact I.nf t b hb
      ·rw[aQ.mp hb,bf hpp];exact hF
     ·rcases a6.mp hb with hb|hb
      ·exact I.nh t b hb
      ·rw[aQ.mp hb];exact aZ.none I.g.h hp
     ·by_cases hi:i=t
      ·rw[aB hi];exact aP
      ·rw[aD hi];intro z;rcases a6.mp hb with hb|hb
       ·exact hi (I.dis i t b z hb)
       ·rw[aQ.mp hb]at z;let#[o,e,_]:=I.ex i p z;rw[hp]at e;cases e
    let#[a1,us1,fs1,r1,r2,r3,r4,r5]:=I2.lst (k:=k) (xs:=xs) (by rw[bG (fj c1)];exact q1);rw[s1]at r1;cases r1;show(match (upd (upd H p (.lst [])) p' (.tup [v,.ref p])) a with|some (.lst xs)=>xs.length<ah/\X.nx O (upd (upd (upd H p (.lst [])) p' (.tup [v,.ref p])) a (.lst (xs++[.ref p'])))|_=>aR);rw[r2];refine#[by rw[r4.len];exact c2,?_];have nd1:(fs1++(fp t++[p])).Nodup:=by
     have n:=I2.nd k;rw[r5]at n;refine bP.mpr #[(bF.mp n).2,V.nd,λa ha b hb z=>?_];subst z;exact V.dis k a hb (by rw[r5];exact ai _ ha)
    let#[fp',I']:=I2.Du (xs:=xs) (xs':=xs++[.tup [.lst J ys,.lst J []]]) (vs:=us1) (vs':=us1++[.ref p']) (fs:=fs1) (fs':=fs1++(fp t++[p])) V s1 r5 (by rw[ao,r4.len];simp;omega)
     (λh1 h2=>aY.app (aY.mono (aZ.refl _) _ _ _ h1 r4) (aY.one (bz.mono (aZ.refl _) _ _ _ h2 V.r))) nd1 (λb hb=>a6.mp hb)
    exact h O _ _ fp' I'
  ·exact h.elim
 ·exact h.elim
def ab_[Ex](hΓ:dc K Γp U)(I:bu K F0 H0 σd O F H fp)(lt:yk s=J)(h:b8 K F0 H0 (qS Γp s σd) X):wS K U Ex.E s X O H:=by
 unfold qS at h;split at h
 ·rename_i j o w a;unfold aaA at h;split at h
  ·rename_i p ep;split at h
   ·rename_i q hw;split at h
    ·rename_i hc;simp only[cU,cK]at hc;let#[#[hj,hkj],hl]:=hc;split at h
     ·rename_i x ex;cases em:sQ p.2 x with
      |none=>rw[em]at h;exact h.elim
      |some m=>
       rw[em]at h;let#[v,hv,rx]:=I.rep _ _ ex;let#[c,t,vs,r1,r2,r3]:=IT p.2 I.g.s rx em;have la:cX a=J:=by
        let#[_,l2]:=band' (show(ltI (.seq o)&&jq (.cons (.expr (.mth .append w (.cons a .nil))) .nil))=J from lt);let#[l3,_]:=band' (show(cX (.mth .append w (.cons a .nil))&&jq .nil)=J from l2);let#[_,l4]:=band' (show(cX w&&iX (.cons a .nil))=J from l3);exact(band' (show(cX a&&iX .nil)=J from l4)).1
       refine IP I o (show oF σd o=Y (p.1,p.2)from ep) hv r1 #[t,vs,.inl r2,?_];have lj:j<O.length:=by rw[<-I.len];exact hl
       have I0:bu K F0 H0 (σd.set j B) O F H fp:=by
        have:=I.drop (i:=j) (w:=O.getD j B);rw[show O.set j (O.getD j B)=O from ?_]at this
        ·exact this
        ·refine nG λi=>?_;by_cases z:j=i
         ·subst z;rw[bY lj];simp[AK,lj]
         ·rw[bG z]
       have hw':Cp w=Y (j,q.2):=by rw[hw,<-hj]
       exact Pu hΓ la hw' hkj (λH e=>.inl e) vs 0 rfl I0 lj (by simp) hv r1 r2 (by rw[r3];exact h)
     ·exact h.elim
    ·exact h.elim
   ·exact h.elim
  ·exact h.elim
 ·rename_i i j g k b;split at h
  ·rename_i q e;rw[TX e];exact ab3 hΓ I h
  ·exact h.elim
 ·rename_i g src c A _;let#[l1,l2]:=band' (show(ltI src&&jq (.cons (.ifs c A .nil) .nil))=J from lt);let#[l3,_]:=band' (show(yk (.ifs c A .nil)&&jq .nil)=J from l2);exact ab8 hΓ I l1 (band' (show(cX c&&(jq A&&jq .nil))=J from l3)).1 h
 ·exact ab9 I h
 ·exact h.elim
end
def acd[Ex](hΓ:dc K Γp U){fp:L->M Addr}(I:bu K F0 H0 σd O F H fp)(lt:cX e=J)(h:b8 K F0 H0 (pS Γp n (.aug i e) σd) X):wS K U Ex.E (.aug i e) X O H:=by
 have h:b8 K F0 H0 (match σd[i]? with
  |some (Y (.int a))=>(pE Γp e σd).a_ λd=>HF i a σd d
  |_=>.bad) X:=h
 split at h
 ·rename_i a q;let#[v,h1,h2]:=(I.env [i]).e i (aQ.mpr rfl) (.int a) q;obtain rfl:v=.int a:=h2;refine#[.int a,h1,?_];rcases mj h with⟨x,e1,hx⟩|⟨d,e1,h⟩
  ·exact xG hΓ I lt e1 hx
  unfold HF at h;split at h
  ·rename_i b;refine runD' hΓ I lt e1 λw F1 H1 I1 _ V1=>?_;let#[f0,V1]:=V1 rfl;let#[rfl,_]:=V1.r;exact#[a,b,rfl,rfl,h _ F1 H1 _ (I1.set (j7.aaD (d:=.int (a+b)) (show bg K F1 (.int (a+b)) (.int (a+b))from rfl)) i)]
  ·exact h.elim
 ·exact h.elim
mutual
theorem Yb:∀(d:D) {v:V}{f:M Addr},M4 d=J->bz K H F d v f->f=[]
|.non,_,_,_,r=>r.2
|.bl _,_,_,_,r=>r.2
|.int _,_,_,_,r=>r.2
|.str _,_,_,_,r=>r.2
|.tup xs,_,_,h,r=>by
 let#[a,vs,_,_,_,r]:=r;exact xH xs h r
|.lst _ _,_,_,h,_=>nomatch h
|.cst _,_,_,h,_=>nomatch h
|.adr _ _,_,_,h,_=>nomatch h
theorem xH:∀(ds:M D) {vs:M V}{f:M Addr},mh ds=J->aY K H F ds vs f->f=[]
|[],_,_,_,r=>r.2
|d::ds,_,_,h,r=>by
 let#[v,vr,f1,f2,_,rfl,r1,r2]:=r;have h:(M4 d&&mh ds)=J:=h;let#[h1,h2]:=band' h;rw[Yb d h1 r1,xH ds h2 r2];rfl
end
theorem T3[Ex](hΓ:dc K Γp U):∀(as:ja) {bs:ja}{e:CE}{σd:bh}{O:L2.St}{F H:Hp}{Q:M V->Hp->Prop},nK as=Y (bs,e)->jo K F H (jm bs) σd O->aZ F H->iX as=J->(∃ds,fH Γp bs σd=.ok ds)->
 (∀ds F1 H1 vs,fH Γp bs σd=.ok ds->bS F H F1 H1->aU K F1 ds vs->cX e=J->wE K U Ex.E e O H1 λv H2=>Q (vs++[v]) H2)->wEs K U Ex.E as O H Q
|.nil,_,_,_,_,_,_,_,h,_,_,_,_,_=>nomatch h
|.cons a r,bs,e,σd,O,F,H,Q,h,env,s,lt,hd,k=>by
 let#[l1,l2]:=band' lt;have h:(match nK r with
  |some p=>Y (ja.cons a p.1,p.2)
  |none=>Y (.nil,a))=Y (bs,e):=h
 cases er:nK r with
 |none=>
  rw[er]at h;cases h;cases r with
  |nil=>exact k [] F H [] rfl (bS.refl s) rfl l1
  |cons b r=>
   exfalso;have er:(match nK r with
    |some p=>Y (ja.cons b p.1,p.2)
    |none=>Y (.nil,b))=B:=er
   cases e2:nK r<;>rw[e2]at er<;>cases er
 |some p=>
  rw[er]at h;cases h;let#[ds,hd]:=hd;let#[x,e1,hd]:=cJ hd;let#[xs,e2,hd]:=cJ hd;refine gk hΓ a env.l s l1 ?_;rw[e1];intro F1 H1 v f1 g1 fr1 r1;let#[F2,g2,_,rf]:=MX g1 fr1 r1;refine T3 hΓ r er (env.r.mono g2) g2.s l2 #[xs,e2] λds' F3 H3 vs e3 g3 rf3 le=>?_;exact k (x::ds') F3 H3 (v::vs) (show((pE Γp a σd).bind λx=>(fH Γp p.1 σd).bind λxs=>.ok (x::xs))=.ok (x::ds')by rw[e1];simp only[R.bind,e3]) (g2.trans g3) #[v,vs,rfl,bg.mono g3.f x v rf,rf3] le
def bS.off(g:bS F0 H0 F H)(hF:F a=B)(h0:H0 a=B):bS F0 H0 F (yV H a):=
 #[λb o q=>by rw[off_ne λz=>by rw[z,h0]at q;cases q];exact g.h b o q,g.f,λb o q=>by rw[off_ne λz=>by rw[z,hF]at q;cases q];exact g.s b o q,g.n]
def bu.off{fp:L->M Addr}(I:bu K F0 H0 σd O F H fp)(ha:∀i,a∉fp i)(hF:F a=B)(h0:H0 a=B):bu K F0 H0 σd O F (yV H a) fp:=
 #[I.g.off hF h0,I.len,λi d e=>by
  let#[v,e1,r]:=I.rep i d e;exact#[v,e1,bz.mono (aZ.refl _) d v _ (λb hb=>off_ne λz=>ha i (z▸hb)) r],λi b hb=>by
  let#[o,e,k]:=I.ex i b hb;have nb:b≠a:=λz=>ha i (z▸hb);exact#[o,by rw[off_ne nb];exact e,k],I.nd,I.nf,I.nh,I.dis]
def LJ(h:H a=Y o):H=upd (yV H a) a o:=by
 funext b;by_cases z:b=a
 ·rw[z,dF];exact h
 ·rw[bf z,off_ne z]
def aaH[Ex]{Γp:M PG}{U:M G}(hΓ:dc K Γp U){i:L}{m:M D->R D}{sp:Sp}{as:ja}{F0 H0 F H:Hp}{σd:bh}{O:L2.St}{fp:L->M Addr}{X:Ends}(hs:∀vs H Q E,spM K m vs H Q E->sp vs H Q E)(I:bu K F0 H0 σd O F H fp)(lt:iX as=J)(h:b8 K F0 H0 (M6 Γp m i as σd) X):wEs K U Ex.E as O H λvs H1=>sp (vs++[]) H1 (λx H1=>X.nx (O.set i (Y x)) H1) Ex.E:=by
 unfold M6 at h;cases eu:nK as with
 |none=>rw[eu]at h;exact h.elim
 |some p=>
 let#[bs,e]:=p;rw[eu]at h;cases e<;>first|exact h.elim|skip
 rename_i k;have h:b8 K F0 H0 (match σd[k]? with
  |some (Y (.lst J es))=>match mh es with
   |true=>(fH Γp bs (σd.set k B)).f6.a_ λds=>(m (aF ds++[.lst J es])).jR W λd=>.nx ((jL (jm bs) (σd.set k B)).set i (Y d))
   |false=>.bad
  |_=>.bad) X:=h
 split at h
 ·rename_i es q;cases ef:mh es with
  |false=>rw[ef]at h;exact h.elim
  |true=>
  rw[ef]at h;let#[ds,e3,h]:=zx h (bQ.f6 _);replace e3:=v9 e3;let#[a,us,fs,s1,s2,s3,s4,s5]:=I.lst q;have hfs:=xH es ef s4;subst hfs;have hk:a∈fp k:=by rw[s5];exact aj
  have nk:∀j,a∉(if j=k then[]else fp j):=λj z=>by
   by_cases c:j=k
   ·rw[aB c]at z;exact aG z aP
   ·rw[aD c]at z;exact c (I.dis j k a z hk)
  have Il:=I.M9 k;refine T3 hΓ as eu (Il.env (jm bs)) (dZ Il.g.s) lt #[ds,e3] λds' F1 H1 vs e3' g1 rf _=>?_;rw[e3]at e3';cases e3';have I2:=Il.M8 g1;have hF1:F1 a=B:=by
   let#[o,e,ko]:=I.ex k a hk;cases q:F1 a with
   |none=>rfl
   |some u=>
    refine((g1.n a u q ?_).own e ko).elim;rw[jY λz=>?_]
    ·exact I.nf k a hk
    ·let#[j,_,hj]:=d8.mp z;exact nk j hj
  have hH1:=g1.h a _ s2;have nk2:∀j,a∉(if j∈jm bs then[]else(if j=k then[]else fp j)):=λj z=>by
   by_cases c:j∈jm bs
   ·rw[aB c]at z;exact aG z aP
   ·rw[aD c]at z;exact nk j z
  have aat:=I2.off nk2 hF1 (I.nh k a hk);show jW O k λv=>sp ((vs++[v])++[]) H1 (λx H1=>X.nx (O.set i (Y x)) H1) Ex.E;unfold jW;rw[s1];show sp ((vs++[.ref a])++[]) H1 (λx H1=>X.nx (O.set i (Y x)) H1) Ex.E;rw[bK];refine hs _ _ _ _ #[F1,aF ds,vs,yV H1 a,a,us,es,rfl,LJ hH1,Ij,s3,aat.g.s,d7 ds,(aU.aF ds vs).mpr rf,aY.mono ((c_ I.g.s).trans g1.f) es us [] (λ_ z=>aG z aP) s4,?_];cases em:m (aF ds++[.lst J es])with
  |ex x=>rw[em]at h;exact h.elim
  |bad=>rw[em]at h;exact h.elim
  |ok d=>
   rw[em]at h;have h:∀O F H fp,bu K F0 H0 ((jL (jm bs) (σd.set k B)).set i (Y d)) O F H fp->X.nx O H:=h;intro F' H' v f' g' fr' r';have J2:=aat.grow g';refine h _ F' H' _ (J2.set #[r',fr'.nd,fr'.nf,λb hb=>aZ.none aat.g.h (fr'.nh b hb),λj b hb hc=>?_] i);let#[o,e,_]:=aat.ex j b hc;rw[fr'.nh b hb]at e;cases e
 ·exact h.elim
def Yc[Ex]{m:M D->R D}:∀(l:D),b8 K F0 H0 (aaB m ds l) X->∃es,l=.lst J es/\mh es=J/\b8 K F0 H0 ((m (aF ds++[.lst J es])).jR W .rt) X
|.lst J es,h=>by
 have h:b8 K F0 H0 (match mh es with
  |true=>(m (aF ds++[.lst J es])).jR W .rt
  |false=>.bad) X:=h
 cases ef:mh es with
 |false=>rw[ef]at h;exact h.elim
 |true=>rw[ef]at h;exact#[es,rfl,ef,h]
|.lst W _,h=>h.elim
|.non,h=>h.elim
|.bl _,h=>h.elim
|.int _,h=>h.elim
|.str _,h=>h.elim
|.tup _,h=>h.elim
|.cst _,h=>h.elim
|.adr _ _,h=>h.elim
def aaI[Ex]{Γp:M PG}{U:M G}(hΓ:dc K Γp U){m:M D->R D}{sp:Sp}{as:ja}{F0 H0 F H:Hp}{σd:bh}{O:L2.St}{fp:L->M Addr}{X:Ends}(hs:∀vs H Q E,spM K m vs H Q E->sp vs H Q E)(I:bu K F0 H0 σd O F H fp)(lt:iX as=J)(h:b8 K F0 H0 (M7 Γp m as σd) X):wEs K U Ex.E as O H λvs H1=>sp (vs++[]) H1 X.rt Ex.E:=by
 unfold M7 at h;cases eu:nK as with
 |none=>rw[eu]at h;exact h.elim
 |some p=>
 let#[bs,e]:=p;rw[eu]at h;let#[ds,e3,h]:=zx h (bQ.f6 _);replace e3:=v9 e3;cases e4:pE Γp e (jL (jm bs) σd)with
 |ex x=>rw[e4]at h;exact h.elim
 |bad=>rw[e4]at h;exact h.elim
 |ok l=>
 rw[e4]at h;refine T3 hΓ as eu (I.env (jm bs)) (dZ I.g.s) lt #[ds,e3] λds' F1 H1 vs e3' g1 rf le=>?_;rw[e3]at e3';cases e3';have I2:=I.M8 g1;refine zy hΓ I2.rebase le e4 λv F2 H2 fp2 f I3 V=>?_;rw[bK];let#[es,rfl,ef,h]:=Yc l h
 ·have r:=V.r;unfold bz at r;rw[aB rfl]at r;let#[a,us,fs,rfl,s2,s3,s4,rfl]:=r;have hfs:=xH es ef s4;subst hfs;have hF2:=V.nf a aj;have gg:=((I3.Dt I2.g).g).off hF2 (V.nh a aj);refine hs _ _ _ _ #[F2,aF ds,vs,yV H2 a,a,us,es,rfl,LJ s2,Ij,s3,gg.s,d7 ds,(aU.aF ds vs).mpr (aU.mono I3.g.f ds vs rf),s4,?_];cases em:m (aF ds++[.lst J es])with
  |ex x=>rw[em]at h;exact h.elim
  |bad=>rw[em]at h;exact h.elim
  |ok d=>
   rw[em]at h;intro F' H' v f' g' fr' r';exact h v F' H' f' (gg.trans g') #[fr'.nd,λb hb=>aZ.none gg.h (fr'.nh b hb),fr'.nf] r'
def ace[Ex](hΓ:dc K Γp U){fp:L->M Addr}(hx0:IA K Γp U H0)(I:bu K F0 H0 σd O F H fp)(lt:iX as=J)(h:b8 K F0 H0 (pS Γp n (.acl i g as) σd) X):wS K U Ex.E (.acl i g as) X O H:=by
 have h:b8 K F0 H0 (match Γp[g]? with
  |some (.fm m)=>M6 Γp m i as σd
  |_=>.bad) X:=h
 cases q:Γp[g]? with
 |none=>rw[q]at h;exact h.elim
 |some p=>
  rw[q]at h;cases p<;>first|exact h.elim|skip
  ·rename_i m;let#[g',e1,e2]:=hΓ.get g q;cases g'<;>first|exact e2.elim|skip
   let#[rfl,hs]:=e2;show(match U[g]? with
    |some (.fn sp dvs)=>wEs K U Ex.E as O H λvs H1=>sp (vs++dvs) H1 (λx H1=>wG K U Ex.E (.name i) x O H1 X.nx) Ex.E
    |_=>aR)
   rw[e1];exact aaH hΓ hs I lt h
mutual
theorem ruS(hΓ:dc K Γp U)[Ex]:∀(c:CS) {F0 H0 F H:Hp}{σd:bh}{O:L2.St}{fp:L->M Addr}{X:Ends},IA K Γp U H0->bu K F0 H0 σd O F H fp->yk c=J->b8 K F0 H0 (pS Γp n c σd) X->wS K U Ex.E c X O H
|.expr e,F0,H0,F,H,σd,O,fp,X,hx0,I,lt,h=>okX hΓ I lt h
|.asg g e,F0,H0,F,H,σd,O,fp,X,hx0,I,lt,h=>aaG hΓ I (band' lt).1 (band' lt).2 h
|.aug i e,F0,H0,F,H,σd,O,fp,X,hx0,I,lt,h=>acd hΓ I lt h
|.acl i g as,F0,H0,F,H,σd,O,fp,X,hx0,I,lt,h=>ace (n:=n) hΓ hx0 I lt h
|.casg i e,F0,H0,F,H,σd,O,fp,X,hx0,I,lt,h=>by
 rcases mj (show b8 K F0 H0 ((pE Γp e σd).a_ λd=>.nx ((iO (cL e) (be d) σd).set i (Y d))) X from h)with⟨x,e1,hx⟩|⟨d,e1,h⟩
 ·exact xG hΓ I lt e1 hx
 exact zy hΓ I lt e1 λv F1 H1 fp1 f I1 V1=>h _ F1 H1 _ (I1.set V1 i)
|.tasg g e,F0,H0,F,H,σd,O,fp,X,hx0,I,lt,h=>aaG hΓ I (band' lt).1 (band' lt).2 h
|.ret e,F0,H0,F,H,σd,O,fp,X,hx0,I,lt,h=>ab4 hΓ I lt h
|.rcl g as,F0,H0,F,H,σd,O,fp,X,hx0,I,lt,h=>by
 have h:b8 K F0 H0 (match Γp[g]? with
  |some (.fm m)=>M7 Γp m as σd
  |_=>.bad) X:=h
 cases q:Γp[g]? with
 |none=>rw[q]at h;exact h.elim
 |some p=>
  rw[q]at h;cases p<;>first|exact h.elim|skip
  rename_i m;let#[g',e1,e2]:=hΓ.get g q;cases g'<;>first|exact e2.elim|skip
  let#[rfl,hs]:=e2;show(match U[g]? with
   |some (.fn sp dvs)=>wEs K U Ex.E as O H λvs H1=>sp (vs++dvs) H1 X.rt Ex.E
   |_=>aR)
  rw[e1];exact aaI hΓ hs I lt h
|.ifs c a b,F0,H0,F,H,σd,O,fp,X,hx0,I,lt,h=>by
 let#[l1,l2]:=band' (show(cX c&&(jq a&&jq b))=J from lt);let#[l2,l3]:=band' l2;rcases mj (show b8 K F0 H0 ((pT Γp c σd).a_ λk=>if k=J then dz Γp n a σd else dz Γp n b σd) X from h)with⟨x,e1,hx⟩|⟨k,e1,h⟩
 ·exact WQ hΓ I l1 e1 hx
 refine TQ hΓ I l1 e1 λF1 H1 I1=>?_;cases k with
 |true=>exact zA hΓ a hx0 I1 l2 h
 |false=>exact zA hΓ b hx0 I1 l3 h
|.whil c b,F0,H0,F,H,σd,O,fp,X,hx0,I,lt,h=>by
 let#[l1,l2]:=band' (show(cX c&&jq b)=J from lt);refine#[λm O H=>∃σd F fp,bu K F0 H0 σd O F H fp/\b8 K F0 H0 (vE (pT Γp c) (dz Γp n b) m σd) X,#[n,σd,F,fp,I,h],?_];rintro m O H ⟨σd,F,fp,I,h⟩;cases m with
 |zero=>exact h.elim
 |succ m=>
  rcases mj (show b8 K F0 H0 ((pT Γp c σd).a_ λk=>if k=J then match dz Γp n b σd with
   |.nx σ3=>vE (pT Γp c) (dz Γp n b) m σ3
   |.ct σ3=>vE (pT Γp c) (dz Γp n b) m σ3
   |.bk σ3=>.nx σ3
   |.rt d=>.rt d
   |.ex x=>.ex x
   |.bad=>.bad
   else .nx σd) X from h)with⟨x,e1,hx⟩|⟨k,e1,h⟩
  ·exact WQ hΓ I l1 e1 hx
  refine TQ hΓ I l1 e1 λF1 H1 I1=>?_;cases k with
  |false=>
   rw[aD bq]at h;rw[aD bq];exact h O F1 H1 fp I1
  |true=>
   rw[aB rfl]at h;rw[aB rfl];refine#[λO H=>∃σd F fp,bu K F0 H0 σd O F H fp/\b8 K F0 H0 (vE (pT Γp c) (dz Γp n b) m σd) X,fun σ' H' z=>#[m,gK m,z],?_];refine zA (n:=n) hΓ b hx0 I1 l2 ?_;cases q:dz Γp n b σd with
   |nx σ3=>simp only[q]at h;exact λO F H fp I3=>#[σ3,F,fp,I3,h]
   |ct σ3=>simp only[q]at h;exact λO F H fp I3=>#[σ3,F,fp,I3,h]
   |bk σ3=>simp only[q]at h;exact h
   |rt d=>simp only[q]at h;exact h
   |ex x=>simp only[q]at h;exact h
   |bad=>simp only[q]at h;exact h.elim
|.forr g src b,F0,H0,F,H,σd,O,fp,X,hx0,I,lt,h=>by
 let#[l1,l2]:=band' (show(ltI src&&jq b)=J from lt);rcases mj (show b8 K F0 H0 ((pI Γp src σd).a_ λitems=>forR (pG g) (dz Γp n b) items.2 (iO (qG src) items.1 σd)) X from h)with⟨x,e1,hx⟩|⟨items,e1,h⟩
 ·exact ab1 hΓ I l1 e1 hx
 refine WK hΓ src (ownAt fp (qG src)) (I.env (qG src)) (dZ I.g.s) (I.lists _) l1 ?_;rw[e1];intro F' H' ok its g1 hok hi hl;obtain⟨fp',I'⟩:∃fp',bu K F0 H0 (iO (qG src) items.1 σd) O (sO items.1 F' (ownAt fp (qG src))) H' fp':=by
  cases items.1 with
  |true=>exact#[fp,I.back g1]
  |false=>exact#[_,I.M8 g1]
 have hf:aF items.2=items.2:=Pr e1;have h:=b8.rebase I'.g h;rw[<-hf]at h;exact M_ hok (λI3 h3=>zA hΓ b hx0 I3 l2 h3) items.2 its I'.rebase hi h
|.brk,F0,H0,F,H,σd,O,fp,X,hx0,I,lt,h=>h O F H fp I
|.cont,F0,H0,F,H,σd,O,fp,X,hx0,I,lt,h=>h O F H fp I
|.never,F0,H0,F,H,σd,O,fp,X,hx0,I,lt,h=>h.elim
theorem zA(hΓ:dc K Γp U)[Ex]:∀(c:cE) {F0 H0 F H:Hp}{σd:bh}{O:L2.St}{fp:L->M Addr}{X:Ends},IA K Γp U H0->bu K F0 H0 σd O F H fp->jq c=J->b8 K F0 H0 (dz Γp n c σd) X->wSs K U Ex.E c X O H
|.nil,F0,H0,F,H,σd,O,fp,X,hx0,I,lt,h=>h O F H fp I
|.cons s r,F0,H0,F,H,σd,O,fp,X,hx0,I,lt,h=>by
 let#[l1,l2]:=band' (show(yk s&&jq r)=J from lt);have h:b8 K F0 H0 (match pS Γp n s σd with|.nx σ'=>dz Γp n r σ'|x=>x) X:=h;refine ruS (n:=n) hΓ s hx0 I l1 ?_;cases q:pS Γp n s σd with
 |nx σ'=>simp only[q]at h;exact λO F H fp I'=>zA hΓ r hx0 I' l2 h
 |bk σ'=>simp only[q]at h;exact h
 |ct σ'=>simp only[q]at h;exact h
 |rt d=>simp only[q]at h;exact h
 |ex x=>simp only[q]at h;exact h
 |bad=>simp only[q]at h;exact h.elim
|.two s t r,F0,H0,F,H,σd,O,fp,X,hx0,I,lt,h=>by
 let#[l1,l2]:=band' (show(yk s&&(yk t&&jq r))=J from lt);let#[l2,l3]:=band' l2;have h:b8 K F0 H0 (match xC Γp s t σd with|.nx σ'=>dz Γp n r σ'|x=>x) X:=h;show wS K U Ex.E s { X with nx:=wS K U Ex.E t { X with nx:=wSs K U Ex.E r X } } O H;refine ab6 (X:={ X with nx:=wSs K U Ex.E r X }) hΓ I l2 ?_;cases q:xC Γp s t σd with
 |nx σ'=>simp only[q]at h;exact λO F H fp I'=>zA hΓ r hx0 I' l3 h
 |bk σ'=>simp only[q]at h;exact h
 |ct σ'=>simp only[q]at h;exact h
 |rt d=>simp only[q]at h;exact h
 |ex x=>simp only[q]at h;exact h
 |bad=>simp only[q]at h;exact h.elim
|.chg s r,F0,H0,F,H,σd,O,fp,X,hx0,I,lt,h=>by
 let#[l1,l2]:=band' (show(yk s&&jq r)=J from lt);have h:b8 K F0 H0 (match qS Γp s σd with|.nx σ'=>dz Γp n r σ'|x=>x) X:=h;refine ab_ (X:={ X with nx:=wSs K U Ex.E r X }) hΓ I l1 ?_;cases q:qS Γp s σd with
 |nx σ'=>rw[q]at h;exact λO F H fp I'=>zA hΓ r hx0 I' l2 h
 |ct σ'=>rw[q]at h;exact h
 |bk σ'=>rw[q]at h;exact h
 |rt d=>rw[q]at h;exact h
 |ex x=>rw[q]at h;exact h
 |bad=>rw[q]at h;exact h.elim
end
def Yd[Ex]{K:aa}{Γp:M PG}{U:M G}(hΓ:dc K Γp U)(hx0:∀H0,IA K Γp U H0){n:L}{N:M Str}{c:cE}(lt:jq c=J){m:M D->R D}{vs:M V}{H:Hp}{Q:VK}(hm:∀ds,m ds≠.bad->ds.length<=N.length/\IJ Γp n N c ds=m ds)(h:∃F ds,aZ F H/\aF ds=ds/\aU K F ds vs/\PV K F H (m ds) Q):wSs K U Ex.E c { nx:=λ_ H'=>Q .non H',rt:=Q } (vs.map Y++a8 (N.length-vs.length) B) H:=by
 let#[F,ds,s,hz,r,h]:=h;have hb:m ds≠.bad:=λz=>by rw[z]at h;exact h
 let#[hl,hr]:=hm ds hb;rw[<-hr]at h;have I:bu K F H (v_ N ds) (vs.map Y++a8 (N.length-vs.length) B) F H (λ_=>[]):=by
  refine#[bS.refl s,?_,λi d' q=>?_,λ_ _ ha=>aG ha aP,λ_=>di,λ_ _ ha=>aG ha aP,λ_ _ ha=>aG ha aP,λ_ _ _ ha=>aG ha aP]
  ·unfold v_;simp[r.len]
  ·unfold v_ at q;by_cases hi:i<ds.length
   ·rw[fW (by simpa using hi),bT]at q;cases z:ds[i]? with
    |none=>rw[z]at q;cases q
    |some d2=>
     rw[z]at q;cases q;let#[v,e1,e2]:=r.get i z;have hf:bE d'=d':=by
      have:∀(l:M D) (i:L) (x:D),aF l=l->l[i]?=Y x->bE x=x:=by
       intro l;induction l with
       |nil=>intro i x _ h;simp at h
       |cons y l ih=>
        intro i x h1 h2;injection h1 with h3 h4;cases i with
        |zero=>simp at h2;subst h2;exact h3
        |succ i=>exact ih i x h4 (by simpa using h2)
      exact this ds i d' hz z
     refine#[v,?_,?_]
     ·rw[fW (by simp[r.len,hi]),bT,e1];rfl
     ·have:=bg.zf (H:=H) d' v e2;rw[hf]at this;exact this
   ·rw[cj (by simpa using hi)]at q;rw[uK]at q;split at q<;>cases q
 refine zA (n:=n) hΓ c (hx0 _) I lt ?_;unfold IJ at h;cases q:dz Γp n c (v_ N ds)with
 |nx O=>rw[q]at h;exact λO F' H' fp I'=>h F' H' .non [] I'.g .nil #[rfl,rfl]
 |rt d'=>rw[q]at h;exact λv F' H' f g fr rx=>h F' H' v f g fr rx
 |ex x=>rw[q]at h;exact h
 |bk O=>rw[q]at h;exact h.elim
 |ct O=>rw[q]at h;exact h.elim
 |bad=>rw[q]at h;exact h.elim
def Dy(K:aa)(mg:Str->aaV S)(x:Str)(st:Stmt)(ps:M Str):Prop:=
 ∃(f:Addr) (fd:fC),yg K x x st f fd/\mg x=Y (.ref f)/\Binds K fd ps []
def Dy.has{mg:Str->aaV S}(D:Dy K mg x st ps)(hok:∀f fd,yg K x x st f fd->iF P w K mg base (l9 P w) k f fd ps sp):Iq P w K mg base k x (.fn sp []):=by
 let#[f,fd,F,hm,hb]:=D;exact#[f,fd,ps,[],hok f fd F,hm,F.kp,hb,.nil]
def dG(Γp:M PG)(n:L)(N:M Str)(k:L)(c:cE)(ds:M D):R D:=if ds.length=k then IJ Γp n N c ds else .bad
def Na(Γp:M PG):Prop:=∀m,PG.fe m∉Γp
def Na.hd(h:Na Γp)(H0:Hp):IA K Γp U H0:=λ_ m z=>aG (dH z) (h m)
def T4(U:M G):Prop:=∀Pa,G.lam Pa∉U
def T4.hl{mg:Str->aaV S}(h:T4 U)(i:L)(Pa:Addr)(e:U[i]?=Y (.lam Pa)):Tq K mg fd Pa:=aG (dH e) (h Pa)
section
variable{P:bM}{w:bL}{K:aa}{mg:Str->aaV S}{base:Heap}
def acf(c:cE)(F:yg K x qual st f fd)(aaU:tB N ps (dP st))(hc:pF #[N,dP st,gl,bn,(λ_=>J),J,W] c (kH st)=J)(hg:Ck P w K mg base k gl U)(hΓ:dc K Γp U)(nf:Na Γp)(hl:∀(i:L) Pa,U[i]?=Y (.lam Pa)->Tq K mg fd Pa)(lt:jq c=J)(hb:∀x∈bn,mg x=B)(hN:ps.length<=N.length):iF P w K mg base (l9 P w) (k+1) f fd ps (Ds K (dG Γp n N ps.length c)):=by
 have hm:∀ds,dG Γp n N ps.length c ds≠.bad->ds.length=ps.length/\IJ Γp n N c ds=dG Γp n N ps.length c ds:=by
  intro ds h;unfold dG at h ⊢;by_cases e:ds.length=ps.length
  ·rw[aB e];exact#[e,rfl]
  ·rw[aD e]at h;exact aG rfl h
 refine aaq c F aaU hc hg hl hb ?_ ?_
 ·rintro vs H Q E ⟨Fh,ds,s,hz,r,h⟩;rw[r.len];exact(hm ds λz=>by rw[z]at h;exact h).1
 ·intro vs H Q E h;exact@Yd ⟨E⟩ K Γp U hΓ nf.hd n N c lt _ vs H Q (λds e=>#[by rw[(hm ds e).1];exact hN,(hm ds e).2]) h
end
noncomputable def T5:S->Bool
|.type n=>n=="list"
|_=>W
def acg(nk:(K.all λp=>!T5 p.2.cls)=J)(h:iC K H a xs):Rd H a (.lst xs):=by
 rcases h with h|⟨o,its,n,hk,hc,_⟩
 ·exact h
 ·exfalso;have hm:∀(K:aa),K.lookup a=Y o->(a,o)∈K:=by
   intro K;induction K with
   |nil=>intro z;cases z
   |cons p r ih=>
    intro z;let#[b,u]:=p;rw[dw]at z;split at z
    ·rename_i e;have e:=eq_of_beq e;cases z;subst e;exact aj
    ·exact ai _ (ih z)
  have q:=cV.mp nk _ (hm K hk);rw[hc]at q;exact aG q (by decide)
noncomputable def dN(ns:M Int):D:=.lst W (ns.map D.int)
theorem FO:∀ns:M Int,aU K H (ns.map D.int) (ns.map V.int)
|[]=>rfl
|n::r=>#[_,_,rfl,rfl,FO r]
theorem FP:∀ns:M Int,aF (ns.map D.int)=ns.map D.int
|[]=>rfl
|n::r=>by show D.int n::aF (r.map D.int)=_;rw[FP r];rfl
def aaJ{mg:Str->aaV S}{m:M D->R D}(F:iF P w K mg base (l9 P w) k f fd ps (Ds K m))(h:∀ns:M Int,ns.length<=63->m [dN ns]=.ok (.bl J)):iF P w K mg base Wk k f fd ps (λvs H Q E=>∃(a:Addr) (ns:M Int),vs=[.ref a]/\Rd H a (.lst (ns.map V.int))/\ns.length<=63/\∀H',Q (.bl J) H'):=by
 refine(L3.iF.calm F).imp ?_;rintro vs H Q E ⟨a,ns,rfl,hS,hl,q⟩;have hs:=szl;refine#[H,[dN ns],aZ.refl H,?_,#[_,_,rfl,#[a,ns.map V.int,rfl,hS,by rw[ay];lia,FO ns],rfl],?_]
 ·show[D.lst W (aF (ns.map D.int))]=_;rw[FP];rfl
 ·rw[h ns hl];intro F' H' v fp g fr r;let#[rfl,_]:=r;exact q H'
theorem FQ{α β:Type}{a:α}{f:α->R β}:(R.ok a).bind f=f a:=rfl
theorem pq_thn_ok'{α:Type}{a:α}{f:α->Fl}:(R.ok a).a_ f=f a:=rfl
theorem pq_thnL_ok'{α:Type}{b:Bool}{a:α}{f:α->Fl}:(R.ok a).jR b f=f a:=rfl
theorem Py{α:Type}{a:α}:(R.ok a).f6=R.ok a:=rfl
theorem Ye:pL (Y (Y (.lst J xs)))=J:=rfl
theorem Bw{α:Type}{a:α}:R.opt (Y a)=R.ok a:=rfl
theorem T6{α:Type}{r:R α}:R.bI J r=r:=rfl
def Pz{α:Type}{r:R α}(h:n<=ah):R.bI (decide (n<=ah)) r=r:=by
 rw[aC h];rfl
theorem T7:fG .Add (.int i) (.int j)=.ok (.int (i+j)):=rfl
theorem T8:fG .Sub (.int i) (.int j)=.ok (.int (i-j)):=rfl
def T9(h:vB i j):fG .Mult (.int i) (.int j)=.ok (.int (i*j)):=by
 show R.bI (decide (vB i j)) _=_;rw[aC h];rfl
def T_(h:xg i j):fG .FloorDiv (.int i) (.int j)=.ok (.int (i / j)):=by
 show R.bI (decide (xg i j)) _=_;rw[aC h];rfl
def Ua(h:0<j):fG .Mod (.int i) (.int j)=.ok (.int (i%j)):=by
 show R.bI (decide (0<j)) _=_;rw[aC h];rfl
def Ub{i j:Int}(h:0<=j):fG .RShift (.int i) (.int j)=.ok (.int (i / 2 ^ j.toNat)):=by
 show R.bI (decide (0<=j)) _=_;rw[aC h];rfl
def IV(h:x.length+y.length<=ah):fG .Add (.str x) (.str y)=.ok (.str (x++y)):=by
 show R.bI (decide (x.length+y.length<=ah)) _=_;rw[aC h];rfl
def IW(h:0<=j/\j<2 ^ 40/\x.length*j.toNat<=ah):fG .Mult (.str x) (.int j)=.ok (.str (Dp x j.toNat)):=by
 show R.bI (decide (0<=j/\j<2 ^ 40/\x.length*j.toNat<=ah)) _=_;rw[aC h];rfl
def zB(h:xs.length+ys.length<=ah):fG .Add (.lst o xs) (.lst o' ys)=.ok (.lst J (aF xs++aF ys)):=by
 show R.bI (decide (xs.length+ys.length<=ah)) _=_;rw[aC h];rfl
theorem Yg:cA .Lt (.int i) (.int j)=.ok (.bl (decide (i<j))):=rfl
theorem Uc{i j:Int}:cA .LtE (.int i) (.int j)=.ok (.bl (decide (i<=j))):=rfl
theorem Yh:cA .Gt (.int i) (.int j)=.ok (.bl (decide (j<i))):=rfl
theorem Ud{i j:Int}:cA .GtE (.int i) (.int j)=.ok (.bl (decide (j<=i))):=rfl
theorem PC{x y:Str}:cA .LtE (.str x) (.str y)=.ok (.bl (!decide (y.cps.toList<x.cps.toList))):=rfl
theorem PD:cA .Eq (.int i) (.int j)=.ok (.bl (i==j)):=rfl
theorem PF:cA .NotEq (.int i) (.int j)=.ok (.bl (!(i==j))):=rfl
theorem PJ:cA .Eq (.str x) (.str y)=.ok (.bl (x==y)):=rfl
theorem PK:cA .NotEq (.str x) (.str y)=.ok (.bl (!(x==y))):=rfl
theorem PL:cA .Eq (.bl b) (.bl c)=.ok (.bl (b==c)):=rfl
theorem PM:cA .NotEq (.bl b) (.bl c)=.ok (.bl (!(b==c))):=rfl
theorem Yi:cA .Is x .non=.ok (.bl (jc x)):=rfl
theorem Nb:cA .IsNot x .non=.ok (.bl (!jc x)):=rfl
def AX(h:dY x=J)(h':dY y=J):cA .Eq x y=.ok (.bl (jP x y)):=by
 show R.bI (dY x&&dY y) _=_;rw[h,h'];rfl
def IX(h:dY x=J)(h':kJ ys=J):cA .In x (.lst o ys)=.ok (.bl (memD x ys)):=by
 show R.bind (R.bI (dY x&&kJ ys) _) _=_;rw[h,h'];rfl
theorem Yj:jl (.bl b)=.ok b:=rfl
theorem Ue:vY (.str z) (.int i)=(R.opt (fQ z.cps.toList i)).bind λc=>.ok (.str ⟨#[c]⟩):=rfl
theorem Ug:vY (.lst o xs) (.int i)=(R.opt (fQ xs i)).bind λd=>.ok (bE d):=rfl
theorem Uh:vY (.tup xs) (.int i)=(R.opt (fQ xs i)).bind λd=>.ok (bE d):=rfl
theorem Ui:Ly (.str z) lo hi=.ok (.str ⟨(cut z.cps.toList lo hi).toArray⟩):=rfl
theorem Uj:Ly (.lst o xs) lo hi=.ok (.lst J (aF (cut xs lo hi))):=rfl
theorem PN:kK .len [.str z]=.ok (.int z.length):=rfl
theorem PR:kK .len [.lst o xs]=.ok (.int xs.length):=rfl
theorem PU:kK .len [.tup xs]=.ok (.int xs.length):=rfl
theorem Uk:kK .all [.lst o xs]=R.bI (xs.all nZ) (.ok (.bl (xs.all pJ))):=rfl
theorem PX:kK .int [.bl b]=.ok (.int (if b then 1 else 0)):=rfl
theorem Kz{z q:Str}:kL .startswith (.str z) [.str q]=.ok (.bl (q.cps.toList.isPrefixOf z.cps.toList)):=rfl
def Dz{z q:Str}(h:q.length=1)(h':z.length+2<=ah):kL .split (.str z) [.str q]=.ok (.lst J (tY (q.cps.getD 0 0) z.cps.toList)):=by
 show R.bI (decide (q.length=1)&&decide (z.length+2<=ah)) _=_;rw[aC h,aC h'];rfl
theorem FT{z:Str}{o:Bool}{ys:M D}:kL .join (.str z) [.lst o ys]=(R.opt (k9 ys)).bind λss=>R.bI (decide ((ss.map (·.length)).sum+ss.length*z.length<=ah)) (.ok (.str (dU z ss))):=rfl
theorem Ul:qQ (.str z)=.ok (vZ z):=rfl
theorem Um:qQ (.lst o xs)=.ok (aF xs):=rfl
theorem Uo:qQ (.tup xs)=.ok (aF xs):=rfl
theorem Up{a:Addr}{xs:M D}:qQ (.adr a xs)=.ok (aF xs):=rfl
theorem Uq{a:Addr}{xs:M D}:bE (.adr a xs)=.adr a (aF xs):=rfl
theorem Ur{a:Addr}{xs:M D}:be (.adr a xs)=W:=rfl
def PY(h:-(2 ^ 62)<=j/\j.toNat<=ah):pK [.int j]=.ok (jX 0 j.toNat):=by
 show R.bI (decide (-(2 ^ 62)<=j/\j.toNat<=ah)) _=_;rw[aC h];rfl
def PZ(h:-(2 ^ 62)<=i/\i<2 ^ 62/\-(2 ^ 62)<=j/\j<2 ^ 62/\(j-i).toNat<=ah):pK [.int i,.int j]=.ok (jX i (j-i).toNat):=by
 show R.bI (decide (-(2 ^ 62)<=i/\i<2 ^ 62/\-(2 ^ 62)<=j/\j<2 ^ 62/\(j-i).toNat<=ah)) _=_;rw[aC h];rfl
theorem Us:zg .non=.ok .non:=rfl
theorem Yk:zg (.bl b)=.ok (.bl b):=rfl
theorem Ut:zg (.int i)=.ok (.int i):=rfl
theorem Uu:zg (.str x)=.ok (.str x):=rfl
theorem Uv:bE .non=.non:=rfl
theorem Yl:bE (.bl b)=.bl b:=rfl
theorem Uw:bE (.int i)=.int i:=rfl
theorem Ux:bE (.str x)=.str x:=rfl
theorem Uy:bE (.lst o xs)=.lst W (aF xs):=rfl
theorem Uz:bE (.tup xs)=.tup (aF xs):=rfl
theorem P0:aF []=[]:=rfl
theorem Nc:aF (d::r)=bE d::aF r:=rfl
theorem UA:be .non=J:=rfl
theorem Ym:be (.bl b)=J:=rfl
theorem UB:be (.int i)=J:=rfl
theorem UC:be (.str x)=J:=rfl
theorem UD:be (.lst o xs)=(o&&c9 xs):=rfl
theorem UE:be (.tup xs)=c9 xs:=rfl
theorem P_:c9 []=J:=rfl
theorem Nd:c9 (d::r)=(be d&&c9 r):=rfl
theorem aaK:iO is J O=O:=rfl
theorem aaL:iO is W O=jL is O:=rfl
theorem Qa:jL [] O=O:=rfl
theorem Nf:jL (i::is) O=jL is (oE i O):=rfl
theorem Yn:oE 0 (o::r)=o.map bE::r:=rfl
theorem Yo:oE (n+1) (o::r)=o::oE n r:=rfl
theorem Yp:EB (.rt d)=.ok d:=rfl
theorem UG:iW t (.bl b)=(decide (t=.bool)||decide (t=.int)):=rfl
theorem Qc:iW t (.int i)=decide (t=.int):=rfl
theorem Qd:iW t (.str x)=decide (t=.str):=rfl
theorem Qe:iW t (.lst o xs)=(decide (t=.list)||decide (t=.none)):=rfl
theorem Qf:iW t (.tup xs)=(decide (t=.tuple)||decide (t=.none)):=rfl
theorem Qg:iW t .non=W:=rfl
def Hs(O:bh)(i:L):R D:=match O[i]? with
|some (Y d)=>.ok (bE d)
|_=>.bad
noncomputable def AY(O:bh)(i:L):R D:=match O[i]? with
|some (Y d)=>.ok d
|_=>.bad
noncomputable def qU(x:Fl)(f:bh->Fl):Fl:=match x with
|.nx O=>f O
|x=>x
def Ng(U:M PG)(g:L):R D:=match U[g]? with
|some (.val d)=>.ok (bE d)
|_=>.bad
def EH(U:M PG)(g:L)(r:R (M D)):R D:=match U[g]? with
|some (.fn m dds)=>r.bind λds=>m (aF ds++dds)
|_=>.bad
noncomputable def Nh{α:Type}(c:R Bool)(a b:R α):R α:=c.bind λk=>if k=J then a else b
noncomputable def ifF(c:R Bool)(a b:Fl):Fl:=c.a_ λk=>if k=J then a else b
noncomputable def aaM(x:D)(b:R D):R D:=match x with
|.bl c=>if c=J then b else .ok (.bl W)
|_=>.bad
noncomputable def orD(x:D)(b:R D):R D:=match x with
|.bl c=>if c=J then .ok (.bl J)else b
|_=>.bad
noncomputable def aaN:D->R D
|.int i=>.ok (.int (-i))
|_=>.bad
noncomputable def aaO:D->R (aaV Int)
|.int i=>.ok (Y i)
|_=>.bad
noncomputable def chD(z:D)(r:R D):R D:=match z with
|.bl k=>if k=J then r else .ok (.bl W)
|_=>.bad
noncomputable def chT(z:D)(r:R Bool):R Bool:=match z with
|.bl k=>if k=J then r else .ok W
|_=>.bad
noncomputable def blD:D->R Bool
|.bl k=>.ok k
|_=>.bad
def enD:D->R (Bool×M D)
|.lst o xs=>.ok (be (.lst o xs),gj 0 (aF xs))
|_=>.bad
def UH(k:L)(vs:M L)(O:bh)(d:D):Fl:=match O[k]? with
|some (Y (.lst J xs))=>if(decide (xs.length<ah)&&(be d||!vs.contains k))=J then .nx ((iO vs (be d) O).set k (Y (.lst J (xs++[d]))))else .bad
|_=>.bad
def HK(k:L)(vs:M L)(O:bh)(d j:D):Fl:=match O[k]? with
|some (Y x)=>if(be d||!vs.contains k)=J then(R.opt (putIn x d j)).a_ λx'=>.nx ((iO vs (be d) O).set k (Y x'))else .bad
|_=>.bad
theorem UI:Hs (Y d::r) 0=.ok (bE d):=rfl
theorem UJ:Hs (o::r) (n+1)=Hs r n:=rfl
theorem Qh:AY (Y d::r) 0=.ok d:=rfl
theorem Qi:AY (o::r) (n+1)=AY r n:=rfl
theorem FU{f:bh->Fl}:qU (.nx O) f=f O:=rfl
theorem Qj{f:bh->Fl}:qU (.rt d) f=.rt d:=rfl
theorem Qk{f:bh->Fl}:qU (.ct O) f=.ct O:=rfl
theorem Yq:Ng (.val d::r) 0=.ok (bE d):=rfl
theorem Yr:Ng (o::r) (n+1)=Ng r n:=rfl
theorem Ys{m:M D->R D}:EH (.fn m dds::r) 0 x=x.bind λds=>m (aF ds++dds):=rfl
theorem Yt:EH (o::r) (n+1) x=EH r n x:=rfl
theorem Ql{α:Type}{a b:R α}:Nh (.ok k) a b=if k=J then a else b:=rfl
theorem UK:ifF (.ok k) a b=if k=J then a else b:=rfl
theorem Qm:aaM (.bl c) b=if c=J then b else .ok (.bl W):=rfl
theorem UL:orD (.bl c) b=if c=J then .ok (.bl J)else b:=rfl
theorem UM:aaN (.int i)=.ok (.int (-i)):=rfl
theorem UN:aaO (.int i)=.ok (Y i):=rfl
theorem UO:chD (.bl k) r=if k=J then r else .ok (.bl W):=rfl
theorem Qn:chT (.bl k) r=if k=J then r else .ok W:=rfl
theorem UP:blD (.bl k)=.ok k:=rfl
theorem Yu:enD (.lst o xs)=.ok (be (.lst o xs),gj 0 (aF xs)):=rfl
theorem UQ:pE U (.var i) O=Hs O i:=rfl
theorem UR:pE U (.con v) O=zg v:=rfl
theorem US{U:M PG}{O:bh}{g:L}:pE U (.glo g) O=Ng U g:=rfl
theorem UT:pE U (.bin op a b) O=(pE U a O).bind λx=>(pE U b O).bind λy=>fG op x y:=rfl
def LK(h:k9 ds=Y ss)(h2:ss.length<4000):Dq (.lst o ds)=.ok (.int (pe ss).length):=by
 show(match k9 ds with|some ss=>R.bI (decide (ss.length<4000)) (R.ok (D.int (pe ss).length))|none=>.bad)=_;rw[h];show R.bI (decide _) _=_;rw[aC h2];rfl
theorem Qo{U:M PG}{O:bh}{a:CE}:pE U (.nset a) O=(pE U a O).bind Dq:=rfl
theorem UU:pE U (.neg a) O=(pE U a O).bind aaN:=by rfl
theorem UW:pE U (.not a) O=(pE U a O).bind λx=>(jl x).bind λb=>.ok (.bl (!b)):=rfl
theorem UX:pE U (.and a b) O=(pE U a O).bind λx=>aaM x (pE U b O):=rfl
theorem Yv:pE U (.or a b) O=(pE U a O).bind λx=>orD x (pE U b O):=rfl
theorem UY:pE U (.ite c a b) O=Nh (pT U c O) (pE U a O) (pE U b O):=rfl
theorem UZ:pE U (.cmp op a b) O=(pE U a O).bind λx=>(pE U b O).bind λy=>cA op x y:=rfl
theorem Ni{U:M PG}{O:bh}{o1 o2:yb}{a b c:CE}:pE U (.chain o1 o2 a b c) O=(pE U a O).bind λx=>(pE U b O).bind λy=>(cA o1 x y).bind λz=>chD z ((pE U c O).bind λu=>cA o2 y u):=rfl
theorem Qp:pE U (.call g as) O=EH U g (fH U as O):=rfl
theorem U0:pE U (.blt f as) O=(fH U as O).bind (kK f):=rfl
theorem U1:pE U (.isi a t) O=(pE U a O).bind λx=>R.bI (gX x) (.ok (.bl (iW t x))):=rfl
theorem U4:pE U (.mth m o as) O=(pE U o O).bind λx=>(fH U as O).f6.bind λds=>kL m x ds:=rfl
theorem Yw:pE U (.ix a b) O=(pE U a O).bind λx=>(pE U b O).bind λy=>vY x y:=rfl
theorem Yx:pE U (.sl a lo hi) O=(pE U a O).bind λx=>(pO U lo O).bind λl=>(pO U hi O).bind λh=>Ly x l h:=rfl
theorem U5:pE U (.lst as) O=(fH U as O).bind λds=>R.bI (decide (ds.length<=ah)) (.ok (.lst J ds)):=by
 rfl
theorem U6:pE U (.tup as) O=(fH U as O).bind λds=>R.bI (decide (ds.length<=ah)) (.ok (.tup ds)):=by
 rfl
theorem Qq{cond:CO}:pE U (.comp nl fr elt tg src cond) O=(pI U src O).bind λitems=>(ee (pG tg) (pC U cond) (pE U elt) items.2 (nl.map (λ_=>B)++fr.map (λi=>O.getD i B))).f6.bind λds=>.ok (.lst J ds):=rfl
theorem U7:pT U (.not a) O=(pT U a O).bind λb=>.ok (!b):=rfl
theorem U8:pT U (.and a b) O=Nh (pT U a O) (pT U b O) (.ok W):=rfl
theorem Yy:pT U (.or a b) O=Nh (pT U a O) (.ok J) (pT U b O):=rfl
theorem U9:pT U (.cmp op a b) O=(pE U a O).bind λx=>(pE U b O).bind λy=>(cA op x y).bind blD:=rfl
theorem Nj{U:M PG}{O:bh}{o1 o2:yb}{a b c:CE}:pT U (.chain o1 o2 a b c) O=(pE U a O).bind λx=>(pE U b O).bind λy=>(cA o1 x y).bind λz=>chT z ((pE U c O).bind λu=>(cA o2 y u).bind blD):=rfl
def Qs:pT U (.call g as) O=(EH U g (fH U as O)).bind jl:=by
 show(match U[g]? with|some (.fn m dds)=>((fH U as O).bind λds=>m (aF ds++dds)).bind jl|_=>.bad)=_;unfold EH;cases U[g]? with
 |none=>rfl
 |some p=>cases p<;>rfl
theorem Yz:pT U (.ix a b) O=((pE U a O).bind λx=>(pE U b O).bind λy=>vY x y).bind jl:=rfl
theorem U_:pT U (.isi a t) O=(pE U a O).bind λx=>R.bI (gX x) (.ok (iW t x)):=rfl
theorem Va:pT U (.mth m o as) O=(pE U o O).bind λx=>(fH U as O).f6.bind λds=>(kL m x ds).bind jl:=rfl
theorem Qt:fH U .nil O=.ok []:=rfl
theorem Nk:fH U (.cons a r) O=(pE U a O).bind λx=>(fH U r O).bind λxs=>.ok (x::xs):=rfl
theorem Qu:pO U .none O=.ok B:=rfl
theorem Qv:pO U (.some a) O=(pE U a O).bind aaO:=rfl
theorem Qw:pC U .none=λ_=>.ok J:=rfl
theorem Qx:pC U (.some a)=pT U a:=rfl
theorem Qy:pG (.name i) d O=.ok (O.set i (Y d)):=rfl
theorem Vb:pG (.tup gs) (.tup ds) O=R.bI (decide (ds.length=gs.len)) (yi gs ds O):=rfl
theorem Qz:yi .nil [] O=.ok O:=rfl
theorem Nl:yi (.cons g r) (d::dr) O=(pG g d O).bind fun σ'=>yi r dr σ':=rfl
theorem Vc:pI U (.seq a) O=(pE U a O).bind λx=>(qQ x).bind λds=>.ok (be x,ds):=rfl
theorem Nm:pI U (.range as) O=(fH U as O).bind λxs=>(pK xs).bind λds=>.ok (J,ds):=rfl
theorem Vd{U:M PG}{O:bh}{as:ja}:pI U (.zip as) O=(fH U as O).bind uR:=rfl
theorem YA:uR [.lst o xs,.lst p ys]=.ok (W,nB (aF xs) (aF ys)):=rfl
theorem Ve:uR [.tup xs,.tup ys]=.ok (W,nB (aF xs) (aF ys)):=rfl
def QB:pI U (.enum a) O=(pE U a O).bind enD:=by
 show(pE U a O).bind _=_;congr 1;funext x;cases x<;>rfl
theorem QC:dz U n .nil O=.nx O:=rfl
theorem pP:dz U n (.cons s r) O=qU (pS U n s O) (dz U n r):=by rfl
theorem Vf:pS U n (.expr (.mth .append (.var k) (.cons a .nil))) O=(pE U a O).jR (pL O[k]?) (UH k (cL a) O):=rfl
theorem Vg:pS U n (.asg (.name i) e) O=(pE U e O).a_ λd=>.nx ((iO (cL e) (be d) O).set i (Y d)):=rfl
theorem Vh:pS U n (.asg (.sub (.var k) i) e) O=(pE U e O).a_ λd=>(pE U i (iO (cL e) (be d) O)).jR W λj=>HK k (cL e) O d j:=rfl
theorem Vi:pS U n (.aug i e) O=(match O[i]? with|some (Y (.int a))=>(pE U e O).a_ λd=>HF i a O d|_=>.bad):=rfl
theorem QD:pS U n (.casg i e) O=(pE U e O).a_ λd=>.nx ((iO (cL e) (be d) O).set i (Y d)):=rfl
theorem QE:pS U n (.tasg (.tup gs) e) O=(pE U e O).a_ λd=>(pG (.tup gs) d (iO (cL e) (be d) O)).a_ .nx:=rfl
theorem Vj:pS U n (.ret e) O=(pM U e O).a_ .rt:=rfl
theorem IY:pS U n (.ifs c a b) O=ifF (pT U c O) (dz U n a O) (dz U n b O):=rfl
theorem QF:pS U n (.whil c b) O=vE (pT U c) (dz U n b) n O:=rfl
theorem QG:pS U n (.forr g src b) O=(pI U src O).a_ λitems=>forR (pG g) (dz U n b) items.2 (iO (qG src) items.1 O):=rfl
theorem QH:gX .non=J:=rfl
theorem QI:jc .non=J:=rfl
theorem Vk{b:Bool}:gX (.bl b)=J:=rfl
theorem Vl:jc (.bl b)=W:=rfl
theorem QJ:gX (.int i)=J:=rfl
theorem QK:jc (.int i)=W:=rfl
theorem QL{x:Str}:gX (.str x)=J:=rfl
theorem QM:jc (.str x)=W:=rfl
theorem QN{o:Bool}{xs:M D}:gX (.lst o xs)=J:=rfl
theorem QO:jc (.lst o xs)=W:=rfl
theorem QR:gX (.tup xs)=J:=rfl
theorem QS:jc (.tup xs)=W:=rfl
theorem QT:pS U n .cont O=.ct O:=rfl
theorem Vm:pM U (.var i) O=AY O i:=rfl
theorem Vn:pM U (.con v) O=pE U (.con v) O:=rfl
theorem Vo:pM U (.bin op a b) O=pE U (.bin op a b) O:=rfl
theorem Vp:pM U (.and a b) O=pE U (.and a b) O:=rfl
theorem YB:pM U (.or a b) O=pE U (.or a b) O:=rfl
theorem Vq:pM U (.cmp op a b) O=pE U (.cmp op a b) O:=rfl
theorem QU:pM U (.call g as) O=pE U (.call g as) O:=rfl
theorem Vt:pM U (.blt f as) O=pE U (.blt f as) O:=rfl
theorem Vu:pM U (.mth m o as) O=pE U (.mth m o as) O:=rfl
theorem YC:pM U (.ix a b) O=pE U (.ix a b) O:=rfl
theorem Vv:pM U (.lst as) O=pE U (.lst as) O:=rfl
theorem QV{cond:CO}:pM U (.comp nl fr elt tg src cond) O=pE U (.comp nl fr elt tg src cond) O:=rfl
theorem Vw:pM U (.tup as) O=(ni U as O).alt (λds=>R.bI (decide (ds.length<=ah)) (.ok (.tup ds))) (pE U (.tup as) O):=by
 rfl
theorem QW:ni U .nil O=.ok []:=rfl
def QX:ni U (.cons (.var i) r) O=(AY O i).bind λd=>(ni U r (O.set i B)).bind λds=>.ok (d::ds):=by
 show(match O[i]? with|some (Y d)=>(ni U r (O.set i B)).bind λds=>.ok (d::ds)|_=>.bad)=_;unfold AY;cases O[i]? with
 |none=>rfl
 |some o=>cases o<;>rfl
theorem QY{α β:Type}{a:α}{f:α->R β}{y:R β}:(R.ok a:R α).alt f y=f a:=rfl
theorem Vx:pS U n (.expr (.mth .extend (.var k) (.cons a .nil))) O=(pE U a O).jR (pL O[k]?) λd=>Ez k (cL a) d O:=rfl
theorem Vy:pS U n (.expr (.mth .append (.ix o i) (.cons a .nil))) O=Ey U (.ix o i) a O:=rfl
def FW(h:O[k]?=Y (Y (.lst J xs)))(h1:xs.length+ys.length<=ah)(h2:(be (.lst J ys)||!vs.contains k)=J):Ez k vs (.lst J ys) O=.nx ((iO vs (be (.lst J ys)) O).set k (Y (.lst J (xs++ys)))):=by
 unfold Ez;simp only[h];rw[aC h1,h2];rfl
theorem QZ:ni U (.cons (.con v) r) O=(pE U (.con v) O).bind λd=>R.bI (be d) ((ni U r O).bind λds=>.ok (d::ds)):=rfl
theorem Nn:ni U (.cons (.call g as) r) O=(pE U (.call g as) O).bind λd=>R.bI (be d) ((ni U r O).bind λds=>.ok (d::ds)):=rfl
theorem Vz:ni U (.cons (.ix a b) r) O=(pE U (.ix a b) O).bind λd=>R.bI (be d) ((ni U r O).bind λds=>.ok (d::ds)):=rfl
theorem Q0:ni U (.cons (.cmp op a b) r) O=(pE U (.cmp op a b) O).bind λd=>R.bI (be d) ((ni U r O).bind λds=>.ok (d::ds)):=rfl
def eE(h:O[k]?=Y (Y (.lst J xs)))(h1:xs.length<ah)(h2:(be d||!vs.contains k)=J):UH k vs O d=.nx ((iO vs (be d) O).set k (Y (.lst J (xs++[d])))):=by
 unfold UH;simp only[h];rw[aC h1,h2];rfl
def FY(h:O[k]?=Y (Y x))(h1:(be d||!vs.contains k)=J)(h2:putIn x d j=Y x'):HK k vs O d j=.nx ((iO vs (be d) O).set k (Y x')):=by
 unfold HK;simp only[h];rw[h1,h2];rfl
def frzs_map'{α:Type}(f:α->D)(h:∀a,bE (f a)=f a)(l:M α):aF (l.map f)=l.map f:=l_ f h l
theorem jv{β:Type}{g:D->bh->R bh}{e:bh->R D}(enc:β->D)(I:bh->Prop)(f:β->D):∀(xs:M β) (O:bh),I O->(∀x∈xs,∀O,I O->∃σ2,g (enc x) O=.ok σ2/\I σ2/\e σ2=.ok (f x))->ee g (λ_=>.ok J) e (xs.map enc) O=.ok (xs.map f)
|[],O,_,_=>rfl
|x::r,O,hi,h=>by
 let#[σ2,h1,h2,h3]:=h x aj O hi;have ih:=jv enc I f r σ2 h2 λy hy=>h y (ai _ hy);show(g (enc x) O).bind _=_;rw[h1];simp only[R.bind,ie,h3,ih];rfl
theorem kQ{β:Type}{g:D->bh->R bh}{c:bh->R Bool}{e:bh->R D}(enc:β->D)(I:bh->Prop)(p:β->Bool)(f:β->D):∀(xs:M β) (O:bh),I O->(∀x∈xs,∀O,I O->∃σ2,g (enc x) O=.ok σ2/\I σ2/\c σ2=.ok (p x)/\e σ2=.ok (f x))->ee g c e (xs.map enc) O=.ok ((xs.filter p).map f)
|[],O,_,_=>rfl
|x::r,O,hi,h=>by
 let#[σ2,h1,h2,h3,h4]:=h x aj O hi;have ih:=kQ enc I p f r σ2 h2 λy hy=>h y (ai _ hy);show(g (enc x) O).bind _=_;rw[h1];simp only[R.bind,h3];cases q:p x with
 |true=>rw[aB rfl,uN q,h4];simp only[R.bind,ih];rfl
 |false=>rw[aD (by decide),List.filter_cons_of_neg (by simp[q])];exact ih
end L3
end
local macro_rules | `(tactic| simp_arith $c:optConfig [$ls,*]) => do let q <- ("FQ pq_thn_ok' pq_thnL_ok' Py Ye Bw T6 Pz T7 T8 T9 T_ Ua Ub IV IW zB Yg Uc Yh Ud PC PD PF PJ PK PL PM Yi Nb AX IX Yj Ue Ug Uh Ui Uj PN PR PU Uk PX Kz Dz FT Ul Um Uo Up Uq Ur PY PZ Us Yk Ut Uu Uv Yl Uw Ux Uy Uz P0 Nc UA Ym UB UC UD UE P_ Nd aaK aaL Qa Nf Yn Yo Yp UG Qc Qd Qe Qf Qg UI UJ Qh Qi FU Qj Qk Yq Yr Ys Yt Ql UK Qm UL UM UN UO Qn UP Yu UQ UR US UT LK Qo UU UW UX Yv UY UZ Ni Qp U0 U1 U4 Yw Yx U5 U6 Qq U7 U8 Yy U9 Nj Qs Yz U_ Va Qt Nk Qu Qv Qw Qx Qy Vb Qz Nl Vc Nm Vd YA Ve QB QC pP Vf Vg Vh Vi QD QE Vj IY QF QG QH QI Vk Vl QJ QK QL QM QN QO QR QS QT Vm Vn Vo Vp YB Vq QU Vt Vu YC Vv QV Vw QW QX QY Vx Vy FW QZ Nn Vz Q0 eE FY dG IJ xh cL jm Iz qG v_ rF.len dm J8 aT iV ay C8 iT bK cI List.replicate_zero List.getElem?_cons_zero nq List.set_cons_zero List.set_cons_succ List.getD_cons_zero List.getD_cons_succ Nat.reduceAdd Nat.reduceSub mQ kX Nat.reduceBEq CY or_true true_or false_or and_true true_and and_false false_and decide_true decide_false Bool.not_true Bool.not_false Bool.or_true J7 Bool.or_false Bool.false_or G1 Bool.true_and wR Bool.false_and ie uz Bool.false_eq_true reduceCtorEq Option.map_some gM Int.cast_ofNat_Int Int.reduceLE Int.reduceLT Int.reduceBEq Int.reduceSub Int.reduceAdd".splitOn " ").toArray.mapM λx => `(Lean.Parser.Tactic.simpLemma| $(Lean.mkIdent x.toName):ident); `(tactic| simp $c:optConfig (disch := first | assumption | (with_reducible rfl) | (show L3.dY _ = J; rfl) | omega | (unfold L2.vB; omega) | (unfold L2.xg; omega) | (simp only [aT, iV, ay, ao]; omega)) only [$q,*, $ls,*])
local macro_rules|`(tactic|erw[$l,*])=>do let q<-l.getElems.mapM λr=>`(Lean.Parser.Tactic.simpLemma|$(⟨r.raw[1]⟩):term);`(tactic|simp_arith [$q,*])
section
namespace L3
open PySem L2
structure FD where
 n:Str
 s:Stmt
 N:M Str
 k:L
 gl:M Str
def FD.ps(d:FD):M Str:=d.N.take d.k
noncomputable def scB(N P:M Str)(sc:gH):Bool:=(match sc.kind with|.function=>J|_=>W)&&(!sc.isCoroutine&&(!sc.isGenerator&&(decide N.Nodup&&(decide (N.take P.length=P)&&(decide (∀x∈P,sc.names.lookup x=Y .local\/sc.names.lookup x=Y .cell)&&decide (∀y∈sc.names,y.2≠.free))))))
def Hq(h:scB N P sc=J):tB N P sc:=by
 unfold scB at h;simp only[cU,cK,Bo]at h;let#[h1,h2,h3,h4,h5,h6,h7]:=h;refine#[?_,h2,h3,h4,h5,h6,h7];revert h1;cases sc.kind<;>intro h1<;>first|rfl|cases h1
def FD.gm(bn:M Str)(d:FD)(c:cE):Bool:=pF #[d.N,dP d.s,d.gl,bn,(λ_=>J),J,W] c (kH d.s)&&(scB d.N d.ps (dP d.s)&&(jq c&&(d.ps.length==d.k)))
def DI(K:aa)(mg:Str->aaV S)(d:FD):Prop:=Dy K mg d.n d.s d.ps
section
variable{P:bM}{w:bL}{K:aa}{mg:Str->aaV S}{base:Heap}
abbrev gn(P:bM)(w:bL)(K:aa)(mg:Str->aaV S)(base:Heap)(k:L)(x:Str)(m:M D->R D):Prop:=Iq P w K mg base k x (.fn (Ds K m) [])
def GR(P:bM)(w:bL)(K:aa)(mg:Str->aaV S)(base:Heap)(k:L)(gl:M Str)(Γp:M PG):Prop:=∃U,Ck P w K mg base k gl U/\dc K Γp U/\Na Γp/\T4 U
def gN:GR P w K mg base k [] []:=#[[],trivial,trivial,λ_=>aP,λ_=>aP]
section
variable{k:L}{x:Str}{gl:M Str}{Γp:M PG}
def gG(g:G)(h:Iq P w K mg base k x g)(e:Tw K p g)(r:GR P w K mg base k gl Γp)(np:∀m,p≠.fe m:=by intro _ z;cases z)(ng:∀Pa,g≠.lam Pa:=by intro _ z;cases z):GR P w K mg base k (x::gl) (p::Γp):=by
 let#[U,a,b,nf,nl]:=r;exact#[g::U,#[h,a],#[_,_,rfl,e,b],λm z=>by
  rcases aM.mp z with z|z
  ·exact np m z.symm
  ·exact nf m z,λm z=>by
  rcases aM.mp z with z|z
  ·exact ng m z.symm
  ·exact nl m z]
def gF{m:M D->R D}(h:gn P w K mg base j x m)(r:GR P w K mg base k gl Γp)(l:j<=k:=by decide):GR P w K mg base k (x::gl) (.fn m []::Γp):=by
 let#[f,fd,ps,ds,F,q]:=h
 ·exact gG (.fn (Ds K m) []) #[f,fd,ps,ds,F.mono l,q] #[λ_ _ _ _ h=>h,rfl,rfl] r
def gV(h:∃u,mg x=Y u/\RelV v u)(e:bg K (λ_=>B) d v)(r:GR P w K mg base k gl Γp):GR P w K mg base k (x::gl) (.val d::Γp):=gG (.val v) h e r
def gT(h:mg x=Y (.ref a)/\Fg K a J xs)(e:bg K (λ_=>B) d (.ref a))(r:GR P w K mg base k gl Γp):GR P w K mg base k (x::gl) (.val d::Γp):=gG (.tup a xs) h e r
end
def fF{d:FD}{f:Addr}{fd:fC}{k n:L}{Γp:M PG}(F:yg K d.n d.n d.s f fd){c:cE}(h:d.gm bn c=J)(hb:∀x∈bn,mg x=B)(r:GR P w K mg base k d.gl Γp):iF P w K mg base (l9 P w) (k+1) f fd d.ps (Ds K (dG Γp n d.N d.k c)):=by
 let#[U,a,b,nf,nl]:=r;unfold FD.gm at h;simp only[cU,lG]at h;let#[h1,h2,h3,h4]:=h;rw[<-h4];refine acf c F (Hq h2) h1 a b nf nl.hl h3 hb ?_;unfold FD.ps;rw[lE]
 lia
def fD(D:DI K mg d){c:cE}(h:d.gm bn c=J)(hb:∀x∈bn,mg x=B)(r:GR P w K mg base k d.gl Γp):gn P w K mg base (k+1) d.n (dG Γp n d.N d.k c):=
 Dy.has D λ_ _ F=>fF F h hb r
def f0(D:DI K mg d):gn P w K mg base k d.n (λ_=>.bad):=
 Dy.has D λ_ _ F=>#[λ_ _ _ _ ⟨_,_,_,_,_,h⟩=>h.elim,λ_ _ _ _ _ _ _ _ _ _ _ _ _ ⟨_,_,_,_,_,h⟩=>h.elim]
variable{h:Heap}
def lsZ{α:Type}{p:M α->Prop}(k:p []):∀us,us.length=0->p us
|[],_=>k
def lsS{α:Type}{n:L}{p:M α->Prop}(k:∀a r,r.length=n->p (a::r)):∀us,us.length=n+1->p us
|a::r,h=>k a r (Nat.succ.inj h)
def dI{kV doc pm cdv ct:S}(X:K.In h)(G:h.Ns fL mg)(a:uG K fL d.n=Y (Y (.ref f)):=by k_is)(l:K.lookup f=Y #[oc,od,.func (iJ d.n d.n (qK d.s) (kH d.s) (dP d.s) .none kV doc pm an cdv ct),osl]:=by k_is)(c:rq K cdv d.n=J:=by k_is)(k:gS K (.ref f)=J:=by k_is)(b:∀(kV doc pm:S) (an:aaV Addr) (cdv ct:S) (us:M S),us.length=d.ps.length->CP (iJ d.n d.n (qK d.s) (kH d.s) (dP d.s) .none kV doc pm an cdv ct) #[us,[]]=pure (d.ps.zip us):=by(intro _ _ _ _ _ _;(repeat refine lsS λ_=>?_);exact lsZ rfl)):DI K mg d:=
 #[_,_,fun_mk l c k,G6 X G a,(fun_mk l c k).binds b]
def iI(X:K.In h)(G:h.Ns fL mg)(a:uG K fL x=Y (Y v):=by k_is):mg x=Y v:=G6 X G a
noncomputable def isNo:aaV (aaV S)->Bool
|some B=>J
|_=>W
def zI{bn:M Str}(X:K.In h)(G:h.Ns fL mg)(a:(bn.all λx=>isNo (uG K fL x))=J:=by kernel_rfl):∀x∈bn,mg x=B:=λx hx=>Sm X G (by
 have q:=cV.mp a x hx;revert q;rcases uG K fL x with _|_|_<;>intro q<;>first|rfl|cases q)
end
end L3
end
section
namespace Tr
open PySem L2 L3
def top(i:L):Stmt:=PySem.Challenge.pw_claimwise_k07_claims_read.main.body.getD i (.Pass #[0,0,0,0])
abbrev FZ:M Str:=["text"]
noncomputable def zC:cE:=
 (.cons (.ifs (.not (.chain .LtE .LtE (.con (.int 1)) (.blt .len (.cons (.var 0) .nil)) (.glo 2)))
  (.cons (.ret (.con (.bl W)))
 .nil)
  .nil)
 (.cons (.ret (.and (.call 1 (.cons (.var 0) (.cons (.con (.str "a")) (.cons (.con (.str "z")) .nil)))) (.cmp .NotIn (.var 0) (.glo 0))))
 .nil))
abbrev Bx:M Str:=["text","figures"]
noncomputable def vF:cE:=
 (.cons (.asg (.name 1) (.ite (.mth .startswith (.var 0) (.cons (.con (.str "-")) .nil)) (.sl (.var 0) (.some (.con (.int 1))) .none) (.var 0)))
 (.cons (.ifs (.or (.not (.call 0 (.cons (.var 1) .nil))) (.cmp .Eq (.var 0) (.con (.str "-0"))))
  (.cons (.ret (.con .non))
 .nil)
  .nil)
 (.cons (.ret (.blt .int (.cons (.var 0) .nil)))
 .nil)))
abbrev zD:M Str:=["text"]
noncomputable def t_:cE:=
 (.cons (.ifs (.or (.not (.chain .LtE .LtE (.con (.int 1)) (.blt .len (.cons (.var 0) .nil)) (.glo 1))) (.not (.call 0 (.cons (.var 0) (.cons (.con (.str "0")) (.cons (.con (.str "9")) .nil))))))
  (.cons (.ret (.con (.bl W)))
 .nil)
  .nil)
 (.cons (.ret (.or (.cmp .Eq (.var 0) (.con (.str "0"))) (.not (.mth .startswith (.var 0) (.cons (.con (.str "0")) .nil)))))
 .nil))
abbrev zE:M Str:=["text","first","last"]
noncomputable def ua:cE:=
 (.cons (.ret (.blt .all (.cons (.comp ["sign"] [1,2] (.chain .LtE .LtE (.var 1) (.var 0) (.var 2)) (.name 0) (.seq (.var 0)) .none) .nil)))
 .nil)
abbrev F6:M Str:=["text"]
noncomputable def zF:cE:=
 (.cons (.ret (.comp ["row"] [] (.call 0 (.cons (.var 0) .nil)) (.name 0) (.seq (.mth .split (.var 0) (.cons (.con (.str "\n")) .nil))) .none))
 .nil)
abbrev DA:M Str:=["row"]
noncomputable def xJ:cE:=
 (.cons (.ret (.comp ["word"] [] (.var 0) (.name 0) (.seq (.mth .split (.var 0) (.cons (.con (.str " ")) .nil))) (.some (.cmp .NotEq (.var 0) (.con (.str ""))))))
 .nil)
abbrev yl:M Str:=["text","claims","row","words","takes","rows"]
noncomputable def jF:cE:=
 (.cons (.ifs (.cmp .Eq (.var 3) (.lst .nil))
  (.cons (.cont)
 .nil)
  .nil)
 (.cons (.ifs (.cmp .Eq (.ix (.var 3) (.con (.int 0))) (.con (.str "claim")))
  (.cons (.asg (.name 4) (.call 2 (.cons (.var 3) (.cons (.var 2) (.cons (.blt .len (.cons (.var 1) .nil)) .nil)))))
 (.cons (.ifs (.cmp .GtE (.blt .len (.cons (.var 1) .nil)) (.glo 1))
  (.cons (.never)
 .nil)
  .nil)
 (.chg (.expr (.mth .append (.var 1) (.cons (.tup (.cons (.var 4) (.cons (.lst .nil) .nil))) .nil)))
 .nil)))
  (.cons (.ifs (.cmp .Eq (.var 1) (.lst .nil))
  (.cons (.never)
 .nil)
  (.two (.asg (.name 5) (.ix (.ix (.var 1) (.neg (.con (.int 1)))) (.con (.int 1))))
 (.expr (.mth .append (.var 5) (.cons (.call 3 (.cons (.var 3) (.cons (.var 2) (.cons (.blt .len (.cons (.var 5) .nil)) .nil)))) .nil)))
 .nil))
 .nil))
 .nil))
def rV:cE:=
 (.cons (.asg (.name 1) (.lst .nil))
 (.cons (.forr (.tup (.cons (.name 2) (.cons (.name 3) .nil))) (.enum (.call 0 (.cons (.var 0) .nil))) jF)
 (.cons (.ret (.var 1))
 .nil)))
abbrev DB:M Str:=["words","row","above","takes","number"]
noncomputable def ym:cE:=
 (.cons (.ifs (.not (.chain .LtE .LtE (.con (.int 1)) (.var 4) (.var 2)))
  (.cons (.never)
 .nil)
  .nil)
 .nil)
def xK:cE:=
 (.cons (.asg (.name 3) (.call 0 (.cons (.sl (.var 0) (.some (.con (.int 1))) .none) .nil)))
 (.cons (.ifs (.cmp .Is (.var 3) (.con .non))
  (.cons (.never)
 .nil)
  .nil)
 (.chg (.forr (.name 4) (.seq (.var 3)) ym)
 (.cons (.ret (.var 3))
 .nil))))
abbrev IZ:M Str:=["words","row","above","told"]
noncomputable def CC:cE:=
 (.cons (.asg (.name 3) (.call 1 (.cons (.var 0) .nil)))
 (.cons (.ifs (.cmp .Is (.var 3) (.con .non))
  (.cons (.never)
 .nil)
  .nil)
 (.cons (.ifs (.cmp .GtE (.var 2) (.glo 0))
  (.cons (.never)
 .nil)
  .nil)
 (.cons (.ret (.var 3))
 .nil))))
abbrev uT:M Str:=["words","chosen","numbers","one","other"]
noncomputable def rH:cE:=
 (.cons (.ifs (.cmp .GtE (.var 3) (.var 4))
  (.cons (.ret (.con .non))
 .nil)
  .nil)
 .nil)
def pQ:cE:=
 (.cons (.ifs (.cmp .Eq (.var 0) (.lst .nil))
  (.cons (.ret (.lst .nil))
 .nil)
  .nil)
 (.cons (.asg (.name 1) (.call 1 (.cons (.sl (.var 0) (.some (.con (.int 1))) .none) .nil)))
 (.cons (.ifs (.or (.cmp .NotEq (.ix (.var 0) (.con (.int 0))) (.con (.str "on"))) (.cmp .Is (.var 1) (.con .non)))
  (.cons (.ret (.con .non))
 .nil)
  .nil)
 (.cons (.casg 2 (.comp ["word"] [] (.call 0 (.cons (.var 0) .nil)) (.name 0) (.seq (.var 1)) .none))
 (.cons (.ifs (.or (.cmp .In (.con .non) (.var 2)) (.cmp .Lt (.ix (.var 2) (.con (.int 0))) (.con (.int 0))))
  (.cons (.ret (.con .non))
 .nil)
  .nil)
 (.chg (.forr (.tup (.cons (.name 3) (.cons (.name 4) .nil))) (.zip (.cons (.var 2) (.cons (.sl (.var 2) (.some (.con (.int 1))) .none) .nil))) rH)
 (.cons (.ret (.var 2))
 .nil)))))))
abbrev zG:M Str:=["words"]
noncomputable def zH:cE:=
 (.cons (.ifs (.cmp .Eq (.bin .Mod (.blt .len (.cons (.var 0) .nil)) (.con (.int 2))) (.con (.int 0)))
  (.cons (.ret (.con .non))
 .nil)
  .nil)
 (.cons (.ifs (.blt .any (.cons (.comp ["word"] [] (.cmp .NotEq (.var 0) (.con (.str "or"))) (.name 0) (.seq (.slp (.var 0) (.some (.con (.int 1))) .none 2)) .none) .nil))
  (.cons (.ret (.con .non))
 .nil)
  .nil)
 (.cons (.ret (.slp (.var 0) (.some (.con (.int 0))) .none 2))
 .nil)))
abbrev DC:M Str:=["words"]
noncomputable def k_:cE:=
 (.cons (.ifs (.cmp .In (.ix (.var 0) (.con (.int 0))) (.glo 4))
  (.cons (.ret (.call 3 (.cons (.con (.bl W)) (.cons (.bin .Add (.lst (.cons (.con (.str "1")) .nil)) (.sl (.var 0) (.some (.con (.int 1))) .none)) .nil))))
 .nil)
  .nil)
 (.cons (.ifs (.cmp .Eq (.sl (.var 0) .none (.some (.con (.int 2)))) (.lst (.cons (.con (.str "at")) (.cons (.con (.str "least")) .nil))))
  (.cons (.ret (.call 3 (.cons (.con (.bl W)) (.cons (.sl (.var 0) (.some (.con (.int 2))) .none) .nil))))
 .nil)
  .nil)
 (.cons (.ifs (.cmp .Eq (.ix (.var 0) (.con (.int 0))) (.con (.str "just")))
  (.cons (.ret (.call 3 (.cons (.con (.bl J)) (.cons (.sl (.var 0) (.some (.con (.int 1))) .none) .nil))))
 .nil)
  .nil)
 (.cons (.ifs (.cmp .Eq (.ix (.var 0) (.con (.int 0))) (.con (.str "then")))
  (.cons (.ret (.call 2 (.cons (.sl (.var 0) (.some (.con (.int 1))) .none) .nil)))
 .nil)
  .nil)
 (.cons (.ifs (.cmp .In (.ix (.var 0) (.con (.int 0))) (.glo 0))
  (.cons (.ret (.call 1 (.cons (.sl (.var 0) (.some (.con (.int 1))) .none) .nil)))
 .nil)
  .nil)
 (.cons (.ret (.con .non))
 .nil))))))
abbrev zJ:M Str:=["closed","words","many","label","kinds"]
noncomputable def mq:cE:=
 (.cons (.ifs (.cmp .Lt (.blt .len (.cons (.var 1) .nil)) (.con (.int 2)))
  (.cons (.ret (.con .non))
 .nil)
  .nil)
 (.cons (.asg (.name 2) (.call 3 (.cons (.ix (.var 1) (.con (.int 0))) .nil)))
 (.cons (.ifs (.or (.cmp .Is (.var 2) (.con .non)) (.not (.chain .LtE .LtE (.con (.int 1)) (.var 2) (.glo 2))))
  (.cons (.ret (.con .non))
 .nil)
  .nil)
 (.cons (.asg (.name 3) (.ite (.and (.cmp .Gt (.blt .len (.cons (.var 1) .nil)) (.con (.int 2))) (.cmp .NotEq (.ix (.var 1) (.con (.int 2))) (.con (.str "or")))) (.ix (.var 1) (.con (.int 1))) (.con (.str ""))))
 (.cons (.asg (.name 4) (.call 1 (.cons (.ite (.cmp .Eq (.var 3) (.con (.str ""))) (.sl (.var 1) (.some (.con (.int 1))) .none) (.sl (.var 1) (.some (.con (.int 2))) .none)) .nil)))
 (.cons (.ifs (.or (.cmp .Is (.var 4) (.con .non)) (.not (.or (.cmp .Eq (.var 3) (.con (.str ""))) (.call 0 (.cons (.var 3) .nil)))))
  (.cons (.ret (.con .non))
 .nil)
  .nil)
 (.cons (.ret (.tup (.cons (.con (.str "parts")) (.cons (.var 2) (.cons (.var 0) (.cons (.var 3) (.cons (.var 4) .nil)))))))
 .nil)))))))
abbrev zK:M Str:=["words","kinds"]
noncomputable def uc:cE:=
 (.cons (.asg (.name 1) (.call 2 (.cons (.var 0) .nil)))
 (.cons (.ifs (.or (.cmp .Is (.var 1) (.con .non)) (.cmp .Gt (.blt .len (.cons (.var 1) .nil)) (.glo 1)))
  (.cons (.ret (.con .non))
 .nil)
  .nil)
 (.cons (.ifs (.or (.not (.call 0 (.cons (.var 1) .nil))) (.cmp .NotEq (.nset (.var 1)) (.blt .len (.cons (.var 1) .nil))))
  (.cons (.ret (.con .non))
 .nil)
  .nil)
 (.cons (.ret (.var 1))
 .nil))))
abbrev By:M Str:=["words","ref"]
noncomputable def vG:cE:=
 (.cons (.ifs (.or (.cmp .Lt (.blt .len (.cons (.var 0) .nil)) (.con (.int 2))) (.or (.not (.call 2 (.cons (.ix (.var 0) (.con (.int 0))) .nil))) (.cmp .NotIn (.ix (.var 0) (.con (.int 1))) (.glo 1))))
  (.cons (.ret (.con .non))
 .nil)
  .nil)
 (.cons (.asg (.name 1) (.call 0 (.cons (.sl (.var 0) (.some (.con (.int 2))) .none) .nil)))
 (.cons (.ifs (.cmp .Is (.var 1) (.con .non))
  (.cons (.ret (.con .non))
 .nil)
  .nil)
 (.cons (.ret (.tup (.cons (.con (.str "then")) (.cons (.ix (.var 0) (.con (.int 0))) (.cons (.var 1) .nil)))))
 .nil))))
abbrev DE:M Str:=["words","label"]
noncomputable def sR:cE:=
 (.cons (.ifs (.or (.not (.chain .LtE .LtE (.con (.int 1)) (.blt .len (.cons (.var 0) .nil)) (.con (.int 2)))) (.not (.call 0 (.cons (.var 0) .nil))))
  (.cons (.ret (.con .non))
 .nil)
  .nil)
 (.cons (.asg (.name 1) (.ite (.cmp .Eq (.blt .len (.cons (.var 0) .nil)) (.con (.int 2))) (.ix (.var 0) (.con (.int 0))) (.con (.str ""))))
 (.cons (.ret (.tup (.cons (.var 1) (.cons (.ix (.var 0) (.neg (.con (.int 1)))) .nil))))
 .nil)))
abbrev yo:M Str:=["words","count","behind","ref"]
noncomputable def n_:cE:=
 (.cons (.asg (.name 1) (.call 5 (.cons (.var 0) .nil)))
 (.cons (.ifs (.cmp .Eq (.var 1) (.blt .len (.cons (.var 0) .nil)))
  (.cons (.ret (.con .non))
 .nil)
  .nil)
 (.cons (.asg (.name 2) (.sl (.var 0) (.some (.var 1)) .none))
 (.cons (.ifs (.cmp .Eq (.ix (.var 2) (.con (.int 0))) (.con (.str "is")))
  (.cons (.ret (.call 4 (.cons (.sl (.var 0) .none (.some (.var 1))) (.cons (.sl (.var 2) (.some (.con (.int 1))) .none) .nil))))
 .nil)
  .nil)
 (.cons (.ifs (.cmp .Lt (.var 1) (.con (.int 2)))
  (.cons (.ret (.con .non))
 .nil)
  .nil)
 (.cons (.asg (.name 3) (.call 3 (.cons (.sl (.var 0) .none (.some (.bin .Sub (.var 1) (.con (.int 1))))) .nil)))
 (.cons (.ifs (.cmp .Is (.var 3) (.con .non))
  (.cons (.ret (.con .non))
 .nil)
  .nil)
 (.cons (.ifs (.cmp .In (.ix (.var 2) (.con (.int 0))) (.glo 1))
  (.cons (.ret (.call 2 (.cons (.var 3) (.cons (.ix (.var 0) (.bin .Sub (.var 1) (.con (.int 1)))) (.cons (.sl (.var 2) (.some (.con (.int 1))) .none) .nil)))))
 .nil)
  .nil)
 (.cons (.ret (.call 0 (.cons (.var 3) (.cons (.ix (.var 0) (.bin .Sub (.var 1) (.con (.int 1)))) (.cons (.var 2) .nil)))))
 .nil)))))))))
abbrev nL:M Str:=["words","count"]
noncomputable def lZ:cE:=
 (.cons (.aug 1 (.con (.int 1)))
 .nil)
def j8:cE:=
 (.cons (.asg (.name 1) (.con (.int 0)))
 (.cons (.whil (.and (.cmp .Lt (.var 1) (.blt .len (.cons (.var 0) .nil))) (.call 0 (.cons (.ix (.var 0) (.var 1)) .nil))) lZ)
 (.cons (.ret (.var 1))
 .nil)))
abbrev F7:M Str:=["ref_words","words","ref","kinds"]
noncomputable def zL:cE:=
 (.cons (.asg (.name 2) (.call 2 (.cons (.var 0) .nil)))
 (.cons (.asg (.name 3) (.call 1 (.cons (.sl (.var 1) (.some (.con (.int 1))) .none) .nil)))
 (.cons (.ifs (.or (.cmp .Is (.var 2) (.con .non)) (.or (.cmp .Is (.var 3) (.con .non)) (.cmp .NotIn (.ix (.var 1) (.con (.int 0))) (.glo 0))))
  (.cons (.ret (.con .non))
 .nil)
  .nil)
 (.cons (.ret (.tup (.cons (.con (.str "is")) (.cons (.var 2) (.cons (.var 3) .nil)))))
 .nil))))
abbrev BA:M Str:=["ref","word","words","other"]
noncomputable def vH:cE:=
 (.cons (.asg (.name 3) (.call 0 (.cons (.var 2) .nil)))
 (.cons (.ifs (.cmp .Is (.var 3) (.con .non))
  (.cons (.ret (.con .non))
 .nil)
  .nil)
 (.cons (.ret (.tup (.cons (.con (.str "join")) (.cons (.var 0) (.cons (.var 1) (.cons (.var 3) .nil))))))
 .nil)))
abbrev BB:M Str:=["ref","word","words","bounds"]
noncomputable def vI:cE:=
 (.cons (.asg (.name 3) (.call 0 (.cons (.var 2) .nil)))
 (.cons (.ifs (.cmp .Is (.var 3) (.con .non))
  (.cons (.ret (.con .non))
 .nil)
  .nil)
 (.cons (.ret (.tup (.cons (.con (.str "size")) (.cons (.var 0) (.cons (.var 1) (.cons (.ix (.var 3) (.con (.int 0))) (.cons (.ix (.var 3) (.con (.int 1))) .nil)))))))
 .nil)))
abbrev yp:M Str:=["words","form","numbers"]
noncomputable def jU:cE:=
 (.cons (.casg 1 (.comp ["word"] [] (.ite (.cmp .Is (.call 0 (.cons (.var 0) .nil)) (.con .non)) (.var 0) (.con (.str ""))) (.name 0) (.seq (.var 0)) .none))
 (.cons (.casg 2 (.comp ["word"] [] (.call 0 (.cons (.var 0) .nil)) (.name 0) (.seq (.var 0)) (.some (.cmp .IsNot (.call 0 (.cons (.var 0) .nil)) (.con .non)))))
 (.cons (.ifs (.cmp .Eq (.var 1) (.lst (.cons (.con (.str "of")) (.cons (.con (.str "")) .nil))))
  (.cons (.ret (.tup (.cons (.ix (.var 2) (.con (.int 0))) (.cons (.ix (.var 2) (.con (.int 0))) .nil))))
 .nil)
  .nil)
 (.cons (.ifs (.cmp .Eq (.var 1) (.lst (.cons (.con (.str "at")) (.cons (.con (.str "least")) (.cons (.con (.str "")) .nil)))))
  (.cons (.ret (.tup (.cons (.ix (.var 2) (.con (.int 0))) (.cons (.con .non) .nil))))
 .nil)
  .nil)
 (.cons (.ifs (.cmp .Eq (.var 1) (.lst (.cons (.con (.str "at")) (.cons (.con (.str "most")) (.cons (.con (.str "")) .nil)))))
  (.cons (.ret (.tup (.cons (.con .non) (.cons (.ix (.var 2) (.con (.int 0))) .nil))))
 .nil)
  .nil)
 (.cons (.ifs (.and (.cmp .Eq (.var 1) (.lst (.cons (.con (.str "from")) (.cons (.con (.str "")) (.cons (.con (.str "to")) (.cons (.con (.str "")) .nil)))))) (.cmp .LtE (.ix (.var 2) (.con (.int 0))) (.ix (.var 2) (.con (.int 1)))))
  (.cons (.ret (.tup (.cons (.ix (.var 2) (.con (.int 0))) (.cons (.ix (.var 2) (.con (.int 1))) .nil))))
 .nil)
  .nil)
 (.cons (.ret (.con .non))
 .nil)))))))
abbrev BC:M Str:=["words"]
noncomputable def vJ:cE:=
 (.cons (.ret (.blt .all (.cons (.comp ["word"] [] (.call 0 (.cons (.var 0) .nil)) (.name 0) (.seq (.var 0)) .none) .nil)))
 .nil)
abbrev I_:M Str:=["_law_script","_law_k"]
noncomputable def CD:cE:=
 (.cons (.ifs (.cmp .Lt (.var 1) (.blt .len (.cons (.var 0) .nil)))
  (.cons (.ret (.ix (.var 0) (.var 1)))
 .nil)
  .nil)
 (.cons (.ret (.bin .Mult (.con (.int 2377)) (.bin .Add (.var 1) (.con (.int 1)))))
 .nil))
abbrev F8:M Str:=["_law_cell_here","_law_k","_law_once"]
noncomputable def zM:cE:=
 (.cons (.asg (.name 2) (.bin .Mod (.bin .Mult (.bin .Add (.bin .Add (.bin .Mod (.var 0) (.con (.int 2147483647))) (.bin .Mult (.con (.int 7919)) (.var 1))) (.con (.int 1))) (.con (.int 48271))) (.con (.int 2147483647))))
 (.cons (.ret (.bin .FloorDiv (.bin .Mod (.bin .Mult (.var 2) (.bin .Add (.bin .Mod (.var 2) (.con (.int 1009))) (.con (.int 1)))) (.con (.int 2147483629))) (.con (.int 3))))
 .nil))
abbrev Ja:M Str:=["_law_seed","_law_which","_law_letters","_law_size","_law_rest","_law_spot","_law_sign"]
noncomputable def CF:cE:=
 (.cons (.asg (.name 2) (.con (.str "abcdefghijklmnopqrstuvwxyz")))
 (.cons (.asg (.name 3) (.bin .Add (.con (.int 1)) (.bin .Mod (.var 0) (.con (.int 8)))))
 (.cons (.ifs (.cmp .Eq (.var 3) (.con (.int 1)))
  (.cons (.ret (.ix (.var 2) (.bin .Add (.con (.int 1)) (.bin .Mod (.bin .Add (.bin .FloorDiv (.var 0) (.con (.int 8))) (.bin .Mult (.con (.int 3)) (.var 1))) (.con (.int 25))))))
 .nil)
  .nil)
 (.cons (.asg (.name 4) (.ix (.con (.str "bgkpqvwxyz")) (.bin .Mod (.bin .FloorDiv (.var 0) (.con (.int 8))) (.con (.int 10)))))
 (.cons (.asg (.name 5) (.bin .Mod (.bin .FloorDiv (.var 0) (.con (.int 80))) (.var 3)))
 (.cons (.asg (.name 6) (.ix (.var 2) (.bin .Mod (.bin .Add (.bin .FloorDiv (.var 0) (.con (.int 640))) (.bin .Mult (.con (.int 5)) (.var 1))) (.con (.int 26)))))
 (.cons (.ret (.bin .Add (.bin .Add (.bin .Mult (.var 4) (.var 5)) (.var 6)) (.bin .Mult (.var 4) (.bin .Sub (.bin .Sub (.var 3) (.con (.int 1))) (.var 5)))))
 .nil)))))))
abbrev zN:M Str:=["_law_found","_law_due"]
noncomputable def jZ:cE:=
 (.cons (.ifs (.isi (.var 1) .none)
  (.cons (.ifs (.cmp .NotEq (.isi (.var 0) .list) (.isi (.var 1) .list))
  (.cons (.ret (.con (.bl W)))
 .nil)
  .nil)
 (.cons (.ifs (.cmp .NotEq (.isi (.var 0) .tuple) (.isi (.var 1) .tuple))
  (.cons (.ret (.con (.bl W)))
 .nil)
  .nil)
 (.cons (.ret (.and (.cmp .Eq (.blt .len (.cons (.var 0) .nil)) (.blt .len (.cons (.var 1) .nil))) (.blt .all (.cons (.comp ["_law_one","_law_other"] [] (.call 0 (.cons (.var 0) (.cons (.var 1) .nil))) (.tup (.cons (.name 0) (.cons (.name 1) .nil))) (.zip (.cons (.var 0) (.cons (.var 1) .nil))) .none) .nil))))
 .nil)))
  .nil)
 (.cons (.ifs (.cmp .Is (.var 1) (.con .non))
  (.cons (.ret (.cmp .Is (.var 0) (.con .non)))
 .nil)
  .nil)
 (.cons (.ifs (.isi (.var 1) .str)
  (.cons (.ret (.and (.isi (.var 0) .str) (.cmp .Eq (.var 0) (.var 1))))
 .nil)
  .nil)
 (.cons (.ifs (.or (.isi (.var 1) .bool) (.isi (.var 0) .bool))
  (.cons (.ret (.and (.isi (.var 0) .bool) (.and (.isi (.var 1) .bool) (.cmp .Eq (.var 0) (.var 1)))))
 .nil)
  .nil)
 (.cons (.ret (.and (.isi (.var 0) .int) (.cmp .Eq (.var 0) (.var 1))))
 .nil)))))
abbrev LL:M Str:=["_law_seed","_law_d","_law_label"]
noncomputable def AZ:cE:=
 (.cons (.asg (.name 2) (.con (.str "")))
 (.cons (.ifs (.cmp .Eq (.bin .Mod (.var 1) (.con (.int 2))) (.con (.int 1)))
  (.cons (.asg (.name 2) (.call 0 (.cons (.var 0) (.cons (.bin .Mod (.bin .FloorDiv (.var 1) (.con (.int 2))) (.con (.int 26))) .nil))))
 .nil)
  .nil)
 (.cons (.ret (.tup (.cons (.var 2) (.cons (.call 0 (.cons (.var 0) (.cons (.bin .Mod (.bin .FloorDiv (.var 1) (.con (.int 52))) (.con (.int 26))) .nil))) .nil))))
 .nil)))
abbrev Jb:M Str:=["_law_seed","_law_d"]
noncomputable def CH:cE:=
 (.cons (.ret (.comp ["_law_k"] [0,1] (.call 0 (.cons (.var 1) (.cons (.bin .Add (.bin .Mod (.bin .FloorDiv (.var 2) (.con (.int 3))) (.con (.int 26))) (.var 0)) .nil))) (.name 0) (.range (.cons (.bin .Add (.con (.int 1)) (.bin .Mod (.var 1) (.con (.int 3)))) .nil)) .none))
 .nil)
abbrev DF:M Str:=["_law_cell_here","_law_d","_law_low","_law_high"]
noncomputable def sS:cE:=
 (.cons (.asg (.name 2) (.ix (.lst (.cons (.bin .Sub (.bin .Mod (.var 1) (.con (.int 5))) (.con (.int 2))) (.cons (.bin .Mod (.var 0) (.bin .Pow (.con (.int 10)) (.con (.int 30)))) (.cons (.bin .Sub (.con (.int 0)) (.bin .Mod (.var 0) (.bin .Pow (.con (.int 10)) (.con (.int 30))))) .nil)))) (.bin .Mod (.bin .FloorDiv (.var 1) (.con (.int 5))) (.con (.int 3)))))
 (.cons (.asg (.name 3) (.bin .Add (.var 2) (.ix (.lst (.cons (.con (.int 0)) (.cons (.bin .Add (.con (.int 1)) (.bin .Mod (.bin .FloorDiv (.var 1) (.con (.int 15))) (.con (.int 7)))) (.cons (.bin .Mod (.var 0) (.bin .Pow (.con (.int 10)) (.con (.int 20)))) .nil)))) (.bin .Mod (.bin .FloorDiv (.var 1) (.con (.int 105))) (.con (.int 3))))))
 (.cons (.ifs (.cmp .Gt (.blt .abs (.cons (.var 3) .nil)) (.bin .Sub (.bin .Pow (.con (.int 10)) (.con (.int 30))) (.con (.int 1))))
  (.cons (.asg (.name 3) (.var 2))
 .nil)
  .nil)
 (.cons (.ifs (.cmp .Eq (.bin .Mod (.bin .FloorDiv (.var 1) (.con (.int 315))) (.con (.int 4))) (.con (.int 0)))
  (.cons (.ret (.tup (.cons (.var 2) (.cons (.con .non) .nil))))
 .nil)
  .nil)
 (.cons (.ifs (.cmp .Eq (.bin .Mod (.bin .FloorDiv (.var 1) (.con (.int 315))) (.con (.int 4))) (.con (.int 1)))
  (.cons (.ret (.tup (.cons (.con .non) (.cons (.var 3) .nil))))
 .nil)
  .nil)
 (.cons (.ret (.tup (.cons (.var 2) (.cons (.var 3) .nil))))
 .nil))))))
abbrev LM:M Str:=["_law_cell_here","_law_k","_law_seed","_law_d","_law_e","_law_f","_law_label","_law_many","_law_low","_law_high"]
noncomputable def qV:cE:=
 (.cons (.asg (.name 3) (.call 4 (.cons (.var 0) (.cons (.var 1) .nil))))
 (.cons (.asg (.name 4) (.call 4 (.cons (.var 0) (.cons (.bin .Add (.var 1) (.con (.int 40))) .nil))))
 (.cons (.asg (.name 5) (.call 4 (.cons (.var 0) (.cons (.bin .Add (.var 1) (.con (.int 80))) .nil))))
 (.cons (.ifs (.cmp .Lt (.bin .Mod (.var 3) (.con (.int 7))) (.con (.int 3)))
  (.cons (.asg (.name 6) (.ix (.lst (.cons (.con (.str "")) (.cons (.call 1 (.cons (.var 2) (.cons (.bin .Mod (.bin .FloorDiv (.var 4) (.con (.int 78))) (.con (.int 26))) .nil))) .nil))) (.bin .Mod (.bin .FloorDiv (.var 3) (.con (.int 7))) (.con (.int 2)))))
 (.cons (.asg (.name 7) (.ix (.lst (.cons (.con (.int 1)) (.cons (.bin .Add (.con (.int 1)) (.bin .Mod (.var 5) (.con (.int 5)))) (.cons (.bin .Add (.con (.int 1)) (.bin .Mod (.var 5) (.con (.int 5)))) .nil)))) (.bin .Mod (.var 3) (.con (.int 7)))))
 (.cons (.ret (.tup (.cons (.con (.str "parts")) (.cons (.var 7) (.cons (.cmp .Eq (.bin .Mod (.var 3) (.con (.int 7))) (.con (.int 2))) (.cons (.var 6) (.cons (.call 2 (.cons (.var 2) (.cons (.var 4) .nil))) .nil)))))))
 .nil)))
  .nil)
 (.cons (.ifs (.cmp .Eq (.bin .Mod (.var 3) (.con (.int 7))) (.con (.int 3)))
  (.cons (.ret (.tup (.cons (.con (.str "join")) (.cons (.call 0 (.cons (.var 2) (.cons (.var 4) .nil))) (.cons (.call 1 (.cons (.var 2) (.cons (.bin .Mod (.bin .FloorDiv (.var 3) (.con (.int 7))) (.con (.int 26))) .nil))) (.cons (.call 0 (.cons (.var 2) (.cons (.var 5) .nil))) .nil))))))
 .nil)
  .nil)
 (.cons (.ifs (.cmp .Eq (.bin .Mod (.var 3) (.con (.int 7))) (.con (.int 4)))
  (.cons (.tasg (.tup (.cons (.name 8) (.cons (.name 9) .nil))) (.call 3 (.cons (.var 0) (.cons (.var 5) .nil))))
 (.cons (.ret (.tup (.cons (.con (.str "size")) (.cons (.call 0 (.cons (.var 2) (.cons (.var 4) .nil))) (.cons (.call 1 (.cons (.var 2) (.cons (.bin .Mod (.bin .FloorDiv (.var 3) (.con (.int 7))) (.con (.int 26))) .nil))) (.cons (.var 8) (.cons (.var 9) .nil)))))))
 .nil))
  .nil)
 (.cons (.ifs (.cmp .Eq (.bin .Mod (.var 3) (.con (.int 7))) (.con (.int 5)))
  (.cons (.ret (.tup (.cons (.con (.str "is")) (.cons (.call 0 (.cons (.var 2) (.cons (.var 4) .nil))) (.cons (.call 2 (.cons (.var 2) (.cons (.var 5) .nil))) .nil)))))
 .nil)
  .nil)
 (.cons (.ret (.tup (.cons (.con (.str "then")) (.cons (.call 1 (.cons (.var 2) (.cons (.bin .Mod (.bin .FloorDiv (.var 3) (.con (.int 7))) (.con (.int 26))) .nil))) (.cons (.call 0 (.cons (.var 2) (.cons (.var 4) .nil))) .nil)))))
 .nil))))))))
abbrev F9:M Str:=["_law_d","_law_above","_law_takes_here","_law_number"]
noncomputable def mw:cE:=
 (.cons (.ifs (.and (.cmp .Eq (.bin .Mod (.bin .RShift (.var 0) (.var 3)) (.con (.int 3))) (.con (.int 0))) (.cmp .Lt (.blt .len (.cons (.var 2) .nil)) (.con (.int 4))))
  (.cons (.expr (.mth .append (.var 2) (.cons (.var 3) .nil)))
 .nil)
  .nil)
 .nil)
def zO:cE:=
 (.cons (.asg (.name 2) (.lst .nil))
 (.cons (.forr (.name 3) (.range (.cons (.con (.int 1)) (.cons (.bin .Add (.var 1) (.con (.int 1))) .nil))) mw)
 (.cons (.ret (.var 2))
 .nil)))
abbrev DG:M Str:=["_law_script","_law_seed","_law_claims_here","_law_k","_law_cell_here","_law_d"]
noncomputable def dW:cE:=
 (.cons (.asg (.name 5) (.call 2 (.cons (.var 4) (.cons (.bin .Add (.var 3) (.con (.int 120))) .nil))))
 (.cons (.ifs (.and (.cmp .Lt (.blt .len (.cons (.var 2) .nil)) (.con (.int 12))) (.or (.cmp .Eq (.bin .Mod (.var 5) (.con (.int 6))) (.con (.int 0))) (.cmp .Eq (.blt .len (.cons (.ix (.ix (.var 2) (.neg (.con (.int 1)))) (.con (.int 1))) .nil)) (.con (.int 12)))))
  (.cons (.expr (.mth .append (.var 2) (.cons (.tup (.cons (.call 0 (.cons (.bin .FloorDiv (.var 5) (.con (.int 6))) (.cons (.blt .len (.cons (.var 2) .nil)) .nil))) (.cons (.lst .nil) .nil))) .nil)))
 .nil)
  (.cons (.ifs (.cmp .Lt (.blt .len (.cons (.ix (.ix (.var 2) (.neg (.con (.int 1)))) (.con (.int 1))) .nil)) (.con (.int 12)))
  (.cons (.expr (.mth .append (.ix (.ix (.var 2) (.neg (.con (.int 1)))) (.con (.int 1))) (.cons (.call 1 (.cons (.var 4) (.cons (.var 3) (.cons (.var 1) .nil)))) .nil)))
 .nil)
  .nil)
 .nil))
 .nil))
def xM:cE:=
 (.cons (.asg (.name 1) (.call 2 (.cons (.call 3 (.cons (.var 0) (.cons (.con (.int 0)) .nil))) (.cons (.con (.int 1)) .nil))))
 (.cons (.asg (.name 2) (.lst (.cons (.tup (.cons (.lst .nil) (.cons (.lst .nil) .nil))) .nil)))
 (.cons (.forr (.tup (.cons (.name 3) (.cons (.name 4) .nil))) (.enum (.sl (.var 0) (.some (.con (.int 1))) (.some (.con (.int 63))))) dW)
 (.cons (.ret (.var 2))
 .nil))))
abbrev zP:M Str:=["_law_ref_here"]
noncomputable def ud:cE:=
 (.cons (.ret (.mth .join (.con (.str " ")) (.cons (.comp ["_law_word_here"] [] (.var 0) (.name 0) (.seq (.tup (.cons (.con (.str "the")) (.cons (.ix (.var 0) (.con (.int 0))) (.cons (.ix (.var 0) (.con (.int 1))) .nil))))) (.some (.cmp .NotEq (.var 0) (.con (.str ""))))) .nil)))
 .nil)
abbrev yq:M Str:=["_law_low","_law_high"]
noncomputable def lI:cE:=
 (.cons (.ifs (.cmp .Is (.var 1) (.con .non))
  (.cons (.ret (.bin .Add (.con (.str "at least ")) (.blt .str (.cons (.var 0) .nil))))
 .nil)
  .nil)
 (.cons (.ifs (.cmp .Is (.var 0) (.con .non))
  (.cons (.ret (.bin .Add (.con (.str "at most ")) (.blt .str (.cons (.var 1) .nil))))
 .nil)
  .nil)
 (.cons (.ifs (.cmp .Eq (.var 0) (.var 1))
  (.cons (.ret (.bin .Add (.con (.str "of ")) (.blt .str (.cons (.var 0) .nil))))
 .nil)
  .nil)
 (.cons (.ret (.bin .Add (.bin .Add (.bin .Add (.con (.str "from ")) (.blt .str (.cons (.var 0) .nil))) (.con (.str " to "))) (.blt .str (.cons (.var 1) .nil))))
 .nil))))
abbrev Jc:M Str:=["_law_row_here","_law_head"]
noncomputable def oH:cE:=
 (.cons (.ifs (.cmp .Eq (.ix (.var 0) (.con (.int 0))) (.con (.str "parts")))
  (.cons (.asg (.name 1) (.bin .Add (.con (.str "at least ")) (.blt .str (.cons (.ix (.var 0) (.con (.int 1))) .nil))))
 (.cons (.ifs (.cmp .Eq (.ix (.var 0) (.con (.int 1))) (.con (.int 1)))
  (.cons (.asg (.name 1) (.con (.str "a")))
 .nil)
  .nil)
 (.cons (.ifs (.ix (.var 0) (.con (.int 2)))
  (.cons (.asg (.name 1) (.bin .Add (.con (.str "just ")) (.blt .str (.cons (.ix (.var 0) (.con (.int 1))) .nil))))
 .nil)
  .nil)
 (.cons (.ret (.mth .join (.con (.str " ")) (.cons (.comp ["_law_word_here"] [] (.var 0) (.name 0) (.seq (.tup (.cons (.var 1) (.cons (.ix (.var 0) (.con (.int 3))) (.cons (.mth .join (.con (.str " or ")) (.cons (.ix (.var 0) (.con (.int 4))) .nil)) .nil))))) (.some (.cmp .NotEq (.var 0) (.con (.str ""))))) .nil)))
 .nil))))
  .nil)
 (.cons (.ifs (.cmp .Eq (.ix (.var 0) (.con (.int 0))) (.con (.str "join")))
  (.cons (.ret (.bin .Add (.bin .Add (.bin .Add (.bin .Add (.call 0 (.cons (.ix (.var 0) (.con (.int 1))) .nil)) (.con (.str " "))) (.ix (.var 0) (.con (.int 2)))) (.con (.str " "))) (.call 0 (.cons (.ix (.var 0) (.con (.int 3))) .nil))))
 .nil)
  .nil)
 (.cons (.ifs (.cmp .Eq (.ix (.var 0) (.con (.int 0))) (.con (.str "size")))
  (.cons (.ret (.bin .Add (.bin .Add (.bin .Add (.bin .Add (.call 0 (.cons (.ix (.var 0) (.con (.int 1))) .nil)) (.con (.str " "))) (.ix (.var 0) (.con (.int 2)))) (.con (.str " "))) (.call 1 (.cons (.ix (.var 0) (.con (.int 3))) (.cons (.ix (.var 0) (.con (.int 4))) .nil)))))
 .nil)
  .nil)
 (.cons (.ifs (.cmp .Eq (.ix (.var 0) (.con (.int 0))) (.con (.str "is")))
  (.cons (.ret (.bin .Add (.bin .Add (.call 0 (.cons (.ix (.var 0) (.con (.int 1))) .nil)) (.con (.str " is a "))) (.mth .join (.con (.str " or ")) (.cons (.ix (.var 0) (.con (.int 2))) .nil))))
 .nil)
  .nil)
 (.cons (.ret (.bin .Add (.bin .Add (.bin .Add (.con (.str "then ")) (.ix (.var 0) (.con (.int 1)))) (.con (.str " "))) (.call 0 (.cons (.ix (.var 0) (.con (.int 2))) .nil))))
 .nil)))))
abbrev F_:M Str:=["_law_claims_here","_law_lines_here","_law_takes_here","_law_rows"]
noncomputable def ue:cE:=
 (.cons (.expr (.mth .append (.var 1) (.cons (.mth .join (.con (.str " or ")) (.cons (.comp ["_law_k"] [2] (.bin .Add (.bin .Mult (.con (.str "claim on ")) (.blt .int (.cons (.cmp .Eq (.var 0) (.con (.int 0))) .nil))) (.blt .str (.cons (.ix (.var 1) (.var 0)) .nil))) (.name 0) (.range (.cons (.blt .len (.cons (.var 2) .nil)) .nil)) .none) .nil)) .nil)))
 (.cons (.ifs (.cmp .Eq (.var 2) (.lst .nil))
  (.cons (.asg (.sub (.var 1) (.neg (.con (.int 1)))) (.con (.str "claim")))
 .nil)
  .nil)
 (.cons (.asg (.name 1) (.bin .Add (.var 1) (.comp ["_law_row_here"] [] (.call 0 (.cons (.var 0) .nil)) (.name 0) (.seq (.var 3)) .none)))
 .nil)))
def zQ:cE:=
 (.cons (.asg (.name 1) (.lst .nil))
 (.cons (.forr (.tup (.cons (.name 2) (.cons (.name 3) .nil))) (.seq (.var 0)) ue)
 (.cons (.ret (.var 1))
 .nil)))
abbrev BD:M Str:=["_law_line","_law_d","_law_words","_law_k","_law_word_here","_law_bit"]
noncomputable def kR:cE:=
 (.cons (.asg (.name 5) (.bin .RShift (.bin .FloorDiv (.var 1) (.con (.int 3))) (.bin .Mod (.var 3) (.con (.int 20)))))
 (.cons (.ifs (.and (.cmp .Eq (.var 4) (.con (.str "the"))) (.cmp .Eq (.bin .Mod (.var 5) (.con (.int 2))) (.con (.int 1))))
  (.cons (.asg (.name 4) (.con (.str "said")))
 .nil)
  .nil)
 (.cons (.ifs (.and (.cmp .Eq (.var 4) (.con (.str "a"))) (.cmp .Eq (.bin .Mod (.var 5) (.con (.int 2))) (.con (.int 1))))
  (.cons (.asg (.name 4) (.con (.str "an")))
 .nil)
  .nil)
 (.cons (.ifs (.and (.cmp .Eq (.var 4) (.con (.str "of"))) (.cmp .Eq (.bin .Mod (.var 1) (.con (.int 5))) (.con (.int 0))))
  (.cons (.asg (.name 4) (.bin .Add (.bin .Add (.con (.str "from ")) (.ix (.mth .split (.var 0) (.cons (.con (.str " ")) .nil)) (.neg (.con (.int 1))))) (.con (.str " to"))))
 .nil)
  .nil)
 (.cons (.expr (.mth .append (.var 2) (.cons (.bin .Add (.var 4) (.bin .Mult (.con (.str " ")) (.bin .Mod (.bin .FloorDiv (.var 5) (.con (.int 2))) (.con (.int 3))))) .nil)))
 .nil)))))
def eW:cE:=
 (.cons (.ifs (.and (.cmp .Eq (.bin .Mod (.var 1) (.con (.int 3))) (.con (.int 0))) (.cmp .Eq (.sl (.var 0) .none (.some (.con (.int 2)))) (.con (.str "a "))))
  (.cons (.asg (.name 0) (.bin .Add (.con (.str "at least 1 ")) (.sl (.var 0) (.some (.con (.int 2))) .none)))
 .nil)
  .nil)
 (.cons (.asg (.name 2) (.lst .nil))
 (.cons (.forr (.tup (.cons (.name 3) (.cons (.name 4) .nil))) (.enum (.mth .split (.var 0) (.cons (.con (.str " ")) .nil))) kR)
 (.cons (.ret (.bin .Add (.bin .Mult (.con (.str " ")) (.bin .Mod (.bin .FloorDiv (.var 1) (.con (.int 7))) (.con (.int 3)))) (.mth .join (.con (.str " ")) (.cons (.var 2) .nil))))
 .nil))))
abbrev sd:M Str:=["_law_script","_law_claims_here","_law_lines_here","_law_k","_law_line","_law_d"]
noncomputable def lq:cE:=
 (.cons (.asg (.name 5) (.call 2 (.cons (.call 3 (.cons (.var 0) (.cons (.bin .Add (.var 3) (.con (.int 1))) .nil))) (.cons (.bin .Add (.var 3) (.con (.int 200))) .nil))))
 (.cons (.ifs (.and (.cmp .Eq (.bin .Mod (.var 5) (.con (.int 4))) (.con (.int 0))) (.cmp .Lt (.blt .len (.cons (.var 2) .nil)) (.con (.int 190))))
  (.cons (.expr (.mth .append (.var 2) (.cons (.bin .Mult (.con (.str " ")) (.bin .Mod (.bin .FloorDiv (.var 5) (.con (.int 4))) (.con (.int 3)))) .nil)))
 .nil)
  .nil)
 (.cons (.expr (.mth .append (.var 2) (.cons (.call 1 (.cons (.var 4) (.cons (.bin .FloorDiv (.var 5) (.con (.int 12))) .nil))) .nil)))
 .nil)))
def nD:cE:=
 (.cons (.asg (.name 2) (.lst .nil))
 (.cons (.forr (.tup (.cons (.name 3) (.cons (.name 4) .nil))) (.enum (.call 0 (.cons (.var 1) .nil))) lq)
 (.cons (.ret (.var 2))
 .nil)))
abbrev Ga:M Str:=["_law_claims_here","_law_lists_here","_law_takes_here","_law_rows","_law_row_here"]
noncomputable def pR:cE:=
 (.cons (.ifs (.isi (.var 4) .tuple)
  (.cons (.expr (.mth .extend (.var 1) (.cons (.comp ["_law_part"] [] (.var 0) (.name 0) (.seq (.var 4)) (.some (.isi (.var 0) .list))) .nil)))
 .nil)
  .nil)
 .nil)
def uf:cE:=
 (.cons (.expr (.mth .append (.var 1) (.cons (.var 2) .nil)))
 (.cons (.forr (.name 4) (.seq (.var 3)) pR)
 (.cons (.expr (.mth .append (.var 1) (.cons (.var 3) .nil)))
 .nil)))
def zR:cE:=
 (.cons (.asg (.name 1) (.lst .nil))
 (.cons (.forr (.tup (.cons (.name 2) (.cons (.name 3) .nil))) (.seq (.var 0)) uf)
 (.cons (.ret (.var 1))
 .nil)))
abbrev WS:M Str:=["_law_script","_law_claims_here","_law_text_here","_law_found","_law_k","_law_lists_here"]
noncomputable def Jd:cE:=
 (.cons (.ifs (.cmp .NotEq (.mth .pop (.var 5) .nil) (.var 4))
  (.cons (.ret (.con (.bl W)))
 .nil)
  .nil)
 .nil)
noncomputable def Je:cE:=
 (.cons (.expr (.mth .append (.var 5) (.cons (.var 4) .nil)))
 .nil)
def Np:cE:=
 (.cons (.asg (.name 1) (.call 4 (.cons (.var 0) .nil)))
 (.cons (.asg (.name 2) (.mth .join (.con (.str "\n")) (.cons (.call 3 (.cons (.var 0) (.cons (.var 1) .nil))) .nil)))
 (.cons (.asg (.name 3) (.call 1 (.cons (.var 2) .nil)))
 (.cons (.ifs (.not (.call 0 (.cons (.var 3) (.cons (.var 1) .nil))))
  (.cons (.ret (.con (.bl W)))
 .nil)
  .nil)
 (.chg (.forr (.tup (.cons (.name 4) (.cons (.name 5) .nil))) (.enum (.call 2 (.cons (.var 3) .nil))) Je)
 (.chg (.forr (.tup (.cons (.name 4) (.cons (.name 5) .nil))) (.enum (.call 2 (.cons (.var 3) .nil))) Jd)
 (.cons (.ifs (.not (.call 0 (.cons (.var 3) (.cons (.var 1) .nil))))
  (.cons (.ret (.con (.bl W)))
 .nil)
  .nil)
 (.cons (.expr (.mth .clear (.var 3) .nil))
 (.cons (.ret (.call 0 (.cons (.call 1 (.cons (.var 2) .nil)) (.cons (.var 1) .nil))))
 .nil)))))))))
noncomputable def dR:M D:=[(.str "a"),(.str "an"),(.str "the"),(.str "said"),(.str "claim"),(.str "on"),(.str "or"),(.str "then"),(.str "from"),(.str "to"),(.str "of"),(.str "at"),(.str "least"),(.str "most"),(.str "just"),(.str "is")]
noncomputable def Gb:M D:=[(.str "a"),(.str "an")]
noncomputable def uU:M D:=[(.str "the"),(.str "said")]
noncomputable def jw(r:M D->R D):M PG:=[.fn r []]
def jr:L->M D->R D
|0=>λ_=>.bad
|k+1=>dG (jw (jr k)) 1000 zN 2 jZ
def zS:M D->R D:=jr 9
def DH:M PG:=[]
def sU:M D->R D:=dG DH 1000 DA 1 xJ
def Gc:M PG:=[.fn sU []]
def uV:M D->R D:=dG Gc 1000 F6 1 zF
def mz:M D->R D:=dG DH 1000 zE 3 ua
def zU:M PG:=[.fn mz [],.val (.int 30)]
def pU:M D->R D:=dG zU 1000 zD 1 t_
def BE:M PG:=[.fn pU []]
def dj:M D->R D:=dG BE 1000 Bx 1 vF
def gz:M D->R D:=dG DH 1000 zG 1 zH
def gp:M PG:=[.fn dj [],.fn gz []]
def iQ:M D->R D:=dG gp 1000 uT 1 pQ
def pV:M PG:=[.fn iQ []]
def pW:M D->R D:=dG pV 1000 DB 3 xK
def iY:M PG:=[.fn dj []]
def cH:M D->R D:=dG iY 1000 yp 1 jU
def BF:M PG:=[.fn cH []]
def j9:M D->R D:=dG BF 1000 BB 3 vI
def Gd:M PG:=[.val (.cst dR),.fn mz [],.val (.int 8)]
def mD:M D->R D:=dG Gd 1000 FZ 1 zC
def BG:M PG:=[.fn mD []]
def j_:M D->R D:=dG BG 1000 BC 1 vJ
def xN:M PG:=[.fn j_ []]
def fS:M D->R D:=dG xN 1000 DE 1 sR
def BH:M PG:=[.fn fS []]
def kc:M D->R D:=dG BH 1000 BA 3 vH
def zV:M PG:=[.fn j_ [],.val (.int 3),.fn gz []]
def gY:M D->R D:=dG zV 1000 zK 1 uc
def Ge:M PG:=[.val (.cst Gb),.fn gY [],.fn fS []]
def oV:M D->R D:=dG Ge 1000 F7 2 zL
def nM:M PG:=[.fn mD []]
def fK:M D->R D:=dG nM 1000 nL 1 j8
def rW:M PG:=[.fn j9 [],.val (.cst uU),.fn kc [],.fn fS [],.fn oV [],.fn fK []]
def dX:M D->R D:=dG rW 1000 yo 1 n_
def BI:M PG:=[.fn fS [],.val (.cst uU),.fn mD []]
def lO:M D->R D:=dG BI 1000 By 1 vG
def pY:M PG:=[.fn mD [],.fn gY [],.val (.int 5),.fn dj []]
def d9:M D->R D:=dG pY 1000 zJ 2 mq
def mY:M PG:=[.val (.cst uU),.fn dX [],.fn lO [],.fn d9 [],.val (.cst Gb)]
def fT:M D->R D:=dG mY 1000 DC 1 k_
def Jg:M PG:=[.val (.int 12),.fn fT []]
def xO:M D->R D:=dG Jg 1000 IZ 3 CC
def iZ:M PG:=[.fn uV [],.val (.int 12),.fn pW [],.fn xO []]
def jV:M D->R D:=dG iZ 1000 yl 1 rV
def kZ:M D->R D:=dG DH 1000 Ga 1 zR
def gB:M D->R D:=dG DH 1000 zP 1 ud
def gE:M D->R D:=dG DH 1000 yq 2 lI
def lu:M PG:=[.fn gB [],.fn gE []]
def eO:M D->R D:=dG lu 1000 Jc 1 oH
def j0:M PG:=[.fn eO []]
def uW:M D->R D:=dG j0 1000 F_ 1 zQ
def nN:M D->R D:=dG DH 1000 BD 2 eW
def oW:M D->R D:=dG DH 1000 F8 2 zM
def oJ:M D->R D:=dG DH 1000 I_ 2 CD
def ku:M PG:=[.fn uW [],.fn nN [],.fn oW [],.fn oJ []]
def kB:M D->R D:=dG ku 1000 sd 2 nD
def uX:M D->R D:=dG DH 1000 F9 2 zO
def kg:M D->R D:=dG DH 1000 Ja 2 CF
def EI:M PG:=[.fn kg []]
def qW:M D->R D:=dG EI 1000 LL 2 AZ
def Jj:M PG:=[.fn kg []]
def xP:M D->R D:=dG Jj 1000 Jb 2 CH
def pZ:M D->R D:=dG DH 1000 DF 2 sS
def tH:M PG:=[.fn qW [],.fn kg [],.fn xP [],.fn pZ [],.fn oW []]
def oY:M D->R D:=dG tH 1000 LM 3 qV
def gZ:M PG:=[.fn uX [],.fn oY [],.fn oW [],.fn oJ []]
def sV:M D->R D:=dG gZ 1000 DG 1 xM
def xR:M PG:=[.fn zS [],.fn jV [],.fn kZ [],.fn kB [],.fn sV []]
def Nq:M D->R D:=dG xR 1000 WS 1 Np
def BN:M Str:=["abs","all","any","bool","enumerate","int","isinstance","len","list","range","set","str","tuple","zip"]
def Gg:FD:=#["_law_alike",top 43,zN,2,["_law_alike"]]
def Q2:Gg.gm BN jZ=J:=by decide +kernel
def DJ:FD:=#["words_in",top 14,DA,1,[]]
def Nr:DJ.gm BN xJ=J:=by decide +kernel
def Gh:FD:=#["rows_in",top 13,F6,1,["words_in"]]
def Q3:Gh.gm BN zF=J:=by decide +kernel
def zX:FD:=#["all_within",top 12,zE,3,[]]
def Jk:zX.gm BN ua=J:=by decide +kernel
def zY:FD:=#["is_figures",top 11,zD,1,["all_within","MOST_FIGURES"]]
def Jl:zY.gm BN t_=J:=by decide +kernel
def BJ:FD:=#["number_in",top 10,Bx,1,["is_figures"]]
def KA:BJ.gm BN vF=J:=by decide +kernel
def zZ:FD:=#["choices_in",top 26,zG,1,[]]
def Jm:zZ.gm BN zH=J:=by decide +kernel
def uY:FD:=#["taken_numbers",top 25,uT,1,["number_in","choices_in"]]
def DK:uY.gm BN pQ=J:=by decide +kernel
def DL:FD:=#["takes_in",top 23,DB,3,["taken_numbers"]]
def Nt:DL.gm BN xK=J:=by decide +kernel
def yr:FD:=#["bounds_told",top 37,yp,1,["number_in"]]
def GG:yr.gm BN jU=J:=by decide +kernel
def BK:FD:=#["size_told",top 36,BB,3,["bounds_told"]]
def KC:BK.gm BN vI=J:=by decide +kernel
def Gi:FD:=#["is_word",top 9,FZ,1,["KEPT_WORDS","all_within","MOST_LETTERS"]]
def Q4:Gi.gm BN zC=J:=by decide +kernel
def BL:FD:=#["all_words",top 38,BC,1,["is_word"]]
def KD:BL.gm BN vJ=J:=by decide +kernel
def DM:FD:=#["ref_told",top 31,DE,1,["all_words"]]
def Nu:DM.gm BN sR=J:=by decide +kernel
def BO:FD:=#["join_told",top 35,BA,3,["ref_told"]]
def KE:BO.gm BN vH=J:=by decide +kernel
def z0:FD:=#["kinds_told",top 29,zK,1,["all_words","MOST_KINDS","choices_in"]]
def Jo:z0.gm BN uc=J:=by decide +kernel
def Gj:FD:=#["is_told",top 34,F7,2,["A","kinds_told","ref_told"]]
def Q5:Gj.gm BN zL=J:=by decide +kernel
def nO:FD:=#["count_of_words_ahead",top 33,nL,1,["is_word"]]
def vK:nO.gm BN j8=J:=by decide +kernel
def yt:FD:=#["told_of_ref",top 32,yo,1,["size_told","THE","join_told","ref_told","is_told","count_of_words_ahead"]]
def GH:yt.gm BN n_=J:=by decide +kernel
def BP:FD:=#["step_told",top 30,By,1,["ref_told","THE","is_word"]]
def KG:BP.gm BN vG=J:=by decide +kernel
def z6:FD:=#["parts_told",top 28,zJ,2,["is_word","kinds_told","MOST_PARTS","number_in"]]
def Jp:z6.gm BN mq=J:=by decide +kernel
def DN:FD:=#["row_told",top 27,DC,1,["THE","told_of_ref","step_told","parts_told","A"]]
def Nv:DN.gm BN k_=J:=by decide +kernel
def Jq:FD:=#["row_in",top 24,IZ,3,["MOST_ROWS","row_told"]]
def VA:Jq.gm BN CC=J:=by decide +kernel
def yu:FD:=#["read_claims",top 22,yl,1,["rows_in","MOST_CLAIMS","takes_in","row_in"]]
def GI:yu.gm BN rV=J:=by decide +kernel
def Gk:FD:=#["_law_lists",top 56,Ga,1,[]]
def Q6:Gk.gm BN zR=J:=by decide +kernel
def z9:FD:=#["_law_ref_text",top 50,zP,1,[]]
def Jr:z9.gm BN ud=J:=by decide +kernel
def yw:FD:=#["_law_size_text",top 51,yq,2,[]]
def GJ:yw.gm BN lI=J:=by decide +kernel
def Js:FD:=#["_law_text",top 52,Jc,1,["_law_ref_text","_law_size_text"]]
def VB:Js.gm BN oH=J:=by decide +kernel
def Gm:FD:=#["_law_lines",top 53,F_,1,["_law_text"]]
def Q7:Gm.gm BN zQ=J:=by decide +kernel
def BQ:FD:=#["_law_spelled",top 54,BD,2,[]]
def KH:BQ.gm BN eW=J:=by decide +kernel
def Gn:FD:=#["_law_mixed",top 41,F8,2,[]]
def Q8:Gn.gm BN zM=J:=by decide +kernel
def Jt:FD:=#["_law_cell",top 40,I_,2,[]]
def VC:Jt.gm BN CD=J:=by decide +kernel
def se:FD:=#["_law_spelled_lines",top 55,sd,2,["_law_lines","_law_spelled","_law_mixed","_law_cell"]]
def Ba:se.gm BN nD=J:=by decide +kernel
def Gp:FD:=#["_law_takes",top 48,F9,2,[]]
def Q9:Gp.gm BN zO=J:=by decide +kernel
def Ju:FD:=#["_law_word",top 42,Ja,2,[]]
def VD:Ju.gm BN CF=J:=by decide +kernel
def LN:FD:=#["_law_ref",top 44,LL,2,["_law_word"]]
def YD:LN.gm BN AZ=J:=by decide +kernel
def Jv:FD:=#["_law_some",top 45,Jb,2,["_law_word"]]
def VE:Jv.gm BN CH=J:=by decide +kernel
def DO:FD:=#["_law_bounds",top 46,DF,2,[]]
theorem Nx:DO.gm BN sS=J:=by rfl
def LO:FD:=#["_law_row",top 47,LM,3,["_law_ref","_law_word","_law_some","_law_bounds","_law_mixed"]]
def YE:LO.gm BN qV=J:=by decide +kernel
def DP:FD:=#["_law_claims",top 49,DG,1,["_law_takes","_law_row","_law_mixed","_law_cell"]]
def Ny:DP.gm BN xM=J:=by decide +kernel
def uZ:FD:=#["law",top 57,WS,1,["_law_alike","read_claims","_law_lists","_law_spelled_lines","_law_claims"]]
theorem ach:uZ.gm BN Np=J:=by rfl
end Tr
end
section
namespace K2
open PySem L2 L3
def wordsOf(l:M L):M (M L):=(bZ 32 l).filter λw=>!w.isEmpty
theorem KI:wordsOf []=[]:=rfl
def Nz(c:L)(l:M L):bZ c (c::l)=[]::bZ c l:=by
 show(if c=c then _ else _)=_;rw[aB rfl]
def GK(l:M L):wordsOf (32::l)=wordsOf l:=by
 unfold wordsOf;rw[Nz];rfl
def KJ(n:L)(l:M L):wordsOf (a8 n 32++l)=wordsOf l:=by
 induction n with
 |zero=>rfl
 |succ n ih=>rw[cI,C8,GK,ih]
def z_(w l:M L)(hw:w≠[])(h:32∉w):wordsOf (w++32::l)=w::wordsOf l:=by
 unfold wordsOf;rw[xo 32 w l h,uN];cases w with
 |nil=>exact aG rfl hw
 |cons a b=>rfl
noncomputable def rep(n:Int)(c:L):M L:=a8 n.toNat c
def cQ(a:Int){b:Int}(h:0<b):0<=a%b/\a%b<b:=#[l6 _ (by lia),mS _ h]
noncomputable def p9:M (M L):=[[97],[97,110],[116,104,101],[115,97,105,100],[99,108,97,105,109],[111,110],[111,114],[116,104,101,110],[102,114,111,109],[116,111],[111,102],[97,116],[108,101,97,115,116],[109,111,115,116],[106,117,115,116],[105,115]]
end K2
end
section
namespace K2
open PySem L2 L3 Tr
def f9(l:M Int):aF (l.map D.int)=l.map D.int:=l_ _ (λ_=>rfl) l
theorem qX:∀l:M Int,c9 (l.map D.int)=J
|[]=>rfl
|_::r=>qX r
def oK{α:Type}(l:M α)(k:L):cut l B (Y (k:Int))=l.take k:=by
 unfold cut;rw[HT.vW,HT.B7,rA,Nat.sub_zero];by_cases h:k<=l.length
 ·simp_all
 ·simp
def fu{α:Type}(l:M α)(k:L)(h:k<=l.length):cut l (Y (k:Int)) B=l.drop k:=by
 unfold cut;rw[HT.vW,HT.B7,Eg h,gC (by rw[fE];lia)]
def qY(a b:M L):strOf a++strOf b=strOf (a++b):=by
 have h:∀x y:Str,x.cps=y.cps->x=y:=λx y e=>by cases x;cases y;cases e;rfl
 refine h _ _ ?_;show a.toArray++b.toArray=(a++b).toArray;simp
def YF(n:L)(c:L):(⟨(a8 n [c]).flatten.toArray⟩:Str)=strOf (a8 n c):=by
 have e:(a8 n [c]).flatten=a8 n c:=by
  induction n with
  |zero=>rfl
  |succ n ih=>rw[cI,eK,ih];rfl
 rw[e];rfl
def jd(l:M L):(strOf l).length=l.length:=by
 rw[<-len_str];rfl
def wc(c:L)(j:Int)(h:0<=j/\j<100):fG .Mult (.str ⟨#[c]⟩) (.int j)=.ok (.str (strOf (rep j c))):=by
 have hs:=szl;have e:(⟨#[c]⟩:Str).length=1:=rfl;rw[IW #[h.1,by lia,by rw[e];lia]];show R.ok (D.str ⟨(a8 j.toNat [c]).flatten.toArray⟩)=_;rw[YF];rfl
def qZ(j:Int)(c:L):(rep j c).length=j.toNat:=by unfold rep;rw[wN]
def je(a b:M L)(h:a.length+b.length<=16777216):fG .Add (.str (strOf a)) (.str (strOf b))=.ok (.str (strOf (a++b))):=by
 have hs:=szl;rw[IV (by rw[jd,jd,hs];exact h),qY]
def jx{α:Type}(x:α)(r:M α):fQ (x::r) 0=Y x:=kG (j:=0) rfl
def nP{α:Type}(x y:α)(r:M α):fQ (x::y::r) 1=Y y:=kG (j:=1) rfl
def at2{α:Type}(x y z:α)(r:M α):fQ (x::y::z::r) 2=Y z:=kG (j:=2) rfl
def LP{α:Type}(x y z u:α)(r:M α):fQ (x::y::z::u::r) 3=Y u:=kG (j:=3) rfl
def Q_{α:Type}(x y z u v:α)(r:M α):fQ (x::y::z::u::v::r) 4=Y v:=kG (j:=4) rfl
def wD(w:M L):D:=.str (strOf w)
def cG(r:M (M L)):D:=.lst W (r.map wD)
def cZ(r:M (M L)):aF (r.map wD)=r.map wD:=l_ wD (λ_=>rfl) r
def Aa(r:M (M L)):bE (cG r)=cG r:=by
 show D.lst W (aF (r.map wD))=_;rw[cZ];rfl
def BR:au " "=⟨#[32]⟩:=by decide +kernel
def str_beq(x y:Str):(x==y)=decide (x=y):=by
 rw[iU];simp
def Ab{a b:M L}(h:strOf a=strOf b):a=b:=by
 have:=lC (λz:Str=>z.cps.toList) h;simpa[strOf]using this
def jy(a b:M L):(strOf a==strOf b)=decide (a=b):=by
 rw[str_beq];by_cases h:a=b
 ·subst h;simp
 ·rw[aN h,aN λz=>h (Ab z)]
noncomputable def p_(a b:L)(x:Str):Bool:=x.cps.toList.all λc=>decide (a<=c)&&decide (c<=b)
def Ac(x:Str)(a b:L):mz [.str x,.str ⟨#[a]⟩,.str ⟨#[b]⟩]=.ok (.bl (p_ a b x)):=by
 unfold mz ua DH;erw[];unfold vZ;rw[jv (λc:L=>D.str ⟨#[c]⟩) (λO=>∃o,O=[o,Y (D.str ⟨#[a]⟩),Y (D.str ⟨#[b]⟩)]) (λc=>D.bl (decide (a<=c)&&decide (c<=b))) x.cps.toList _ #[B,rfl] (by
  rintro c _ O ⟨o,rfl⟩;refine#[_,rfl,#[_,rfl],?_];erw[];rw[lt1,lt1];by_cases h1:c<a
  ·rw[aC h1,aN (show ¬a<=c by lia)];rfl
  ·rw[aN h1,aC (show a<=c by lia)];have e2:(!decide (b<c))=decide (c<=b):=by rw[iU];simp
   rw[e2];rfl)]
 erw[];have e1:(x.cps.toList.map (λc=>D.bl (decide (a<=c)&&decide (c<=b)))).all nZ=J:=by rw[jH];simp[nZ]
 have e2:(x.cps.toList.map (λc=>D.bl (decide (a<=c)&&decide (c<=b)))).all pJ=p_ a b x:=by
  rw[jH];unfold p_;congr 1;funext c;show pJ (D.bl (decide (a<=c)&&decide (c<=b)))=_;cases(decide (a<=c)&&decide (c<=b))<;>rfl
 rw[e1,e2];erw[]
def isWord(x:Str):Bool:=decide (1<=x.length)&&decide (x.length<=8)&&p_ 97 122 x&&!memD (.str x) dR
def rJ(x:Str):mD [.str x]=.ok (.bl (isWord x)):=by
 unfold mD zC Gd;erw[];have ea:(au "a")=⟨#[97]⟩:=by decide +kernel
 have ez:(au "z")=⟨#[122]⟩:=by decide +kernel
 rw[ea,ez];unfold isWord;by_cases h1:1<=x.length
 ·by_cases h2:x.length<=8
  ·rw[aC (show(1:Int)<=(x.length:Int)by lia),aC (show(x.length:Int)<=8 by lia),aC h1,aC h2];erw[];rw[Ac];erw[];have hk:kJ dR=J:=by decide +kernel
   have hz:aF dR=dR:=by rfl
   cases p_ 97 122 x with
   |false=>erw[]
   |true=>
    have e:cA .NotIn (.str x) (bE (D.cst dR))=.ok (.bl (!memD (.str x) dR)):=by
     have e0:bE (D.cst dR)=D.cst dR:=by
      show D.cst (aF dR)=_;rw[hz]
     rw[e0];show(R.bI (dY (.str x)&&kJ dR) (.ok (memD (.str x) dR))).bind (λb=>R.ok (D.bl (!b)))=_;rw[hk];rfl
    rw[e];erw[]
  ·rw[aC (show(1:Int)<=(x.length:Int)by lia),aN (show ¬(x.length:Int)<=8 by lia),aC h1,aN h2];erw[]
 ·rw[aN (show ¬(1:Int)<=(x.length:Int)by lia),aN h1];erw[]
def Jw{α:Type}(f:α->Str)(x:Str)(l:M α):memD (.str x) (l.map λa=>D.str (f a))=l.any λa=>f a==x:=by
 unfold memD;rw[AH];rfl
def LQ:dR=p9.map λw=>D.str (strOf w):=by
 have e1:dR=(["a","an","the","said","claim","on","or","then","from","to","of","at","least","most","just","is"]:M Str).map D.str:=rfl;have e2:(["a","an","the","said","claim","on","or","then","from","to","of","at","least","most","just","is"]:M Str)=p9.map strOf:=by decide +kernel
 rw[e1,e2,bW];rfl
def wl(x:Str):M (M L):=wordsOf x.cps.toList
def Ra(x:Str):(bZ 32 x.cps.toList).filter (λp=>!(strOf p==au ""))=wl x:=by
 unfold wl wordsOf;congr 1;funext p;have e:au ""=strOf []:=by decide +kernel
 cases p with
 |nil=>rw[e];simp
 |cons a b=>
  rw[e,str_beq,aN (λh=>by cases Ab h)];rfl
theorem g32:(#[32]:Array L).getD 0 0=32:=rfl
theorem g10:(#[10]:Array L).getD 0 0=10:=rfl
def Jx(c:L)(l:M L):aF (tY c l)=(bZ c l).map wD:=zp _
def NB(x:Str)(hx:x.length+2<=ah):sU [.str x]=.ok (.lst J ((wl x).map wD)):=by
 have sp1l:(⟨#[32]⟩:Str).length=1:=rfl;unfold sU xJ DH;erw[BR,g32,Jx];rw[kQ wD (λO=>∃o,O=[o]) (λp=>!(strOf p==au "")) wD (bZ 32 x.cps.toList) _ #[B,rfl] (by
  rintro p _ O ⟨o,rfl⟩;refine#[[Y (wD p)],rfl,#[_,rfl],?_,?_]
  ·unfold wD;erw[]
  ·unfold wD;erw[]),Ra]
 erw[]
def EJ(r:M (M L)):D:=.lst J (r.map wD)
def ug(x:Str):M (M (M L)):=(bZ 10 x.cps.toList).map wordsOf
def Rb(x:Str)(hx:x.length+2<=ah):uV [.str x]=.ok (.lst J ((ug x).map EJ)):=by
 have nll:(⟨#[10]⟩:Str).length=1:=rfl;have nl:au "\n"=⟨#[10]⟩:=by decide +kernel
 unfold uV zF Gc;erw[nl,g10,Jx];rw[jv wD (λO=>∃o,O=[o]) (λp=>EJ (wordsOf p)) (bZ 10 x.cps.toList) _ #[B,rfl] (by
  rintro p hp O ⟨o,rfl⟩;have hpl:=(sP 10 x.cps.toList).1 p hp;have q:=NB (strOf p) (by rw[jd];have:x.length=x.cps.toList.length:=(len_str x).symm;lia);refine#[[Y (wD p)],rfl,#[_,rfl],?_];unfold wD;erw[q];rfl)]
 erw[];unfold ug;rw[bW];rfl
end K2
end
section
namespace K2
open PySem L2 L3 Tr
open PySem.NumText
noncomputable def g6:L->L->M L
|0,m=>[48+m%10]
|k+1,m=>if m<10 then[48+m]else g6 k (m / 10)++[48+m%10]
def VF(l:M L)(c:L):digitsVal (l++[c])=digitsVal l*10+(c-48):=by
 unfold digitsVal;rw[Bh];rfl
theorem A0:∀(k m:L),m<10 ^ (k+1)->AllDigits (g6 k m)/\g6 k m≠[]/\(g6 k m).length<=k+1/\digitsVal (g6 k m)=m/\(m≠0->∀r,g6 k m≠48::r)/\(m=0->g6 k m=[48])
|0,m,h=>by
 have h:m<10:=by simpa using h
 show AllDigits [48+m%10]/\_;rw[uH h];refine#[λc hc=>by rw[aQ.mp hc];lia,by simp[g6],by simp[g6],?_,?_,?_]
 ·show digitsVal [48+m%10]=m;rw[uH h];show 0*10+(48+m-48)=m
  lia
 ·intro hm r e;have e:[48+m%10]=48::r:=e;rw[uH h]at e;have:=(lM e).1
  lia
 ·rintro rfl;rfl
|k+1,m,h=>by
 unfold g6;by_cases c:m<10
 ·rw[aB c];refine#[λc hc=>by rw[aQ.mp hc];lia,by simp,by simp,?_,?_,?_]
  ·show 0*10+(48+m-48)=m
   lia
  ·intro hm r e;have:=(lM e).1
   lia
  ·rintro rfl;rfl
 ·rw[aD c];let#[h1,h2,h3,h4,h5,_]:=A0 k (m / 10) (by
   have e:10 ^ (k+1+1)=10*10 ^ (k+1):=by rw[Nat.pow_succ,J9]
   rw[e]at h;exact Nat.div_lt_of_lt_mul h)
  refine#[λc hc=>?_,by simp,by simp;lia,?_,?_,λz=>by lia]
  ·rcases a6.mp hc with hc|hc
   ·exact h1 c hc
   ·rw[aQ.mp hc];lia
  ·rw[VF,h4];lia
  ·intro _ r e;cases q:g6 k (m / 10)with
   |nil=>exact h2 q
   |cons a b=>
    rw[q]at e;have:=(lM e).1;subst this;exact h5 (by lia) b q
def NC{c:L}(h:48<=c/\c<=57):(Eh c).toNat=c:=by
 let#[h1,h2]:=h;have:∀k:L,k<10->(Eh (48+k)).toNat=48+k:=by decide
 have q:=this (c-48) (by omega);rw[show 48+(c-48)=c by omega]at q;exact q
theorem BS:∀{l:M L},AllDigits l->(l.map Eh).map yf=l
|[],_=>rfl
|c::r,h=>by
 rw[dm,dm,NC h.head,BS h.tail]
def WT(m:L)(h:m<10 ^ 30):(AL 10 m).map yf=g6 29 m:=by
 let#[h1,h2,h3,h4,h5,h6]:=A0 29 m h;have e:=toDigits_all (g6 29 m) h1;rw[h4]at e;rw[e];by_cases hm:m=0
 ·rw[h6 hm];decide
 ·cases q:g6 29 m with
  |nil=>exact aG q h2
  |cons c r=>
   have hc:c≠48:=λz=>h5 hm r (by rw[q,z]);rw[List.dropWhile_cons,aD (by simpa using hc)];have z:=BS h1;rw[q]at z;exact z
def Jy(m:L)(h:m<10 ^ 30):nA (m:Int)=strOf (g6 29 m):=by
 have e:nA (m:Int)=⟨((AL 10 m).map yf).toArray⟩:=Kq m;rw[e,WT m h];rfl
def Jz(m:L)(h0:0<m)(h:m<10 ^ 30):nA (-(m:Int))=strOf (45::g6 29 m):=by
 obtain⟨k,rfl⟩:∃k,m=k+1:=#[m-1,by lia];have e4:=WT (k+1) h;have e1:(-((k+1:L):Int))=B6 k:=rfl;have e3:∀s:String,(au s).cps=(s.toList.map yf).toArray:=λs=>by
  rw[Str.ofString_eq_toList]
 have e5:(Kh (k+1)).toList=AL 10 (k+1):=by
  unfold Kh;simp
 rw[e1];have e2:toString (B6 k)="-"++Kh (k+1):=rfl;have:(au (toString (B6 k))).cps=(strOf (45::g6 29 (k+1))).cps:=by
  rw[e2,e3,String.toList_append,cC,e5,e4];rfl
 exact Str.ext' this
def Ad(x:Str):Bool:=decide (1<=x.length)&&decide (x.length<=30)&&p_ 48 57 x&&(x==au "0"||!([48].isPrefixOf x.cps.toList))
def Ae(x:Str):pU [.str x]=.ok (.bl (Ad x)):=by
 have e0:(au "0")=⟨#[48]⟩:=by decide +kernel
 have e9:(au "9")=⟨#[57]⟩:=by decide +kernel
 have q:=Ac x 48 57;unfold Ad;unfold pU t_ zU;by_cases h1:1<=x.length
 ·by_cases h2:x.length<=30
  ·have g1:=aC (show(1:Int)<=(x.length:Int)by lia);have g2:=aC (show(x.length:Int)<=30 by lia);rw[aC h1,aC h2];erw[g1,g2,e0,e9,q];cases p_ 48 57 x with
   |false=>erw[]
   |true=>
    cases hc:(x==(⟨#[48]⟩:Str))with
    |false=>erw[hc]
    |true=>erw[hc]
  ·have g1:=aC (show(1:Int)<=(x.length:Int)by lia);have g2:=aN (show ¬(x.length:Int)<=30 by lia);rw[aC h1,aN h2];erw[g1,g2]
 ·have g1:=aN (show ¬(1:Int)<=(x.length:Int)by lia);rw[aN h1];erw[g1]
def we(x:Str):Str:=if[45].isPrefixOf x.cps.toList then⟨(cut x.cps.toList (Y 1) B).toArray⟩else x
def LR(x:Str)(n:Int)(h:Ad (we x)=J)(h0:(x==au "-0")=W)(hl:x.length<=640)(hn:intText? x=Y n):dj [.str x]=.ok (.int n):=by
 have em:(au "-").cps.toList=[45]:=by decide +kernel
 have hi:kK .int [.str x]=.ok (.int n):=by
  show R.bI (decide (x.length<=640)) ((R.opt (intText? x)).bind λn=>R.ok (D.int n))=_;rw[aC hl,hn];rfl
 unfold we at h;unfold dj vF BE;cases c:[45].isPrefixOf x.cps.toList with
 |false=>
  rw[c,aD bq]at h;have q:=Ae x;rw[h]at q;erw[em,c,q,h0,hi]
 |true=>
  rw[c,aB rfl]at h;have q:=Ae ⟨(cut x.cps.toList (Y 1) B).toArray⟩;rw[h]at q;erw[em,c,q,h0,hi]
def VG{l:M L}(h:AllDigits l):p_ 48 57 (strOf l)=J:=by
 unfold p_;rw[cV];intro c hc;have:=h c hc;simp[this.1,this.2]
def Rc{c:L}{l:M L}(h:∀r,l≠c::r):[c].isPrefixOf l=W:=by
 cases l with
 |nil=>rfl
 |cons a r=>
  have:a≠c:=λz=>h r (by rw[z]);simp[Ei,fj this]
def LS(m:L)(h:m<10 ^ 30):Ad (strOf (g6 29 m))=J:=by
 let#[h1,h2,h3,h4,h5,h6]:=A0 29 m h;have l1:(strOf (g6 29 m)).length=(g6 29 m).length:=jd _;have l2:1<=(g6 29 m).length:=List.length_pos_iff.mpr h2;unfold Ad;rw[l1,aC l2,aC h3,VG h1];by_cases hm:m=0
 ·rw[h6 hm];have:(strOf [48]==au "0")=J:=by decide +kernel
  rw[this];rfl
 ·have:[48].isPrefixOf (strOf (g6 29 m)).cps.toList=W:=Rc (h5 hm);rw[this];simp
def WU{x:Str}{l:M L}(h:x=strOf l)(hl:l≠[45,48]):(x==au "-0")=W:=by
 have e:au "-0"=strOf [45,48]:=by decide +kernel
 rw[h,e,str_beq,aN λz=>hl (Ab z)]
def aci(n:Int)(h0:-(10 ^ 30)<n)(h1:n<10 ^ 30):dj [.str (nA n)]=.ok (.int n):=by
 by_cases hn:0<=n
 ·obtain⟨m,rfl⟩:∃m:L,n=(m:Int):=#[n.toNat,by lia];have hm:m<10 ^ 30:=by
   have:((10 ^ 30:L):Int)=10 ^ 30:=by decide
   lia
  let#[d1,d2,d3,d4,d5,d6]:=A0 29 m hm;have l1:(strOf (g6 29 m)).length=(g6 29 m).length:=jd _;have ef:we (strOf (g6 29 m))=strOf (g6 29 m):=by
   unfold we;rw[aD];rw[show(strOf (g6 29 m)).cps.toList=g6 29 m from rfl,Rc λr e=>by
    have:=d1 45 (by rw[e];simp)
    lia]
   decide
  rw[Jy m hm];refine LR _ _ (by rw[ef];exact LS m hm) (WU rfl λe=>?_) (by lia) ?_
  ·have:=d1 45 (by rw[e];simp)
   lia
  ·have q:=intText_digits (x:=strOf (g6 29 m)) d1 d2 (by lia);rw[q];show Y ((digitsVal (g6 29 m):L):Int)=_;rw[d4]
 ·obtain⟨m,rfl,hp⟩:∃m:L,n=-(m:Int)/\0<m:=#[(-n).toNat,by lia,by lia];have hm:m<10 ^ 30:=by
   have:((10 ^ 30:L):Int)=10 ^ 30:=by decide
   lia
  let#[d1,d2,d3,d4,d5,d6]:=A0 29 m hm;have l1:(strOf (45::g6 29 m)).length=(g6 29 m).length+1:=jd _;have ef:we (strOf (45::g6 29 m))=strOf (g6 29 m):=by
   unfold we;rw[aB (by show[45].isPrefixOf (45::g6 29 m)=J;simp[Ei])];show strOf (cut (45::g6 29 m) (Y ((1:L):Int)) B)=_;unfold cut;rw[HT.vW,HT.B7,Eg (by simp),List.drop_succ_cons,rA,gC (by simp)]
  rw[Jz m hp hm];refine LR _ _ (by rw[ef];exact LS m hm) (WU rfl λe=>?_) (by lia) ?_
  ·have e2:=(lM e).2;exact d5 (by lia) [] e2
  ·have q:=intText_neg (x:=strOf (45::g6 29 m)) rfl d1 d2 (by lia);rw[q,d4]
end K2
end
section
namespace K2
open PySem L2 L3 Tr
abbrev aaC(w:M L):Prop:=isWord (strOf w)=J
noncomputable def qg:M L:=[111,114]
def aL:M L:=[97]
noncomputable def b_:M L:=[116,104,101]
noncomputable def u6:M L:=[115,97,105,100]
def JA:M L:=[97,110]
def Th(w:M L):Prop:=w=b_\/w=u6
def An(w:M L):Prop:=w=aL\/w=JA
def gq:M L:=[97,116]
noncomputable def d_:M L:=[108,101,97,115,116]
noncomputable def om:M L:=[109,111,115,116]
noncomputable def l5:M L:=[106,117,115,116]
noncomputable def gu:M L:=[116,104,101,110]
def jf:M L:=[105,115]
def iH:M L:=[111,102]
noncomputable def eY:M L:=[102,114,111,109]
noncomputable def toL:M L:=[116,111]
noncomputable def b9:M L:=[99,108,97,105,109]
noncomputable def mE:M L:=[111,110]
def orS:au "or"=strOf qg:=by decide +kernel
def uh:au ""=strOf []:=by decide +kernel
def aaC.nk{w:M L}(h:aaC w){v:M L}(hv:v∈p9):(strOf w==strOf v)=W:=by
 rw[jy,aN];rintro rfl;unfold aaC isWord at h;rw[LQ,Jw]at h;have:(p9.any λa=>strOf a==strOf w)=J:=oO.mpr #[w,hv,by simp];rw[this]at h;simp at h
def aaC.ne{w:M L}(h:aaC w):(strOf w==strOf [])=W:=by
 rw[jy,aN];rintro rfl;revert h;decide +kernel
def vL(ws:M (M L))(o:Bool):j_ [.lst o (ws.map wD)]=.ok (.bl (ws.all λw=>isWord (strOf w))):=by
 have fr:=cZ ws;unfold j_ vJ BG;erw[fr];rw[jv wD (λO=>∃o,O=[o]) (λw=>D.bl (isWord (strOf w))) ws _ #[B,rfl] (by
  rintro w _ O ⟨o,rfl⟩;refine#[[Y (wD w)],rfl,#[_,rfl],?_];have q:=rJ (strOf w);unfold wD;erw[q])]
 erw[];have e1:(ws.map λw=>D.bl (isWord (strOf w))).all nZ=J:=by rw[jH];simp[nZ]
 have e2:(ws.map λw=>D.bl (isWord (strOf w))).all pJ=ws.all λw=>isWord (strOf w):=by
  rw[jH];congr 1;funext w;show pJ (D.bl (isWord (strOf w)))=_;cases isWord (strOf w)<;>rfl
 rw[e1,e2];erw[]
noncomputable def br(l k:M L):M (M L):=if l=[]then[k]else[l,k]
def fY(l k:M L):D:=.tup [wD l,wD k]
def gv(l k:M L):Prop:=(l=[]\/aaC l)/\aaC k
def aaC.nn{w:M L}(h:aaC w):w≠[]:=by
 rintro rfl;revert h;decide +kernel
def Ht{l k:M L}(h:gv l k):fS [cG (br l k)]=.ok (fY l k):=by
 have hs:=szl;let#[hl,hk]:=h;rcases hl with rfl|hl
 ·have q:j_ [.lst W [.str (strOf k)]]=.ok (.bl J):=by
   have q:=vL [k] W;rw[show([k].all λw=>isWord (strOf w))=J by simp[hk]]at q;exact q
  show fS [.lst W [.str (strOf k)]]=.ok (.tup [.str (strOf []),.str (strOf k)]);have e:fQ [D.str (strOf k)] (-1)=Y (.str (strOf k)):=rfl;unfold fS sR xN;erw[q,e,uh]
 ·have q:j_ [.lst W [.str (strOf l),.str (strOf k)]]=.ok (.bl J):=by
   have q:=vL [l,k] W;rw[show([l,k].all λw=>isWord (strOf w))=J by simp[hk,hl]]at q;exact q
  have e:fQ [D.str (strOf l),.str (strOf k)] (-1)=Y (.str (strOf k)):=rfl;unfold br;rw[aD hl.nn];show fS [.lst W [.str (strOf l),.str (strOf k)]]=.ok (.tup [.str (strOf l),.str (strOf k)]);unfold fS sR xN;erw[q,e,jx]
def bU:M (M L)->M (M L)
|[]=>[]
|[a]=>[a]
|a::r=>a::qg::bU r
def ch1(a:M L):gz [cG [a]]=.ok (.lst J [wD a]):=by kernel_rfl
def ch2(a b:M L):gz [cG [a,qg,b]]=.ok (.lst J [wD a,wD b]):=by kernel_rfl
def ch3(a b c:M L):gz [cG [a,qg,b,qg,c]]=.ok (.lst J [wD a,wD b,wD c]):=by kernel_rfl
def sf(ks:M (M L)):Prop:=(∀w∈ks,aaC w)/\(1<=ks.length/\ks.length<=3)/\(pe (ks.map strOf)).length=ks.length
def Rf(ks:M (M L))(h:1<=ks.length/\ks.length<=3):gz [cG (bU ks)]=.ok (.lst J (ks.map wD)):=by
 rcases ks with _|⟨a,_|⟨b,_|⟨c,_|⟨d,r⟩⟩⟩⟩
 ·exact aG h.1 (by decide)
 ·exact ch1 a
 ·exact ch2 a b
 ·exact ch3 a b c
 ·exact aG h.2 (by simp only[aT];lia)
theorem ly:∀l:M (M L),c9 (l.map wD)=J
|[]=>rfl
|_::r=>ly r
def EK{ks:M (M L)}(h:sf ks):gY [cG (bU ks)]=.ok (.lst J (ks.map wD)):=by
 have hs:=szl;let#[h1,h2,h3]:=h;have q:=Rf ks h2;have q2:=vL ks W;rw[show(ks.all λw=>isWord (strOf w))=J from cV.mpr h1]at q2;have fr:=Aa (bU ks);have fk:=cZ ks;have hl:decide (3<(ks.length:Int))=W:=aN (by lia);have hn:Dq (.lst W (ks.map wD))=.ok (.int (ks.length:Int)):=by
  rw[LK (ss:=ks.map strOf) (by
   have:∀l:M (M L),k9 (l.map wD)=Y (l.map strOf):=λl=>by
    induction l with
    |nil=>rfl
    |cons a r ih=>
     show(k9 (r.map wD)).map (strOf a::·)=_;rw[ih];rfl
   exact this ks) (by rw[ay];lia),h3]
 have ho:=ly ks;unfold gY uc zV;generalize cG (bU ks)=d at q fr ⊢;erw[q,q2,fr,fk,hl,hn,ho]
def q9(k:M L)(r:M (M L)):∃tl,bU (k::r)=k::tl:=by
 cases r with
 |nil=>exact#[_,rfl]
 |cons=>exact#[_,rfl]
def wg(n:Int)(c:Bool)(l:M L)(ks:M (M L)):D:=.tup [.str "parts",.int n,.bl c,wD l,.lst J (ks.map wD)]
def YG(c:Bool)(u l:M L)(n:Int)(hu:dj [.str (strOf u)]=.ok (.int n))(h1:1<=n)(h5:n<=5){ks:M (M L)}(hk:sf ks)(hl:aaC l):d9 [.bl c,cG (u::l::bU ks)]=.ok (wg n c l ks):=by
 have hs:=szl;have qk:=EK hk;let#[k1,k2,k3]:=hk;have ho:=ly ks;have fk:=cZ ks;obtain⟨k,tl,e,hw⟩:∃k tl,bU ks=k::tl/\aaC k:=by
  cases ks with
  |nil=>exact aG k2.1 (by decide)
  |cons k r=>let#[tl,e]:=q9 k r;exact#[k,tl,e,k1 k aj]
 rw[e]at qk ⊢;have ft:=cZ tl;have g1:=hw.nk (v:=qg) (by decide);have g2:=hl.ne;have g3:=aC h1;have g4:=aC h5;have g5:=rJ (strOf l);rw[hl]at g5;unfold wg;show d9 [.bl c,.lst W (.str (strOf u)::.str (strOf l)::.str (strOf k)::tl.map wD)]=.ok (.tup [.str "parts",.int n,.bl c,.str (strOf l),.lst J (ks.map wD)]);have qk:gY [.lst W (.str (strOf k)::tl.map wD)]=_:=qk;generalize tl.map wD=t at ft qk ⊢;have c2:cut (D.str (strOf u)::.str (strOf l)::.str (strOf k)::t) (Y 2) B=.str (strOf k)::t:=fu _ 2 (by simp);have l2:decide (((t.length+1+1+1:L):Int)<2)=W:=aN (by lia);have l3:decide (2<((t.length+1+1+1:L):Int))=J:=aC (by omega);unfold d9 mq pY;erw[ft,jx,nP,at2,hu,l2,l3,g1,g2,g3,g4,g5,c2,qk,orS,uh,fk,ho]
def YH(c:Bool)(u:M L)(n:Int)(hu:dj [.str (strOf u)]=.ok (.int n))(h1:1<=n)(h5:n<=5){ks:M (M L)}(hk:sf ks):d9 [.bl c,cG (u::bU ks)]=.ok (wg n c [] ks):=by
 have hs:=szl;have qk:=EK hk;let#[k1,k2,k3]:=hk;have ho:=ly ks;have fk:=cZ ks;have g3:=aC h1;have g4:=aC h5;unfold wg;rcases ks with _|⟨a,_|⟨b,r⟩⟩
 ·exact aG k2.1 (by decide)
 ·have qk:gY [.lst W [.str (strOf a)]]=.ok (.lst J [.str (strOf a)]):=qk;show d9 [.bl c,.lst W [.str (strOf u),.str (strOf a)]]=.ok (.tup [.str "parts",.int n,.bl c,.str (strOf []),.lst J [.str (strOf a)]]);have c2:cut [D.str (strOf u),.str (strOf a)] (Y 1) B=[.str (strOf a)]:=fu _ 1 (by simp);unfold d9 mq pY;erw[jx,nP,at2,hu,g3,g4,c2,qk,uh]
 ·obtain⟨tl,e⟩:∃tl,bU (a::b::r)=a::qg::tl:=#[_,rfl];rw[e]at qk ⊢;have ft:=cZ tl;show d9 [.bl c,.lst W (.str (strOf u)::.str (strOf a)::.str (strOf qg)::tl.map wD)]=.ok (.tup [.str "parts",.int n,.bl c,.str (strOf []),.lst J ((a::b::r).map wD)]);have qk:gY [.lst W (.str (strOf a)::.str (strOf qg)::tl.map wD)]=_:=qk;generalize tl.map wD=t at ft qk ⊢;generalize(a::b::r).map wD=ks at fk ho qk ⊢;have c2:cut (D.str (strOf u)::.str (strOf a)::.str (strOf qg)::t) (Y 1) B=.str (strOf a)::.str (strOf qg)::t:=fu _ 1 (by simp);have l2:decide (((t.length+1+1+1:L):Int)<2)=W:=aN (by lia);have l3:decide (2<((t.length+1+1+1:L):Int))=J:=aC (by omega);unfold d9 mq pY;erw[ft,jx,nP,at2,hu,l2,l3,g3,g4,c2,qk,orS,uh,fk,ho]
def aaR{th:M L}(h:Th th):cA .NotIn (.str (strOf th)) (bE (.cst uU))=.ok (.bl W):=by
 rcases h with rfl|rfl
 ·kernel_rfl
 ·kernel_rfl
def in_a{an:M L}(h:An an):cA .NotIn (.str (strOf an)) (bE (.cst Gb))=.ok (.bl W):=by
 rcases h with rfl|rfl
 ·kernel_rfl
 ·kernel_rfl
def aaS{v th l k:M L}(ht:Th th)(hv:aaC v)(h:gv l k):lO [cG (v::th::br l k)]=.ok (.tup [.str "then",wD v,fY l k]):=by
 have hs:=szl;have q:=Ht h;have g:=rJ (strOf v);rw[hv]at g;have gt:=aaR ht;have ft:=cZ (br l k);have q:fS [.lst W ((br l k).map wD)]=.ok (.tup [.str (strOf l),.str (strOf k)]):=q;show lO [.lst W (.str (strOf v)::.str (strOf th)::(br l k).map wD)]=.ok (.tup [.str "then",.str (strOf v),.tup [.str (strOf l),.str (strOf k)]]);generalize(br l k).map wD=t at q ft ⊢;have c2:cut (D.str (strOf v)::.str (strOf th)::t) (Y 2) B=t:=fu _ 2 (by simp);have l2:decide (((t.length+1+1:L):Int)<2)=W:=aN (by lia);unfold lO vG BI;erw[ft,jx,nP,l2,g,gt,c2,q]
def t_is{l k an:M L}{ks:M (M L)}(hn:An an)(h:gv l k)(hk:sf ks):oV [cG (br l k),cG (an::bU ks)]=.ok (.tup [.str "is",fY l k,.lst J (ks.map wD)]):=by
 have hs:=szl;have q:=Ht h;have qk:=EK hk;have ga:=in_a hn;have fr:=cZ (br l k);have ft:=cZ (bU ks);have ho:=ly ks;have fk:=cZ ks;have q:fS [.lst W ((br l k).map wD)]=.ok (.tup [.str (strOf l),.str (strOf k)]):=q;have qk:gY [.lst W ((bU ks).map wD)]=_:=qk;show oV [.lst W ((br l k).map wD),.lst W (.str (strOf an)::(bU ks).map wD)]=.ok (.tup [.str "is",.tup [.str (strOf l),.str (strOf k)],.lst J (ks.map wD)]);generalize(br l k).map wD=r at q fr ⊢;generalize(bU ks).map wD=t at qk ft ⊢;have c2:cut (D.str (strOf an)::t) (Y 1) B=t:=fu _ 1 (by simp);unfold oV zL Ge;erw[ft,fr,jx,ga,c2,q,qk,fk,ho]
def aaT{l k v l2 k2:M L}(h:gv l2 k2):kc [fY l k,wD v,cG (br l2 k2)]=.ok (.tup [.str "join",fY l k,wD v,fY l2 k2]):=by
 have hs:=szl;have q:=Ht h;have fr:=cZ (br l2 k2);have q:fS [.lst W ((br l2 k2).map wD)]=.ok (.tup [.str (strOf l2),.str (strOf k2)]):=q;show kc [.tup [.str (strOf l),.str (strOf k)],.str (strOf v),.lst W ((br l2 k2).map wD)]=.ok (.tup [.str "join",.tup [.str (strOf l),.str (strOf k)],.str (strOf v),.tup [.str (strOf l2),.str (strOf k2)]]);generalize(br l2 k2).map wD=r at q fr ⊢;unfold kc vH BH;erw[fr,q]
noncomputable def oD:aaV Int->D
|some n=>.int n
|none=>.non
abbrev oN(u:M L)(o:aaV Int):Prop:=dj [wD u]=.ok (oD o)
def Rg(o:aaV Int):jc (oD o)=o.isNone:=by cases o<;>rfl
def u7(o:aaV Int):bE (oD o)=oD o:=by cases o<;>rfl
abbrev NP:=M L×aaV Int
def fmD(p:NP):D:=if p.2.isNone=J then wD p.1 else .str (strOf [])
def u9(ps:M NP)(h:∀p∈ps,oN p.1 p.2):ee (pG (.name 0)) (λ_=>.ok J) (pE iY (.ite (.cmp .Is (.call 0 (.cons (.var 0) .nil)) (.con .non)) (.var 0) (.con (.str (strOf []))))) (ps.map λp=>wD p.1) [B]=.ok (ps.map fmD):=by
 refine jv (λp:NP=>wD p.1) (λO=>∃o,O=[o]) fmD ps _ #[B,rfl] ?_;rintro p hp O ⟨o,rfl⟩;refine#[[Y (wD p.1)],rfl,#[_,rfl],?_];have q:=h p hp;have e:=Rg p.2;unfold fmD;unfold oN wD at q;unfold iY wD;cases hn:p.2.isNone with
 |false=>rw[hn]at e;erw[q,e]
 |true=>rw[hn]at e;erw[q,e]
def u_(ps:M NP)(h:∀p∈ps,oN p.1 p.2):ee (pG (.name 0)) (pT iY (.cmp .IsNot (.call 0 (.cons (.var 0) .nil)) (.con .non))) (pE iY (.call 0 (.cons (.var 0) .nil))) (ps.map λp=>wD p.1) [B]=.ok ((ps.filter λp=>!p.2.isNone).map λp=>oD p.2):=by
 refine kQ (λp:NP=>wD p.1) (λO=>∃o,O=[o]) (λp=>!p.2.isNone) (λp=>oD p.2) ps _ #[B,rfl] ?_;rintro p hp O ⟨o,rfl⟩;have q:=h p hp;have e:=Rg p.2;unfold oN wD at q;refine#[[Y (wD p.1)],rfl,#[_,rfl],?_,?_]
 ·unfold iY wD;erw[q,e]
 ·unfold iY wD;erw[q,e]
def a9(n:Int):M L:=(nA n).cps.toList
def EL(n:Int):strOf (a9 n)=nA n:=by
 show(⟨(nA n).cps.toList.toArray⟩:Str)=_;rw[Array.toArray_toList]
def Num(n:Int):Prop:=-(10 ^ 30)<n/\n<10 ^ 30
def vc{n:Int}(h:Num n):oN (a9 n) (Y n):=by
 show dj [.str (strOf (a9 n))]=_;rw[EL];exact aci n h.1 h.2
def vd:aaV Int->aaV Int->M (M L)
|some a,B=>[gq,d_,a9 a]
|none,Y b=>[gq,om,a9 b]
|some a,Y b=>if a=b then[iH,a9 a]else[eY,a9 a,toL,a9 b]
|_,_=>[]
def um:aaV Int->aaV Int->Prop
|some a,B=>Num a
|none,Y b=>Num b
|some a,Y b=>Num a/\Num b/\a<=b
|_,_=>aR
def acj:oN iH B:=by kernel_rfl
def WV:oN gq B:=by kernel_rfl
def ack:oN d_ B:=by kernel_rfl
def acm:oN om B:=by kernel_rfl
def acn:oN eY B:=by kernel_rfl
def aco:oN toL B:=by kernel_rfl
def all2{α:Type}{p:α->Prop}{a b:α}(h1:p a)(h2:p b):∀x∈[a,b],p x:=by simp[h1,h2]
def xS{α:Type}{p:α->Prop}{a b c:α}(h1:p a)(h2:p b)(h3:p c):∀x∈[a,b,c],p x:=by simp[h1,h2,h3]
def VH{α:Type}{p:α->Prop}{a b c d:α}(h1:p a)(h2:p b)(h3:p c)(h4:p d):∀x∈[a,b,c,d],p x:=by simp[h1,h2,h3,h4]
def YI{a:Int}(h:Num a):cH [cG [iH,a9 a]]=.ok (.tup [.int a,.int a]):=by
 have hs:=szl;have A:∀p∈([(iH,B),(a9 a,Y a)]:M NP),oN p.1 p.2:=all2 acj (vc h);have f:ee _ _ _ [D.str (strOf iH),.str (strOf (a9 a))] [B]=R.ok [D.str (strOf iH),.str (strOf [])]:=u9 _ A;have g:ee _ _ _ [D.str (strOf iH),.str (strOf (a9 a))] [B]=R.ok [D.int a]:=u_ _ A;have e:cA .Eq (.lst W [D.str (strOf iH),.str (strOf [])]) (.lst J [.str "of",.str (strOf [])])=.ok (.bl J):=by kernel_rfl
 show cH [.lst W [.str (strOf iH),.str (strOf (a9 a))]]=_;unfold cH jU;erw[uh,f,g,e,jx]
def YJ{a:Int}(h:Num a):cH [cG [gq,d_,a9 a]]=.ok (.tup [.int a,.non]):=by
 have hs:=szl;have A:∀p∈([(gq,B),(d_,B),(a9 a,Y a)]:M NP),oN p.1 p.2:=xS WV ack (vc h);have f:ee _ _ _ [D.str (strOf gq),.str (strOf d_),.str (strOf (a9 a))] [B]=R.ok [D.str (strOf gq),.str (strOf d_),.str (strOf [])]:=u9 _ A;have g:ee _ _ _ [D.str (strOf gq),.str (strOf d_),.str (strOf (a9 a))] [B]=R.ok [D.int a]:=u_ _ A;have e:cA .Eq (.lst W [D.str (strOf gq),.str (strOf d_),.str (strOf [])]) (.lst J [.str "of",.str (strOf [])])=.ok (.bl W):=by kernel_rfl
 have e2:cA .Eq (.lst W [D.str (strOf gq),.str (strOf d_),.str (strOf [])]) (.lst J [.str "at",.str "least",.str (strOf [])])=.ok (.bl J):=by kernel_rfl
 show cH [.lst W [.str (strOf gq),.str (strOf d_),.str (strOf (a9 a))]]=_;unfold cH jU;erw[uh,f,g,e,e2,jx]
def YK{a:Int}(h:Num a):cH [cG [gq,om,a9 a]]=.ok (.tup [.non,.int a]):=by
 have hs:=szl;have A:∀p∈([(gq,B),(om,B),(a9 a,Y a)]:M NP),oN p.1 p.2:=xS WV acm (vc h);have f:ee _ _ _ [D.str (strOf gq),.str (strOf om),.str (strOf (a9 a))] [B]=R.ok [D.str (strOf gq),.str (strOf om),.str (strOf [])]:=u9 _ A;have g:ee _ _ _ [D.str (strOf gq),.str (strOf om),.str (strOf (a9 a))] [B]=R.ok [D.int a]:=u_ _ A;have e:cA .Eq (.lst W [D.str (strOf gq),.str (strOf om),.str (strOf [])]) (.lst J [.str "of",.str (strOf [])])=.ok (.bl W):=by kernel_rfl
 have e2:cA .Eq (.lst W [D.str (strOf gq),.str (strOf om),.str (strOf [])]) (.lst J [.str "at",.str "least",.str (strOf [])])=.ok (.bl W):=by kernel_rfl
 have e3:cA .Eq (.lst W [D.str (strOf gq),.str (strOf om),.str (strOf [])]) (.lst J [.str "at",.str "most",.str (strOf [])])=.ok (.bl J):=by kernel_rfl
 show cH [.lst W [.str (strOf gq),.str (strOf om),.str (strOf (a9 a))]]=_;unfold cH jU;erw[uh,f,g,e,e2,e3,jx]
def LU{a b:Int}(h:Num a)(h2:Num b)(hab:a<=b):cH [cG [eY,a9 a,toL,a9 b]]=.ok (.tup [.int a,.int b]):=by
 have hs:=szl;have A:∀p∈([(eY,B),(a9 a,Y a),(toL,B),(a9 b,Y b)]:M NP),oN p.1 p.2:=VH acn (vc h) aco (vc h2);have f:ee _ _ _ [D.str (strOf eY),.str (strOf (a9 a)),.str (strOf toL),.str (strOf (a9 b))] [B]=R.ok [D.str (strOf eY),.str (strOf []),.str (strOf toL),.str (strOf [])]:=u9 _ A;have g:ee _ _ _ [D.str (strOf eY),.str (strOf (a9 a)),.str (strOf toL),.str (strOf (a9 b))] [B]=R.ok [D.int a,.int b]:=u_ _ A;have e:cA .Eq (.lst W [D.str (strOf eY),.str (strOf []),.str (strOf toL),.str (strOf [])]) (.lst J [.str "of",.str (strOf [])])=.ok (.bl W):=by kernel_rfl
 have e2:cA .Eq (.lst W [D.str (strOf eY),.str (strOf []),.str (strOf toL),.str (strOf [])]) (.lst J [.str "at",.str "least",.str (strOf [])])=.ok (.bl W):=by kernel_rfl
 have e3:cA .Eq (.lst W [D.str (strOf eY),.str (strOf []),.str (strOf toL),.str (strOf [])]) (.lst J [.str "at",.str "most",.str (strOf [])])=.ok (.bl W):=by kernel_rfl
 have e4:cA .Eq (.lst W [D.str (strOf eY),.str (strOf []),.str (strOf toL),.str (strOf [])]) (.lst J [.str "from",.str (strOf []),.str "to",.str (strOf [])])=.ok (.bl J):=by kernel_rfl
 have le:=aC hab;show cH [.lst W [.str (strOf eY),.str (strOf (a9 a)),.str (strOf toL),.str (strOf (a9 b))]]=_;unfold cH jU;erw[uh,f,g,e,e2,e3,e4,jx,nP,le]
def VI{a b:aaV Int}(h:um a b):cH [cG (vd a b)]=.ok (.tup [oD a,oD b]):=by
 rcases a with _|a<;>rcases b with _|b
 ·exact h.elim
 ·exact YK h
 ·exact YJ h
 ·let#[h1,h2,h3]:=h;show cH [cG (if a=b then[iH,a9 a]else[eY,a9 a,toL,a9 b])]=_;by_cases e:a=b
  ·subst e;rw[aB rfl];exact YI h1
  ·rw[aD e];exact LU h1 h2 h3
def BdV(a b:aaV Int)(aaP:M (M L)):Prop:=aaP=vd a b\/∃n,a=Y n/\b=Y n/\aaP=[eY,a9 n,toL,a9 n]
def ND{a b:aaV Int}{aaP:M (M L)}(h:um a b)(hB:BdV a b aaP):cH [cG aaP]=.ok (.tup [oD a,oD b]):=by
 rcases hB with rfl|⟨n,rfl,rfl,rfl⟩
 ·exact VI h
 ·exact LU h.1 h.1 (K7 n)
def aaW{l k v:M L}{a b:aaV Int}{aaP:M (M L)}(h:um a b)(hB:BdV a b aaP):j9 [fY l k,wD v,cG aaP]=.ok (.tup [.str "size",fY l k,wD v,oD a,oD b]):=by
 have hs:=szl;have q:=ND h hB;have fa:=u7 a;have fb:=u7 b;have fr:=cZ aaP;have q:cH [.lst W (aaP.map wD)]=.ok (.tup [oD a,oD b]):=q;show j9 [.tup [.str (strOf l),.str (strOf k)],.str (strOf v),.lst W (aaP.map wD)]=.ok (.tup [.str "size",.tup [.str (strOf l),.str (strOf k)],.str (strOf v),oD a,oD b]);generalize aaP.map wD=r at q fr ⊢;have oa:be (oD a)=J:=by cases a<;>rfl
 have ob:be (oD b)=J:=by cases b<;>rfl
 unfold j9 vI BF;erw[fr,q,fa,fb,jx,nP,oa,ob]
def acp{c:bh->R Bool}{b:bh->Fl}(O:L->bh)(σ0:bh)(h0:O 0=σ0)(n N:L)(h:∀i<n,c (O i)=.ok J/\b (O i)=.nx (O (i+1)))(h2:c (O n)=.ok W)(hN:n<N):vE c b N σ0=.nx (O n):=by
 subst h0;have go:∀k i N,i+k=n->k<N->vE c b N (O i)=.nx (O n):=by
  intro k;induction k with
  |zero=>
   intro i N e hN;obtain⟨N,rfl⟩:∃m,N=m+1:=#[N-1,by lia];have e:i=n:=by omega
   subst e;show(c (O i)).a_ _=_;rw[h2];rfl
  |succ k ih=>
   intro i N e hN;obtain⟨N,rfl⟩:∃m,N=m+1:=#[N-1,by lia];show(c (O i)).a_ _=_;rw[(h i (by omega)).1];have q:=ih (i+1) N (by lia) (by lia);simp only[R.a_,(h i (by omega)).2,ie];exact q
 exact go n 0 N (by lia) hN
def VJ(r:M (M L))(i:L)(h:i<r.length):fQ (r.map wD) (i:Int)=Y (.str (strOf r[i])):=kG (by rw[bT,aH h];rfl)
def LV(ws t:M (M L))(hw:∀w∈ws,aaC w)(ht:∀x r,t=x::r->isWord (strOf x)=W)(hl:ws.length<900):fK [cG (ws++t)]=.ok (.int (ws.length:Int)):=by
 have hs:=szl;have fr:=cZ (ws++t);have ln:((ws++t).map wD).length=ws.length+t.length:=by rw[ay,ao]
 have hat:∀i<ws.length,∃w,aaC w/\fQ ((ws++t).map wD) (i:Int)=Y (.str (strOf w)):=λi hi=>#[ws[i],hw _ (jI hi),by
  rw[VJ _ i (by rw[ao];lia),List.getElem_append_left hi]]
 have hend:∀x r,t=x::r->fQ ((ws++t).map wD) (ws.length:Int)=Y (.str (strOf x)):=λx r e=>by
  subst e;rw[VJ _ ws.length (by simp),tu (aW _)];simp
 unfold fK j8 lZ nM cG;generalize(ws++t).map wD=R at fr ln hat hend;erw[fr];rw[acp (λi=>[Y (.lst W R),Y (.int (i:Int))]) [Y (.lst W R),Y (.int 0)] rfl ws.length 1000 (λi hi=>by
  let#[w,h1,h2]:=hat i hi;have q:=rJ (strOf w);rw[h1]at q;have g:decide ((i:Int)<(R.length:Int))=J:=aC (by lia);constructor
  ·erw[fr,g,h2,q]
  ·erw[];rfl) (by
  cases t with
  |nil=>
   have g:decide ((ws.length:Int)<(R.length:Int))=W:=aN (by rw[ln];simp);erw[fr,g]
  |cons x r=>
   have g:decide ((ws.length:Int)<(R.length:Int))=J:=aC (by rw[ln];simp;lia);have h2:=hend x r rfl;have q:=rJ (strOf x);rw[ht x r rfl]at q;erw[fr,g,h2,q]) (by lia)]
 erw[]
def k_is:isWord (strOf jf)=W:=by decide +kernel
def acq{th:M L}(h:Th th):isWord (strOf th)=W:=by
 rcases h with rfl|rfl
 ·decide +kernel
 ·decide +kernel
def k_of:isWord (strOf iH)=W:=by decide +kernel
def k_at:isWord (strOf gq)=W:=by decide +kernel
def aaX:isWord (strOf eY)=W:=by decide +kernel
def isS:au "is"=strOf jf:=by decide +kernel
def DQ{l k:M L}(h:gv l k):∀w∈br l k,aaC w:=by
 unfold br;let#[h1,h2]:=h;split
 ·intro w hw;rw[aQ.mp hw];exact h2
 ·rename_i e;rcases h1 with h1|h1
  ·exact aG h1 e
  ·intro w hw;rcases aM.mp hw with rfl|hw
   ·exact h1
   ·rw[aQ.mp hw];exact h2
def i9(l k:M L):1<=(br l k).length/\(br l k).length<=2:=by
 unfold br;split<;>simp
def YL{l k an:M L}{ks:M (M L)}(hn:An an)(h:gv l k)(hk:sf ks):dX [cG (br l k++jf::an::bU ks)]=.ok (.tup [.str "is",fY l k,.lst J (ks.map wD)]):=by
 have q:=LV (br l k) (jf::an::bU ks) (DQ h) (by intro x r e;cases e;exact k_is) (by have:=i9 l k;lia);have qi:=t_is hn h hk;have fr:=cZ (br l k++jf::an::bU ks);have f1:=cZ (br l k);have f2:=cZ (jf::an::bU ks);have ho:=ly (jf::an::bU ks);have c1:cut ((br l k++jf::an::bU ks).map wD) (Y ((br l k).length:Int)) B=(jf::an::bU ks).map wD:=by
  rw[fu _ _ (by simp),<-yI,qF (aW _),List.drop_length];rfl
 have c2:cut ((br l k++jf::an::bU ks).map wD) B (Y ((br l k).length:Int))=(br l k).map wD:=by
  rw[oK,<-G7,E4]
 have c3:cut ((jf::an::bU ks).map wD) (Y 1) B=(an::bU ks).map wD:=fu _ 1 (by simp);have i0:fQ ((jf::an::bU ks).map wD) 0=Y (.str (strOf jf)):=jx _ _;have ne:(((br l k).length:Int)==(((br l k++jf::an::bU ks).map wD).length:Int))=W:=by
  rw[cy,ay,ao,aT];omega
 have f3:=cZ (an::bU ks);have q:fK [.lst W ((br l k++jf::an::bU ks).map wD)]=_:=q;have qi:oV [.lst W ((br l k).map wD),.lst W ((an::bU ks).map wD)]=_:=qi;show dX [.lst W ((br l k++jf::an::bU ks).map wD)]=_;generalize(br l k++jf::an::bU ks).map wD=X at *;generalize(jf::an::bU ks).map wD=aap at *;generalize(br l k).map wD=Z at *;generalize(an::bU ks).map wD=aeo at *;generalize(br l k).length=n at *;unfold dX n_ rW;erw[q,fr,ne,c1,f2,i0,isS,c2,c3,f1,f3,qi,ho]
def JB{l k v x:M L}{t:M (M L)}{r:D}{aat:Bool}(h:gv l k)(hv:aaC v)(hx:isWord (strOf x)=W)(hi:(strOf x==strOf jf)=W)(hJ:cA .In (.str (strOf x)) (bE (.cst uU))=.ok (.bl aat))(q1:aat=J->kc [fY l k,wD v,cG t]=.ok r)(q2:aat=W->j9 [fY l k,wD v,cG (x::t)]=.ok r):dX [cG (br l k++v::x::t)]=.ok r:=by
 have hs:=szl;have hl:=i9 l k;have q:=LV (br l k++[v]) (x::t) (λw hw=>by
  rcases a6.mp hw with hw|hw
  ·exact DQ h w hw
  ·rw[aQ.mp hw];exact hv) (by intro x r e;cases e;exact hx) (by rw[ao,bJ];lia)
 have e:br l k++[v]++x::t=br l k++v::x::t:=by simp
 rw[e,ao,bJ]at q;have qr:=Ht h;have fr:=cZ (br l k++v::x::t);have f1:=cZ (br l k);have o1:=ly (x::t);have f2:=cZ t;have c1:cut ((br l k++v::x::t).map wD) (Y (((br l k).length+1:L):Int)) B=.str (strOf x)::t.map wD:=by
  rw[fu _ _ (by simp),<-yI,<-e,qF (by simp),nX (by simp)];rfl
 have c2:cut ((br l k++v::x::t).map wD) B (Y ((((br l k).length+1:L):Int)-1))=(br l k).map wD:=by
  rw[show(((br l k).length+1:L):Int)-1=((br l k).length:Int)by lia,oK,<-G7,E4]
 have i1:fQ ((br l k++v::x::t).map wD) ((((br l k).length+1:L):Int)-1)=Y (.str (strOf v)):=by
  rw[show(((br l k).length+1:L):Int)-1=((br l k).length:Int)by lia,VJ _ _ (by simp),tu (aW _)];simp
 have c3:cut (D.str (strOf x)::t.map wD) (Y 1) B=t.map wD:=fu _ 1 (by simp);have ne:((((br l k).length+1:L):Int)==(((br l k++v::x::t).map wD).length:Int))=W:=by
  rw[cy,ay,ao,aT,aT];lia
 have lt:decide ((((br l k).length+1:L):Int)<2)=W:=aN (by lia);have q:fK [.lst W ((br l k++v::x::t).map wD)]=_:=q;have qr:fS [.lst W ((br l k).map wD)]=.ok (.tup [.str (strOf l),.str (strOf k)]):=qr;have o1:c9 (t.map wD)=J:=o1;have q1:aat=J->kc [.tup [.str (strOf l),.str (strOf k)],.str (strOf v),.lst W (t.map wD)]=.ok r:=q1;have q2:aat=W->j9 [.tup [.str (strOf l),.str (strOf k)],.str (strOf v),.lst W (.str (strOf x)::t.map wD)]=.ok r:=q2;show dX [.lst W ((br l k++v::x::t).map wD)]=_;generalize(br l k++v::x::t).map wD=X at fr c1 c2 i1 ne q ⊢;generalize t.map wD=aap at o1 f2 c1 c3 q1 q2 ⊢;generalize(br l k).map wD=Z at f1 c2 qr ⊢;generalize(((br l k).length+1:L):Int)=n at q c1 c2 i1 ne lt ⊢;unfold dX n_ rW;cases aat with
 |true=>
  have q1:=q1 rfl;erw[q,fr,ne,c1,f2,o1,jx,isS,hi,lt,c2,f1,qr,hJ,i1,c3,q1]
 |false=>
  have q2:=q2 rfl;erw[q,fr,ne,c1,f2,o1,jx,isS,hi,lt,c2,f1,qr,hJ,i1,c3,q2]
def Rh{l k v th l2 k2:M L}(ht:Th th)(h:gv l k)(hv:aaC v)(h2:gv l2 k2):dX [cG (br l k++v::th::br l2 k2)]=.ok (.tup [.str "join",fY l k,wD v,fY l2 k2]):=by
 have k:=acq ht;have e:(strOf th==strOf jf)=W/\cA .In (.str (strOf th)) (bE (.cst uU))=.ok (.bl J):=by
  rcases ht with rfl|rfl
  ·exact#[by decide +kernel,by kernel_rfl]
  ·exact#[by decide +kernel,by kernel_rfl]
 exact JB (aat:=J) h hv k e.1 e.2 (λ_=>aaT h2) (by intro z;cases z)
def Ri{l k v:M L}{a b:aaV Int}{aaP:M (M L)}(h:gv l k)(hv:aaC v)(h2:um a b)(hB:BdV a b aaP):dX [cG (br l k++v::aaP)]=.ok (.tup [.str "size",fY l k,wD v,oD a,oD b]):=by
 have q:=aaW (l:=l) (k:=k) (v:=v) h2 hB;have key:∀x t,aaP=x::t->x∈[iH,gq,eY]->dX [cG (br l k++v::aaP)]=.ok (.tup [.str "size",fY l k,wD v,oD a,oD b]):=by
  intro x t e hx;rw[e]at q ⊢;have hh:isWord (strOf x)=W/\(strOf x==strOf jf)=W/\cA .In (.str (strOf x)) (bE (.cst uU))=.ok (.bl W):=by
   rcases aM.mp hx with rfl|hx
   ·exact#[k_of,by decide +kernel,by kernel_rfl]
   ·rcases aM.mp hx with rfl|hx
    ·exact#[k_at,by decide +kernel,by kernel_rfl]
    ·rw[aQ.mp hx];exact#[aaX,by decide +kernel,by kernel_rfl]
  exact JB (aat:=W) h hv hh.1 hh.2.1 hh.2.2 (by intro z;cases z) λ_=>q
 rcases hB with e0|⟨n,_,_,e0⟩
 case inr=>exact key _ _ e0 (by decide)
 rcases a with _|a<;>rcases b with _|b
 ·exact h2.elim
 ·exact key _ _ e0 (by decide)
 ·exact key _ _ e0 (by decide)
 ·by_cases e:a=b
  ·exact key iH [a9 a] (by rw[e0];show(if a=b then _ else _)=_;rw[aB e]) (by decide)
  ·exact key eY [a9 a,toL,a9 b] (by rw[e0];show(if a=b then _ else _)=_;rw[aD e]) (by decide)
section
variable{t:M D}{y:M L}{r:D} (ft:aF t=t)
include ft
theorem acr{an:M L}(hn:An an)(hl:t.length<=100)(q:d9 [.bl W,.lst W (.str (strOf [49])::t)]=.ok r):fT [.lst W (.str (strOf an)::t)]=.ok r:=by
 have hs:=szl;have e1:cA .In (.str (strOf an)) (bE (.cst Gb))=.ok (.bl J):=by
  rcases hn with rfl|rfl
  ·kernel_rfl
  ·kernel_rfl
 have n1:au "1"=strOf [49]:=by decide +kernel
 have c1:cut (D.str (strOf an)::t) (Y 1) B=t:=fu _ 1 (by simp);unfold fT k_ mY;erw[ft,jx,e1,c1,n1,q]
theorem Rj(q:d9 [.bl W,.lst W t]=.ok r):fT [.lst W (.str (strOf gq)::.str (strOf d_)::t)]=.ok r:=by
 have hs:=szl;have e1:cA .In (.str (strOf gq)) (bE (.cst Gb))=.ok (.bl W):=by kernel_rfl
 have c0:cut (D.str (strOf gq)::.str (strOf d_)::t) B (Y 2)=[.str (strOf gq),.str (strOf d_)]:=oK _ 2;have c1:cut (D.str (strOf gq)::.str (strOf d_)::t) (Y 2) B=t:=fu _ 2 (by simp);have e2:cA .Eq (.lst J [D.str (strOf gq),.str (strOf d_)]) (.lst J [.str "at",.str "least"])=.ok (.bl J):=by kernel_rfl
 unfold fT k_ mY;erw[ft,jx,e1,c0,e2,c1,q]
theorem VL(q:d9 [.bl J,.lst W (.str (strOf y)::t)]=.ok r):fT [.lst W (.str (strOf l5)::.str (strOf y)::t)]=.ok r:=by
 have hs:=szl;have e1:cA .In (.str (strOf l5)) (bE (.cst Gb))=.ok (.bl W):=by kernel_rfl
 have c0:cut (D.str (strOf l5)::.str (strOf y)::t) B (Y 2)=[.str (strOf l5),.str (strOf y)]:=oK _ 2;have c1:cut (D.str (strOf l5)::.str (strOf y)::t) (Y 1) B=.str (strOf y)::t:=fu _ 1 (by simp);have e2:cA .Eq (.lst J [D.str (strOf l5),.str (strOf y)]) (.lst J [.str "at",.str "least"])=.ok (.bl W):=by kernel_rfl
 have e3:(strOf l5==au "just")=J:=by decide +kernel
 unfold fT k_ mY;erw[ft,jx,e1,c0,e2,e3,c1,q]
theorem VM(q:lO [.lst W (.str (strOf y)::t)]=.ok r):fT [.lst W (.str (strOf gu)::.str (strOf y)::t)]=.ok r:=by
 have hs:=szl;have e1:cA .In (.str (strOf gu)) (bE (.cst Gb))=.ok (.bl W):=by kernel_rfl
 have c0:cut (D.str (strOf gu)::.str (strOf y)::t) B (Y 2)=[.str (strOf gu),.str (strOf y)]:=oK _ 2;have c1:cut (D.str (strOf gu)::.str (strOf y)::t) (Y 1) B=.str (strOf y)::t:=fu _ 1 (by simp);have e2:cA .Eq (.lst J [D.str (strOf gu),.str (strOf y)]) (.lst J [.str "at",.str "least"])=.ok (.bl W):=by kernel_rfl
 have e3:(strOf gu==au "just")=W:=by decide +kernel
 have e4:(strOf gu==au "then")=J:=by decide +kernel
 unfold fT k_ mY;erw[ft,jx,e1,c0,e2,e3,e4,c1,q]
theorem YM{th:M L}(ht:Th th)(q:dX [.lst W (.str (strOf y)::t)]=.ok r):fT [.lst W (.str (strOf th)::.str (strOf y)::t)]=.ok r:=by
 have hs:=szl;have c0:cut (D.str (strOf th)::.str (strOf y)::t) B (Y 2)=[.str (strOf th),.str (strOf y)]:=oK _ 2;have c1:cut (D.str (strOf th)::.str (strOf y)::t) (Y 1) B=.str (strOf y)::t:=fu _ 1 (by simp);have e:cA .In (.str (strOf th)) (bE (.cst Gb))=.ok (.bl W)/\cA .Eq (.lst J [D.str (strOf th),.str (strOf y)]) (.lst J [.str "at",.str "least"])=.ok (.bl W)/\(strOf th==au "just")=W/\(strOf th==au "then")=W/\cA .In (.str (strOf th)) (bE (.cst uU))=.ok (.bl J):=by
  rcases ht with rfl|rfl
  ·exact#[by kernel_rfl,by kernel_rfl,by decide +kernel,by decide +kernel,by kernel_rfl]
  ·exact#[by kernel_rfl,by kernel_rfl,by decide +kernel,by decide +kernel,by kernel_rfl]
 let#[e1,e2,e3,e4,e5]:=e;unfold fT k_ mY;erw[ft,jx,e1,c0,e2,e3,e4,e5,c1,q]
end
inductive Rw where
|parts (n:Int) (c:Bool) (l:M L) (ks:M (M L))
|join (l k v l2 k2:M L)
|size (l k v:M L) (a b:aaV Int)
|isa (l k:M L) (ks:M (M L))
|a_ (v l k:M L)
def jg(n:Int)(c:Bool):M (M L):=if c=J then[l5,a9 n]else if n=1 then[aL]else[gq,d_,a9 n]
noncomputable def jz(l:M L):M (M L):=if l=[]then[]else[l]
def Rw.words:Rw->M (M L)
|.parts n c l ks=>jg n c++(jz l++bU ks)
|.join l k v l2 k2=>b_::(br l k++v::b_::br l2 k2)
|.size l k v a b=>b_::(br l k++v::vd a b)
|.isa l k ks=>b_::(br l k++jf::aL::bU ks)
|.a_ v l k=>gu::v::b_::br l k
def Rw.val:Rw->D
|.parts n c l ks=>wg n c l ks
|.join l k v l2 k2=>.tup [.str "join",fY l k,wD v,fY l2 k2]
|.size l k v a b=>.tup [.str "size",fY l k,wD v,oD a,oD b]
|.isa l k ks=>.tup [.str "is",fY l k,.lst J (ks.map wD)]
|.a_ v l k=>.tup [.str "then",wD v,fY l k]
def Rw.Ok:Rw->Prop
|.parts n _ l ks=>(1<=n/\n<=5)/\(l=[]\/aaC l)/\sf ks
|.join l k v l2 k2=>gv l k/\aaC v/\gv l2 k2
|.size l k v a b=>gv l k/\aaC v/\um a b
|.isa l k ks=>gv l k/\sf ks
|.a_ v l k=>aaC v/\gv l k
def wj{ks:M (M L)}(h:sf ks):(bU ks).length<=5:=by
 let#[_,#[_,h],_]:=h;rcases ks with _|⟨a,_|⟨b,_|⟨c,_|⟨d,r⟩⟩⟩⟩
 ·simp[bU]
 ·simp[bU]
 ·simp[bU]
 ·simp[bU]
 ·exact aG h (by simp only[aT];lia)
def Af{n:Int}(h:1<=n/\n<=5):Num n:=by
 have:(5:Int)<10 ^ 30:=by decide
 exact#[by lia,by lia]
def ve(c:Bool)(u l:M L)(n:Int)(hu:dj [.str (strOf u)]=.ok (.int n))(h:1<=n/\n<=5){ks:M (M L)}(hk:sf ks)(hl:l=[]\/aaC l):d9 [.bl c,.lst W (.str (strOf u)::(jz l++bU ks).map wD)]=.ok (wg n c l ks):=by
 unfold jz;rcases hl with rfl|hl
 ·exact YH c u n hu h.1 h.2 hk
 ·rw[aD hl.nn];exact YG c u l n hu h.1 h.2 hk hl
def Ag(l k:M L)(t:M (M L)):∃y s,br l k++t=y::s:=by
 unfold br;split<;>exact#[_,_,rfl]
def EM{th:M L}(ht:Th th){ws:M (M L)}{r:D}(hne:∃y s,ws=y::s)(q:dX [cG ws]=.ok r):fT [cG (th::ws)]=.ok r:=by
 let#[y,s,rfl]:=hne;exact YM (cZ s) ht q
def Fx(w:M L):Prop:=w≠b_/\w≠aL/\w≠iH
def Ch(z w:M L)(us:M (M L)):Prop:=us=[w]\/(w=b_/\us=[u6])\/(w=aL/\us=[JA])\/(w=iH/\us=[eY,z,toL])
def Vs(z:M L):M (M L)->M (M L)->Prop
|[],ws=>ws=[]
|w::r,ws=>∃us ws',ws=us++ws'/\Ch z w us/\Vs z r ws'
theorem Vs.fx{z:M L}:∀(A:M (M L)) {aaP ws:M (M L)},(∀w∈A,Fx w)->Vs z (A++aaP) ws->∃ws',ws=A++ws'/\Vs z aaP ws'
|[],aaP,ws,_,h=>#[ws,rfl,h]
|w::A,aaP,ws,hA,h=>by
 let#[us,ws',rfl,hc,h]:=h;let#[ws2,rfl,h2]:=Vs.fx A (λw hw=>hA w (ai _ hw)) h;let#[f1,f2,f3]:=hA w aj;rcases hc with rfl|⟨e,_⟩|⟨e,_⟩|⟨e,_⟩
 ·exact#[ws2,rfl,h2]
 ·exact aG e f1
 ·exact aG e f2
 ·exact aG e f3
def Vs.all{z:M L}{A ws:M (M L)}(hA:∀w∈A,Fx w)(h:Vs z A ws):ws=A:=by
 let#[ws',e,h2]:=Vs.fx (aaP:=[]) A hA (by rw[bK];exact h);rw[e,show ws'=[]from h2,bK]
def Vs.th{z:M L}{aaP ws:M (M L)}(h:Vs z (b_::aaP) ws):∃th ws',Th th/\ws=th::ws'/\Vs z aaP ws':=by
 let#[us,ws',rfl,hc,h]:=h;rcases hc with rfl|⟨_,rfl⟩|⟨e,_⟩|⟨e,_⟩
 ·exact#[_,ws',.inl rfl,rfl,h]
 ·exact#[_,ws',.inr rfl,rfl,h]
 ·exact aG e (by decide)
 ·exact aG e (by decide)
def Vs.an{z:M L}{aaP ws:M (M L)}(h:Vs z (aL::aaP) ws):∃an ws',An an/\ws=an::ws'/\Vs z aaP ws':=by
 let#[us,ws',rfl,hc,h]:=h;rcases hc with rfl|⟨e,_⟩|⟨_,rfl⟩|⟨e,_⟩
 ·exact#[_,ws',.inl rfl,rfl,h]
 ·exact aG e (by decide)
 ·exact#[_,ws',.inr rfl,rfl,h]
 ·exact aG e (by decide)
def Vs.of{z:M L}{aaP ws:M (M L)}(h:Vs z (iH::aaP) ws):∃ws',(ws=iH::ws'\/ws=[eY,z,toL]++ws')/\Vs z aaP ws':=by
 let#[us,ws',rfl,hc,h]:=h;rcases hc with rfl|⟨e,_⟩|⟨e,_⟩|⟨_,rfl⟩
 ·exact#[ws',.inl rfl,h]
 ·exact aG e (by decide)
 ·exact aG e (by decide)
 ·exact#[ws',.inr rfl,h]
def aaC.fx{w:M L}(h:aaC w):Fx w:=by
 have k:∀v∈p9,w≠v:=λv hv z=>by
  have:=h.nk hv;rw[z,jy,aC rfl]at this;cases this
 exact#[k _ (by decide),k _ (by decide),k _ (by decide)]
def uo{n:Int}(h:Num n):Fx (a9 n):=by
 have q:dj [wD (a9 n)]=.ok (.int n):=vc h;refine#[λz=>?_,λz=>?_,λz=>?_]
 ·rw[z,show dj [wD b_]=.ok .non by kernel_rfl]at q;cases q
 ·rw[z,show dj [wD aL]=.ok .non by kernel_rfl]at q;cases q
 ·rw[z,show dj [wD iH]=.ok .non by kernel_rfl]at q;cases q
theorem Hu:∀(ks:M (M L)),(∀w∈ks,Fx w)->∀w∈bU ks,Fx w
|[],_=>by intro w hw;cases hw
|[a],h=>h
|a::b::r,h=>by
 intro w hw;rcases aM.mp hw with rfl|hw
 ·exact h _ aj
 ·rcases aM.mp hw with rfl|hw
  ·exact#[by decide,by decide,by decide]
  ·exact Hu (b::r) (λw hw=>h w (ai _ hw)) w hw
def Ah{l k:M L}(h:gv l k):∀w∈br l k,Fx w:=λw hw=>(DQ h w hw).fx
def WW{l:M L}{ks:M (M L)}(hl:l=[]\/aaC l)(hk:sf ks):∀w∈jz l++bU ks,Fx w:=by
 intro w hw;rcases a6.mp hw with hw|hw
 ·unfold jz at hw;rcases hl with rfl|hl
  ·cases hw
  ·rw[aD hl.nn]at hw;rw[aQ.mp hw];exact hl.fx
 ·exact Hu ks (λw hw=>(hk.1 w hw).fx) w hw
noncomputable def qh(aaQ:M (M L)):M L:=aaQ.getLastD []
def Rw.Vr(w:Rw)(ws:M (M L)):Prop:=Vs (qh w.words) w.words ws\/∃l ks,w=.parts 1 W l ks/\ws=gq::d_::[49]::(jz l++bU ks)
def acs(w:Rw)(h:w.Ok){ws:M (M L)}(hv:w.Vr ws):fT [cG ws]=.ok w.val:=by
 rcases hv with hv|⟨l,ks,rfl,rfl⟩
 case inr=>
  let#[h1,h2,h3]:=h;exact Rj (cZ ([49]::(jz l++bU ks))) (ve W [49] l 1 (by kernel_rfl) h1 h3 h2)
 cases w with
 |parts n c l ks=>
  let#[h1,h2,h3]:=h;have hl:((jz l++bU ks).map wD).length<=100:=by
   have:=wj h3;rw[ay,ao];unfold jz;split<;>simp<;>lia
  have ft:=cZ (jz l++bU ks);have hu:dj [.str (strOf (a9 n))]=.ok (.int n):=vc (Af h1);have fx:=WW h2 h3;have fn:=uo (Af h1);generalize qh (Rw.words (.parts n c l ks))=z at hv;have hv:Vs z (jg n c++(jz l++bU ks)) ws:=hv;unfold jg at hv;cases c with
  |true=>
   rw[aB rfl]at hv;let#[ws',rfl,hv1]:=Vs.fx [l5,a9 n] (by simpa using#[#[by decide,by decide,by decide],fn]) hv;rw[Vs.all fx hv1];exact VL ft (ve J _ l n hu h1 h3 h2)
  |false=>
   rw[aD (by decide)]at hv;by_cases e:n=1
   ·subst e;rw[aB rfl]at hv;let#[an,ws',hn,rfl,hv1]:=Vs.an hv;rw[Vs.all fx hv1];exact acr ft hn hl (ve W [49] l 1 (by kernel_rfl) h1 h3 h2)
   ·rw[aD e]at hv;let#[ws',rfl,hv2]:=Vs.fx [gq,d_,a9 n] (by simpa using#[#[by decide,by decide,by decide],#[by decide,by decide,by decide],fn]) hv;rw[Vs.all fx hv2];exact Rj (cZ (a9 n::(jz l++bU ks))) (ve W _ l n hu h1 h3 h2)
 |join l k v l2 k2=>
  let#[th,ws1,ht,rfl,hv1]:=Vs.th hv;let#[ws2,rfl,hv2]:=Vs.fx _ (Ah h.1) hv1;let#[ws3,rfl,hv3]:=Vs.fx [v] (by simpa using h.2.1.fx) hv2;let#[th2,ws4,ht2,rfl,hv4]:=Vs.th hv3;rw[Vs.all (Ah h.2.2) hv4];exact EM ht (Ag l k _) (Rh ht2 h.1 h.2.1 h.2.2)
 |size l k v a b=>
  let#[th,ws1,ht,rfl,hv1]:=Vs.th hv;let#[ws2,rfl,hv2]:=Vs.fx _ (Ah h.1) hv1;let#[ws3,rfl,hv3]:=Vs.fx [v] (by simpa using h.2.1.fx) hv2;refine EM ht (Ag l k _) (Ri h.1 h.2.1 h.2.2 (aaP:=ws3) ?_);have hb:=h.2.2;have fd:∀w∈[gq,d_,om,eY,toL],Fx w:=by
   intro w hw;simp only[aM,aP,CY]at hw;rcases hw with rfl|rfl|rfl|rfl|rfl<;>exact#[by decide,by decide,by decide]
  rcases a with _|a<;>rcases b with _|b
  ·exact hb.elim
  ·exact .inl (Vs.all (xS (fd _ (by decide)) (fd _ (by decide)) (uo hb)) hv3)
  ·exact .inl (Vs.all (xS (fd _ (by decide)) (fd _ (by decide)) (uo hb)) hv3)
  ·let#[h1,h2,h3]:=hb;by_cases e:a=b
   ·subst e;have ew:vd (Y a) (Y a)=[iH,a9 a]:=by show(if a=a then _ else _)=_;rw[aB rfl]
    have hz:qh (Rw.words (.size l k v (Y a) (Y a)))=a9 a:=by
     show qh (b_::(br l k++v::vd (Y a) (Y a)))=_;rw[ew];rw[show b_::(br l k++v::[iH,a9 a])=(b_::(br l k++[v,iH]))++[a9 a]by simp];unfold qh;rw[tw,List.getLast?_concat];rfl
    rw[hz]at hv3;have hv3:Vs (a9 a) (vd (Y a) (Y a)) ws3:=hv3;rw[ew]at hv3;let#[ws4,q,hv4]:=Vs.of hv3;have e4:ws4=[a9 a]:=Vs.all (by simpa using uo h1) hv4;rw[e4]at q;rcases q with rfl|rfl
    ·exact .inl ew.symm
    ·exact .inr #[a,rfl,rfl,rfl]
   ·have ew:vd (Y a) (Y b)=[eY,a9 a,toL,a9 b]:=by show(if a=b then _ else _)=_;rw[aD e]
    have hv4:Vs (qh (Rw.words (.size l k v (Y a) (Y b)))) (vd (Y a) (Y b)) ws3:=hv3;rw[ew]at hv4;exact .inl (by rw[ew];exact Vs.all (VH (fd _ (by decide)) (uo h1) (fd _ (by decide)) (uo h2)) hv4)
 |isa l k ks=>
  let#[th,ws1,ht,rfl,hv1]:=Vs.th hv;let#[ws2,rfl,hv2]:=Vs.fx _ (Ah h.1) hv1;let#[ws3,rfl,hv3]:=Vs.fx [jf] (by simpa using#[by decide,by decide,by decide]) hv2;let#[an,ws4,hn,rfl,hv4]:=Vs.an hv3;rw[Vs.all (Hu ks λw hw=>(h.2.1 w hw).fx) hv4];exact EM ht (Ag l k _) (YL hn h.1 h.2)
 |a_ v l k=>
  let#[ws1,rfl,hv1]:=Vs.fx [gu,v] (by simpa using#[#[by decide,by decide,by decide],h.1.fx]) hv;let#[th,ws2,ht,rfl,hv2]:=Vs.th hv1;rw[Vs.all (Ah h.2) hv2];exact VM (cZ (th::br l k)) (aaS ht h.1 h.2)
def Rk(ns:M Int)(k:L)(hk:k<=1000):∃c:Int,oJ [dN ns,.int (k:Int)]=.ok (.int c):=by
 have fi:=f9 ns;unfold oJ CD DH dN;by_cases h:k<ns.length
 ·refine#[ns[k],?_];have l:decide ((k:Int)<(((ns.map D.int).length:L):Int))=J:=aC (by rw[ay];lia);have h0:fQ (ns.map D.int) (k:Int)=Y (.int ns[k]):=kG (by rw[bT,aH h];rfl);generalize ns.map D.int=X at fi l h0 ⊢;erw[fi,l,h0]
 ·refine#[2377*((k:Int)+1),?_];have l:decide ((k:Int)<(((ns.map D.int).length:L):Int))=W:=aN (by rw[ay];omega);generalize ns.map D.int=X at fi l ⊢;erw[fi,l]
def tK(c k:Int)(hk:0<=k/\k<=1000):∃m:Int,0<=m/\m<800000000/\oW [.int c,.int k]=.ok (.int m):=by
 have b1:=cQ c (b:=2147483647) (by decide);obtain⟨o,ho⟩:∃o,o=(c%2147483647+7919*k+1)*48271%2147483647:=#[_,rfl];have b2:=cQ ((c%2147483647+7919*k+1)*48271) (b:=2147483647) (by decide);rw[<-ho]at b2;have b3:=cQ o (b:=1009) (by decide);have b4:=cQ (o*(o%1009+1)) (b:=2147483629) (by decide);refine#[o*(o%1009+1)%2147483629 / 3,by lia,by lia,?_];unfold oW zM DH;erw[];rw[<-ho]
noncomputable def vf(s:Int):L:=[98,103,107,112,113,118,119,120,121,122].getD (s / 8%10).toNat 98
def lw(s w:Int):M L:=if s%8=0 then[97+(1+(s / 8+3*w)%25).toNat]else rep (s / 80%(1+s%8)) (vf s)++(97+((s / 640+5*w)%26).toNat)::rep (s%8-s / 80%(1+s%8)) (vf s)
def WX(i:Int)(h0:0<=i)(h1:i<26):fQ (au "abcdefghijklmnopqrstuvwxyz").cps.toList i=Y (97+i.toNat):=by
 have e:(au "abcdefghijklmnopqrstuvwxyz").cps.toList=(bH 26).map (97+·):=by decide +kernel
 have hi:i=(i.toNat:Int):=by lia
 have q:=kG (xs:=(bH 26).map (97+·)) (j:=i.toNat) (v:=97+i.toNat) (by
  rw[bT,qH (by lia)];rfl)
 rw[e];rw[<-hi]at q;exact q
def YN(s:Int)(h0:0<=s):fQ (au "bgkpqvwxyz").cps.toList (s / 8%10)=Y (vf s):=by
 have e:(au "bgkpqvwxyz").cps.toList=[98,103,107,112,113,118,119,120,121,122]:=by decide +kernel
 have b:=cQ (s / 8) (b:=10) (by decide);rw[e];unfold vf;generalize s / 8%10=i at b ⊢;obtain⟨n,rfl,hn⟩:∃n:L,i=(n:Int)/\n<10:=#[i.toNat,by lia,by lia];have q:∀n<10,([98,103,107,112,113,118,119,120,121,122]:M L)[n]?=Y ([98,103,107,112,113,118,119,120,121,122].getD n 98):=by decide
 exact kG (q n hn)
def YO(s:Int):vf s∈[98,103,107,112,113,118,119,120,121,122]:=by
 have b:=cQ (s / 8) (b:=10) (by decide);have q:∀n<10,([98,103,107,112,113,118,119,120,121,122]:M L).getD n 98∈[98,103,107,112,113,118,119,120,121,122]:=by decide
 exact q _ (by lia)
def JC(s w:Int)(h0:0<=s)(hw:0<=w):aaC (lw s w):=by
 have r:=YO s;have m8:=cQ s (b:=8) (by decide);have hl:1<=(lw s w).length/\(lw s w).length<=8:=by
  unfold lw;split
  ·simp
  ·have msp:=cQ (s / 80) (b:=1+s%8) (by omega);simp only[ao,aT,qZ];omega
 have ha:∀c∈lw s w,97<=c/\c<=122:=by
  have hr:97<=vf s/\vf s<=122:=by
   revert r;generalize vf s=x;revert x;simp
  have m25:=cQ (s / 8+3*w) (b:=25) (by decide);have m26:=cQ (s / 640+5*w) (b:=26) (by decide);intro c hc;unfold lw at hc;split at hc
  ·rw[aQ.mp hc];lia
  ·rcases a6.mp hc with h|h
   ·rw[(mT.mp h).2];omega
   ·rcases aM.mp h with rfl|h
    ·lia
    ·rw[(mT.mp h).2];omega
 have hk:lw s w∉p9:=by
  intro h;have m25:=cQ (s / 8+3*w) (b:=25) (by decide);have q1:∀w∈p9,∀c∈[98,103,107,112,113,118,119,120,121,122],c∉w:=by decide
  have q3:∀w∈p9,∀a,w=[a]->a=97:=by
   intro w hw a e;have h2:∀w∈p9,(match w with|[a]=>decide (a=97)|_=>J)=J:=by decide
   have:=h2 w hw;rw[e]at this;simpa using this
  by_cases c:s%8=0
  ·unfold lw at h;rw[aB c]at h;have:=q3 _ h _ rfl
   lia
  ·refine q1 _ h _ r ?_;have msp:=cQ (s / 80) (b:=1+s%8) (by omega);unfold lw;rw[aD c,a6,aM];by_cases z:0<s / 80%(1+s%8)
   ·exact .inl (mT.mpr #[by omega,rfl])
   ·exact .inr (.inr (mT.mpr #[by omega,rfl]))
 unfold aaC isWord;rw[jd,aC hl.1,aC hl.2];have h1:p_ 97 122 (strOf (lw s w))=J:=by
  unfold p_;rw[cV];intro c hc;have:=ha c hc;rw[aC this.1,aC this.2];rfl
 have h2:memD (.str (strOf (lw s w))) dR=W:=by
  rw[LQ,Jw,nE];intro v hv h;rw[jy,cK]at h;exact hk (h▸hv)
 rw[h1,h2];rfl
def Ai(s w:Int)(h0:0<=s)(hw:0<=w/\w<1000):kg [.int s,.int w]=.ok (wD (lw s w)):=by
 have hs:=szl;have m8:=cQ s (b:=8) (by decide);have m25:=cQ (s / 8+3*w) (b:=25) (by decide);have m26:=cQ (s / 640+5*w) (b:=26) (by decide);have msp:=cQ (s / 80) (b:=1+s%8) (by omega);have l1:=WX (1+(s / 8+3*w)%25) (by lia) (by lia);have l2:=WX ((s / 640+5*w)%26) m26.1 m26.2;have l3:=YN s h0;have e1:1+s%8-1-s / 80%(1+s%8)=s%8-s / 80%(1+s%8):=by lia
 have hd:∀j:Int,0<j->j<10000->xg s j:=λj h1 h2=>#[h1,by lia];have d1:=hd 8 (by decide) (by decide);have d2:=hd 80 (by decide) (by decide);have d3:=hd 640 (by decide) (by decide);unfold wD lw;unfold kg CF DH;by_cases c:s%8=0
 ·have g:((1+s%8:Int)==1)=J:=by rw[lG];lia
  rw[aB c];erw[g,l1];rfl
 ·have g:((1+s%8:Int)==1)=W:=by rw[cy];lia
  rw[aD c];erw[g,l2,l3];rw[wc _ _ (by omega),e1];erw[];rw[wc _ _ (by omega),show(⟨#[97+((s / 640+5*w)%26).toNat]⟩:Str)=strOf [97+((s / 640+5*w)%26).toNat]from rfl,je _ _ (by simp only[qZ,aT,iV];lia)];erw[];rw[je _ _ (by simp only[qZ,aT,iV,ao];omega)];erw[];rw[bx];rfl
def NF(s w:Int)(j:Int)(hj:j=1\/j=2)(h:lw s w=lw s (w+j)):aR:=by
 unfold lw at h;by_cases c:s%8=0
 ·rw[aB c,aB c]at h;have a:=cQ (s / 8+3*w) (b:=25) (by decide);have b:=cQ (s / 8+3*(w+j)) (b:=25) (by decide);have:=(lM h).1
  lia
 ·rw[aD c,aD c]at h;have a:=cQ (s / 640+5*w) (b:=26) (by decide);have b:=cQ (s / 640+5*(w+j)) (b:=26) (by decide);have:=(lM (List.append_cancel_left h)).1
  lia
def jh(s d:Int):M (M L):=(bH (1+d%3).toNat).map λ(i:L)=>lw s (d / 3%26+(i:Int))
def JD(s d:Int)(h0:0<=s)(hd:0<=d):sf (jh s d):=by
 have m3:=cQ d (b:=3) (by decide);have m26:=cQ (d / 3) (b:=26) (by decide);refine#[λw hw=>?_,#[?_,?_],?_]
 ·let#[i,_,rfl]:=b7.mp hw;exact JC _ _ h0 (by lia)
 ·unfold jh;rw[ay,kF];omega
 ·unfold jh;rw[ay,kF];lia
 ·have n1:=NF s (d / 3%26) 1 (.inl rfl);have n2:=NF s (d / 3%26) 2 (.inr rfl);have n3:=NF s (d / 3%26+1) 1 (.inl rfl);rw[show d / 3%26+1+1=d / 3%26+2 by lia]at n3;have e:jh s d=if d%3=0 then[lw s (d / 3%26)]else if d%3=1 then[lw s (d / 3%26),lw s (d / 3%26+1)]else[lw s (d / 3%26),lw s (d / 3%26+1),lw s (d / 3%26+2)]:=by
   unfold jh;by_cases c0:d%3=0
   ·rw[c0,aB rfl];show[lw s (d / 3%26+0)]=_;rw[AM]
   ·rw[aD c0];by_cases c1:d%3=1
    ·rw[c1,aB rfl];show[lw s (d / 3%26+0),lw s (d / 3%26+1)]=_;rw[AM]
    ·rw[aD c1,show d%3=2 by lia];show[lw s (d / 3%26+0),lw s (d / 3%26+1),lw s (d / 3%26+2)]=_;rw[AM]
  rw[e];have b1:(strOf (lw s (d / 3%26))==strOf (lw s (d / 3%26+1)))=W:=by rw[jy,aN n1]
  have b2:(strOf (lw s (d / 3%26))==strOf (lw s (d / 3%26+2)))=W:=by rw[jy,aN n2]
  have b3:(strOf (lw s (d / 3%26+1))==strOf (lw s (d / 3%26+2)))=W:=by rw[jy,aN n3]
  generalize lw s (d / 3%26)=x at b1 b2 ⊢;generalize lw s (d / 3%26+1)=y at b1 b3 ⊢;generalize lw s (d / 3%26+2)=z at b2 b3 ⊢;split
  ·rfl
  ·split
   ·simp[pe,nj,b1]
   ·simp[pe,nj,b1,b2,b3]
def Rl(s d:Int)(h0:0<=s)(hd:0<=d/\d<800000000):xP [.int s,.int d]=.ok (.lst J ((jh s d).map wD)):=by
 have hs:=szl;have m3:=cQ d (b:=3) (by decide);have m26:=cQ (d / 3) (b:=26) (by decide);unfold xP CH Jj jh;erw[];unfold jX;rw[jv (λi:L=>D.int (0+(i:Int))) (λO=>∃o,O=[o,Y (.int s),Y (.int d)]) (λi=>wD (lw s (d / 3%26+(i:Int)))) (bH (1+d%3).toNat) _ #[B,rfl] (by
  rintro i hi O ⟨o,rfl⟩;have hi:=iz.mp hi;have q:=Ai s (d / 3%26+(i:Int)) h0 (by lia);refine#[[Y (.int (0+(i:Int))),Y (.int s),Y (.int d)],rfl,#[_,rfl],?_];rw[Kl];erw[q])]
 erw[];rw[bW];rfl
def LW(s d:Int)(h0:0<=s)(hd:0<=d/\d<800000000):∃l k,gv l k/\qW [.int s,.int d]=.ok (fY l k):=by
 have hs:=szl;have m1:=cQ (d / 2) (b:=26) (by decide);have m2:=cQ (d / 52) (b:=26) (by decide);have q1:kg [.int s,.int (d / 2%26)]=.ok (.str _):=Ai s (d / 2%26) h0 (by lia);have q2:kg [.int s,.int (d / 52%26)]=.ok (.str _):=Ai s (d / 52%26) h0 (by lia);have w1:=JC s (d / 2%26) h0 (by lia);have w2:=JC s (d / 52%26) h0 (by lia);by_cases c:d%2=1
 ·refine#[_,_,#[.inr w1,w2],?_];have g:(d%2==1)=J:=by rw[lG];exact c
  unfold qW AZ EI fY wD;erw[g,q1,q2]
 ·refine#[[],_,#[.inl rfl,w2],?_];have g:(d%2==1)=W:=by rw[cy];exact c
  unfold qW AZ EI fY wD;erw[g,q2,uh]
def NG(x y z i:Int)(h:0<=i/\i<3):fQ [D.int x,.int y,.int z] i=Y (.int (if i=0 then x else if i=1 then y else z)):=by
 let#[h0,h1]:=h;by_cases c0:i=0
 ·rw[aB c0,c0];exact jx _ _
 ·rw[aD c0];by_cases c1:i=1
  ·rw[aB c1,c1];exact nP _ _ _
  ·rw[aD c1,show i=2 by lia];exact at2 _ _ _ _
def NH(c d:Int)(hd:0<=d/\d<800000000):∃a b,um a b/\pZ [.int c,.int d]=.ok (.tup [oD a,oD b]):=by
 have hs:=szl;have p30:fG .Pow (.int 10) (.int 30)=.ok (.int 1000000000000000000000000000000):=by kernel_rfl
 have p20:fG .Pow (.int 10) (.int 20)=.ok (.int 100000000000000000000):=by kernel_rfl
 have m3:=cQ (d / 5) (b:=3) (by decide);have m5:=cQ d (b:=5) (by decide);have m7:=cQ (d / 15) (b:=7) (by decide);have n3:=cQ (d / 105) (b:=3) (by decide);have c30:=cQ c (b:=1000000000000000000000000000000) (by decide);have c20:=cQ c (b:=100000000000000000000) (by decide);have a1:=NG (d%5-2) (c%1000000000000000000000000000000) (0-c%1000000000000000000000000000000) (d / 5%3) m3;have a2:=NG 0 (1+d / 15%7) (c%100000000000000000000) (d / 105%3) n3;obtain⟨lo,elo⟩:∃lo,(if d / 5%3=0 then d%5-2 else if d / 5%3=1 then c%1000000000000000000000000000000 else 0-c%1000000000000000000000000000000)=lo:=#[_,rfl];obtain⟨up,eup⟩:∃up,(if d / 105%3=0 then 0 else if d / 105%3=1 then 1+d / 15%7 else c%100000000000000000000)=up:=#[_,rfl];rw[elo]at a1;rw[eup]at a2;have hlo:-1000000000000000000000000000000<lo/\lo<1000000000000000000000000000000:=by
  rw[<-elo];split
  ·lia
  ·split<;>omega
 have hup:0<=up:=by
  rw[<-eup];split
  ·lia
  ·split<;>lia
 clear elo eup;have T:(10:Int) ^ 30=1000000000000000000000000000000:=by decide
 obtain⟨hi,ehi,hhi⟩:∃hi,(if(999999999999999999999999999999:Int)<((lo+up).natAbs:Int)then lo else lo+up)=hi/\Num hi/\lo<=hi:=by
  refine#[_,rfl,?_];unfold Num;rw[T];split
  ·exact#[#[by lia,by lia],by lia]
  ·exact#[#[by lia,by lia],by lia]
 have nlo:Num lo:=by unfold Num;rw[T];omega
 have e9:(1000000000000000000000000000000-1:Int)=999999999999999999999999999999:=rfl;have ab:kK .abs [.int (lo+up)]=.ok (.int ((lo+up).natAbs:Int)):=by
  rw[show((lo+up).natAbs:Int)=if lo+up<0 then -(lo+up)else lo+up by split<;>lia];rfl
 have hfin:∀h:Int,hi=h->∃a b,um a b/\EB (dz [] 1000 (.cons (.ifs (.cmp .Eq (.bin .Mod (.bin .FloorDiv (.var 1) (.con (.int 315))) (.con (.int 4))) (.con (.int 0)))
  (.cons (.ret (.tup (.cons (.var 2) (.cons (.con .non) .nil))))
 .nil)
  .nil)
 (.cons (.ifs (.cmp .Eq (.bin .Mod (.bin .FloorDiv (.var 1) (.con (.int 315))) (.con (.int 4))) (.con (.int 1)))
  (.cons (.ret (.tup (.cons (.con .non) (.cons (.var 3) .nil))))
 .nil)
  .nil)
 (.cons (.ret (.tup (.cons (.var 2) (.cons (.var 3) .nil))))
 .nil))) [Y (.int c),Y (.int d),Y (.int lo),Y (.int h)])=.ok (.tup [oD a,oD b]):=by
  rintro _ rfl;cases g0:(d / 315%4==0)with
  |true=>exact#[Y lo,B,nlo,by erw[g0];rfl]
  |false=>
   cases g1:(d / 315%4==1)with
   |true=>exact#[B,Y hi,hhi.1,by erw[g0,g1];rfl]
   |false=>exact#[Y lo,Y hi,#[nlo,hhi.1,hhi.2],by erw[g0,g1];rfl]
 by_cases cc:(999999999999999999999999999999:Int)<((lo+up).natAbs:Int)
 ·rw[aB cc]at ehi;let#[a,b,h1,h2]:=hfin lo ehi.symm;refine#[a,b,h1,?_];have g:=aC cc;rw[<-h2];unfold pZ sS DH;erw[p30,p20,a1,a2,ab,e9,g]
 ·rw[aD cc]at ehi;let#[a,b,h1,h2]:=hfin (lo+up) ehi.symm;refine#[a,b,h1,?_];have g:=aN cc;rw[<-h2];unfold pZ sS DH;erw[p30,p20,a1,a2,ab,e9,g]
def acu(x y:D)(i:Int)(h:0<=i/\i<2):fQ [x,y] i=Y (if i=0 then x else y):=by
 by_cases c0:i=0
 ·rw[aB c0,c0];exact jx _ _
 ·rw[aD c0,show i=1 by lia];exact nP _ _ _
def YQ(c k s:Int)(hk:0<=k/\k<=63)(h0:0<=s):∃w:Rw,w.Ok/\oY [.int c,.int k,.int s]=.ok w.val:=by
 have hs:=szl;let#[d,d0,d1,qd]:=tK c k (by lia);let#[e,e0,e1,qe]:=tK c (k+40) (by lia);let#[f,f0,f1,qf]:=tK c (k+80) (by lia);have m7:=cQ d (b:=7) (by decide);have m26:=cQ (d / 7) (b:=26) (by decide);have qv:kg [.int s,.int (d / 7%26)]=.ok (.str _):=Ai s (d / 7%26) h0 (by lia);have wv:=JC s (d / 7%26) h0 (by lia);let#[l1,k1,r1,q1]:=LW s e h0 #[e0,e1];let#[l2,k2,r2,q2]:=LW s f h0 #[f0,f1];have q1:qW [.int s,.int e]=.ok (.tup [.str (strOf l1),.str (strOf k1)]):=q1;have q2:qW [.int s,.int f]=.ok (.tup [.str (strOf l2),.str (strOf k2)]):=q2;by_cases c3:d%7<3
 ·have m2:=cQ (d / 7) (b:=2) (by decide);have m5:=cQ f (b:=5) (by decide);have n26:=cQ (e / 78) (b:=26) (by decide);have qw:kg [.int s,.int (e / 78%26)]=.ok (.str _):=Ai s (e / 78%26) h0 (by lia);have ww:=JC s (e / 78%26) h0 (by lia);have qs:=Rl s e h0 #[e0,e1];have hk:=JD s e h0 e0;have g:=aC c3;have a1:=NG 1 (1+f%5) (1+f%5) (d%7) #[m7.1,c3];obtain⟨n,en⟩:∃n,(if d%7=0 then 1 else if d%7=1 then 1+f%5 else 1+f%5)=n:=#[_,rfl];rw[en]at a1;have hn:1<=n/\n<=5:=by
   rw[<-en];split
   ·lia
   ·split<;>lia
  obtain⟨l,hl,al⟩:∃l,(l=[]\/aaC l)/\fQ [D.str (strOf []),.str (strOf (lw s (e / 78%26)))] (d / 7%2)=Y (.str (strOf l)):=by
   have a2:=acu (.str (strOf [])) (.str (strOf (lw s (e / 78%26)))) (d / 7%2) m2;by_cases c0:d / 7%2=0
   ·rw[aB c0]at a2;exact#[_,.inl rfl,a2]
   ·rw[aD c0]at a2;exact#[_,.inr ww,a2]
  refine#[.parts n (d%7==2) l (jh s e),#[hn,hl,hk],?_];have fk:=cZ (jh s e);have ok:=ly (jh s e);show _=R.ok (D.tup [.str "parts",.int n,.bl (d%7==2),.str (strOf l),.lst J ((jh s e).map wD)]);unfold oY qV tH;generalize(jh s e).map wD=K at qs fk ok ⊢;erw[qd,qe,qf,g,qw,uh,al,a1,qs,fk,ok]
 ·have g:=aN c3;cases g3:(d%7==3)with
  |true=>
   refine#[.join l1 k1 _ l2 k2,#[r1,wv,r2],?_];show _=R.ok (D.tup [.str "join",.tup [.str (strOf l1),.str (strOf k1)],.str (strOf _),.tup [.str (strOf l2),.str (strOf k2)]]);unfold oY qV tH;erw[qd,qe,qf,g,g3,q1,q2,qv]
  |false=>
   cases g4:(d%7==4)with
   |true=>
    let#[a,b,hb,qb]:=NH c f #[f0,f1];refine#[.size l1 k1 _ a b,#[r1,wv,hb],?_];have fa:=u7 a;have fb:=u7 b;have oa:be (oD a)=J:=by cases a<;>rfl
    have ob:be (oD b)=J:=by cases b<;>rfl
    show _=R.ok (D.tup [.str "size",.tup [.str (strOf l1),.str (strOf k1)],.str (strOf _),oD a,oD b]);unfold oY qV tH;erw[qd,qe,qf,g,g3,g4,q1,qv,qb,fa,fb,oa,ob]
   |false=>
    cases g5:(d%7==5)with
    |true=>
     have qs:=Rl s f h0 #[f0,f1];have hk:=JD s f h0 f0;have fk:=cZ (jh s f);have ok:=ly (jh s f);refine#[.isa l1 k1 _,#[r1,hk],?_];show _=R.ok (D.tup [.str "is",.tup [.str (strOf l1),.str (strOf k1)],.lst J ((jh s f).map wD)]);unfold oY qV tH;generalize(jh s f).map wD=K at qs fk ok ⊢;erw[qd,qe,qf,g,g3,g4,g5,q1,qs,fk,ok]
    |false=>
     refine#[.a_ _ l1 k1,#[wv,r1],?_];show _=R.ok (D.tup [.str "then",.str (strOf _),.tup [.str (strOf l1),.str (strOf k1)]]);unfold oY qV tH;erw[qd,qe,qf,g,g3,g4,g5,q1,qv]
noncomputable def jn:M (M L)->M L
|[]=>[]
|[w]=>w
|w::r=>w++32::jn r
theorem lP(w x:M L)(r:M (M L)):jn (w::x::r)=w++32::jn (x::r):=rfl
theorem A1:∀ws:M (M L),dU (strOf [32]) (ws.map strOf)=strOf (jn ws)
|[]=>rfl
|[_]=>rfl
|w::x::r=>by
 show strOf w++strOf [32]++dU (strOf [32]) ((x::r).map strOf)=_;rw[A1 (x::r),qY,qY,lP,bx];rfl
theorem EN:∀ws:M (M L),dU (strOf [32,111,114,32]) (ws.map strOf)=strOf (jn (bU ws))
|[]=>rfl
|[_]=>rfl
|w::x::r=>by
 show strOf w++strOf [32,111,114,32]++dU (strOf [32,111,114,32]) ((x::r).map strOf)=_;rw[EN (x::r),qY,qY];show _=strOf (jn (w::qg::bU (x::r)));let#[tl,e]:=q9 x r;rw[e,lP,lP,bx];rfl
theorem wm:∀(a:M (M L)) (y:M L) (b:M (M L)),a≠[]->jn a++32::jn (y::b)=jn (a++y::b)
|[],_,_,h=>aG rfl h
|[w],y,b,_=>rfl
|w::x::r,y,b,_=>by
 have ih:=wm (x::r) y b (by simp);show(w++32::jn (x::r))++32::jn (y::b)=w++32::jn (x::(r++y::b));rw[bx,C8,ih];rfl
def fO(w:M L):Prop:=w≠[]/\32∉w/\10∉w/\w.length<=40
theorem uq:∀ws:M (M L),(∀w∈ws,fO w)->wordsOf (jn ws)=ws
|[],_=>rfl
|[w],h=>by
 let#[h1,h2,_]:=h w aj;have q:=z_ w [] h1 h2;show wordsOf w=[w];have e:bZ 32 w=[w]:=lN 32 [w] w (by simp) (by simpa using h2) (by simp[iA]);unfold wordsOf;rw[e];cases w with
 |nil=>exact aG rfl h1
 |cons=>rfl
|w::x::r,h=>by
 let#[h1,h2,_]:=h w aj;rw[lP,z_ w _ h1 h2,uq (x::r) λy hy=>h y (ai _ hy)]
theorem WY:∀ws:M (M L),(∀w∈ws,fO w)->10∉jn ws
|[],_=>by simp[jn]
|[w],h=>(h w aj).2.2.1
|w::x::r,h=>by
 have ih:=WY (x::r) λy hy=>h y (ai _ hy);rw[lP,a6,aM];rintro(q|q|q)
 ·exact(h w aj).2.2.1 q
 ·exact aG q (by decide)
 ·exact ih q
theorem Aj:∀ws:M (M L),(∀w∈ws,fO w)->(jn ws).length<=41*ws.length
|[],_=>by simp[jn]
|[w],h=>by have:=(h w aj).2.2.2;show w.length<=41*1;lia
|w::x::r,h=>by
 have ih:=Aj (x::r) λy hy=>h y (ai _ hy);have:=(h w aj).2.2.2;rw[lP,ao,aT,aT]
 lia
def aaC.ok{w:M L}(h:aaC w):fO w:=by
 unfold aaC isWord at h;simp only[cU,cK]at h;let#[#[#[h1,h2],h3],_]:=h;rw[jd]at h1 h2;have h3:∀c∈w,97<=c/\c<=122:=λc hc=>by
  have:=cV.mp h3 c hc;simpa using this
 exact#[λe=>by rw[e]at h1;simp at h1,λhc=>by have:=h3 _ hc;lia,λhc=>by have:=h3 _ hc;lia,by lia]
def aaZ{n:Int}(h:Num n):∃m,m<10 ^ 30/\(a9 n=g6 29 m\/a9 n=45::g6 29 m):=by
 let#[h1,h2]:=h;have T:((10 ^ 30:L):Int)=10 ^ 30:=by decide
 by_cases hn:0<=n
 ·obtain⟨m,rfl⟩:∃m:L,n=(m:Int):=#[n.toNat,by lia];have hm:m<10 ^ 30:=by lia
  exact#[m,hm,.inl (by unfold a9;rw[Jy m hm];rfl)]
 ·obtain⟨m,rfl,hp⟩:∃m:L,n=-(m:Int)/\0<m:=#[(-n).toNat,by lia,by lia];have hm:m<10 ^ 30:=by lia
  exact#[m,hm,.inr (by unfold a9;rw[Jz m hp hm];rfl)]
def ji{n:Int}(h:Num n):fO (a9 n):=by
 let#[m,hm,e]:=aaZ h;let#[d1,d2,d3,_]:=A0 29 m hm;rcases e with e|e<;>rw[e]
 ·exact#[d2,λhc=>by have:=d1 _ hc;lia,λhc=>by have:=d1 _ hc;lia,by lia]
 ·refine#[by simp,λhc=>?_,λhc=>?_,by simp;lia]
  ·rcases aM.mp hc with q|q
   ·exact aG q (by decide)
   ·have:=d1 _ q;lia
  ·rcases aM.mp hc with q|q
   ·exact aG q (by decide)
   ·have:=d1 _ q;lia
def tL{n:Int}(h:Num n):kK .str [.int n]=.ok (.str (strOf (a9 n))):=by
 have hs:=szl;have hl:(nA n).length<=40:=by rw[<-EL,jd];exact(ji h).2.2.2
 have h1:n.natAbs<10 ^ 30:=by
  let#[a,b]:=h;have:((10 ^ 30:L):Int)=10 ^ 30:=by decide
  omega
 have h2:n.natAbs.log2<1920:=by
  by_cases hz:n.natAbs=0
  ·rw[hz];decide
  ·exact(Nat.log2_lt hz).mpr (cg h1 (by decide +kernel))
 rw[EL];show R.bI (decide (n.natAbs.log2<1920)&&decide ((nA n).length<=ah)) (R.ok (D.str (nA n)))=_;rw[aC h2,aC (by lia)];rfl
def wo:∀w∈p9,fO w:=by
 unfold fO;decide +kernel
def sf.ok{ks:M (M L)}(h:sf ks):∀w∈bU ks,fO w:=by
 have hw:=h.1;have:∀ks:M (M L),(∀w∈ks,aaC w)->∀w∈bU ks,fO w:=by
  intro ks;induction ks with
  |nil=>intro _ w h;cases h
  |cons a r ih=>
   intro h w hw;cases r with
   |nil=>rw[aQ.mp hw];exact(h a aj).ok
   |cons b t=>
    have hw:w∈a::qg::bU (b::t):=hw;rcases aM.mp hw with rfl|hw
    ·exact(h w aj).ok
    ·rcases aM.mp hw with rfl|hw
     ·exact wo _ (by decide)
     ·exact ih (λx hx=>h x (ai _ hx)) w hw
 exact this ks hw
def gv.ok{l k:M L}(h:gv l k):∀w∈br l k,fO w:=λw hw=>(DQ h w hw).ok
def WZ{a b:aaV Int}(h:um a b):∀w∈vd a b,fO w:=by
 have k:=wo;rcases a with _|a<;>rcases b with _|b
 ·exact h.elim
 ·exact xS (k _ (by decide)) (k _ (by decide)) (ji h)
 ·exact xS (k _ (by decide)) (k _ (by decide)) (ji h)
 ·show ∀w∈(if a=b then[iH,a9 a]else[eY,a9 a,toL,a9 b]),fO w;split
  ·exact all2 (k _ (by decide)) (ji h.1)
  ·exact VH (k _ (by decide)) (ji h.1) (k _ (by decide)) (ji h.2.1)
theorem Rm(n:L):∀l:M L,(∀x∈l,x<=n)->l.sum<=l.length*n
|[],_=>by simp
|a::r,h=>by
 have:=Rm n r λx hx=>h x (ai _ hx);have:=h a aj;rw[G5,aT,Kd]
 lia
theorem LX:∀l:M (M L),k9 (l.map wD)=Y (l.map strOf)
|[]=>rfl
|a::r=>by
 show(k9 (r.map wD)).map (strOf a::·)=_;rw[LX r];rfl
def wu(sep:M L)(ws:M (M L))(o:Bool)(hl:ws.length<=1000)(hw:∀w∈ws,w.length<=1000)(hp:sep.length<=10):kL .join (.str (strOf sep)) [.lst o (ws.map wD)]=.ok (.str (dU (strOf sep) (ws.map strOf))):=by
 have hs:=szl;rw[FT,LX,Bw,FQ];have h1:=Rm 1000 ((ws.map strOf).map (·.length)) (λx hx=>by
  rw[bW]at hx;let#[w,h,rfl]:=b7.mp hx;show(strOf w).length<=_;rw[jd];exact hw w h)
 rw[ay,ay]at h1;have h2:ws.length*1000<=1000*1000:=Nat.mul_le_mul_right _ hl;have h3:ws.length*sep.length<=1000*10:=Nat.mul_le_mul hl hp;rw[aC (by rw[ay,jd];lia)];rfl
def spS:au " "=strOf [32]:=by decide +kernel
def LY:au " or "=strOf [32,111,114,32]:=by decide +kernel
def qm{l k:M L}(h:gv l k):gB [fY l k]=.ok (.str (strOf (jn (b_::br l k)))):=by
 have hs:=szl;have fe:[b_,l,k].filter (λw=>!(strOf w==strOf []))=b_::br l k:=by
  have e0:(strOf b_==strOf [])=W:=by decide +kernel
  have e2:=h.2.ne;unfold br;rcases h.1 with rfl|hl
  ·have e1:=gM (strOf []);simp[vU,e0,e1,e2]
  ·rw[aD hl.nn];simp[vU,e0,hl.ne,e2]
 have xT:au "the"=strOf b_:=by decide +kernel
 have q:ee (pG (.name 0)) (pT [] (.cmp .NotEq (.var 0) (.con (.str (strOf []))))) (pE [] (.var 0)) [D.str (strOf b_),.str (strOf l),.str (strOf k)] [B]=.ok ((b_::br l k).map wD):=by
  rw[<-fe];refine kQ wD (λO=>∃o,O=[o]) (λw=>!(strOf w==strOf [])) wD [b_,l,k] _ #[B,rfl] ?_;rintro p _ O ⟨o,rfl⟩;refine#[[Y (wD p)],rfl,#[_,rfl],?_,?_]
  ·unfold wD;erw[]
  ·rfl
 have qj:=wu [32] (b_::br l k) J (by have:=i9 l k;rw[aT];lia) (λw hw=>by
  rcases aM.mp hw with rfl|hw
  ·decide
  ·have:=(h.ok w hw).2.2.2;lia) (by decide)
 rw[A1]at qj;show gB [.tup [.str (strOf l),.str (strOf k)]]=_;generalize(b_::br l k).map wD=X at q qj;unfold gB ud DH;erw[spS,uh,xT,jx,nP,q,qj]
def KL{a b:aaV Int}(h:um a b):gE [oD a,oD b]=.ok (.str (strOf (jn (vd a b)))):=by
 have e1:au "at least "=strOf [97,116,32,108,101,97,115,116,32]:=by decide +kernel
 have e2:au "at most "=strOf [97,116,32,109,111,115,116,32]:=by decide +kernel
 have e3:au "of "=strOf [111,102,32]:=by decide +kernel
 have e4:au "from "=strOf [102,114,111,109,32]:=by decide +kernel
 have e5:au " to "=strOf [32,116,111,32]:=by decide +kernel
 have C:∀(x:M L) (n:Int),Num n->x.length<=100->fG .Add (.str (strOf x)) (.str (strOf (a9 n)))=.ok (.str (strOf (x++a9 n))):=λx n hn hx=>je _ _ (by have:=(ji hn).2.2.2;lia);rcases a with _|a<;>rcases b with _|b
 ·exact h.elim
 ·have q:=tL (n:=b) h;have c1:=C [97,116,32,109,111,115,116,32] b h (by decide);show gE [.non,.int b]=.ok (.str (strOf ([97,116,32,109,111,115,116,32]++a9 b)));unfold gE lI DH;erw[e1,e2,e3,e4,e5,q,c1]
 ·have q:=tL (n:=a) h;have c1:=C [97,116,32,108,101,97,115,116,32] a h (by decide);show gE [.int a,.non]=.ok (.str (strOf ([97,116,32,108,101,97,115,116,32]++a9 a)));unfold gE lI DH;erw[e1,e2,e3,e4,e5,q,c1]
 ·let#[h1,h2,h3]:=h;have q:=tL h1;have q2:=tL h2;show gE [.int a,.int b]=.ok (.str (strOf (jn (if a=b then[iH,a9 a]else[eY,a9 a,toL,a9 b]))));unfold gE lI DH;by_cases e:a=b
  ·have g:(a==b)=J:=by rw[lG];exact e
   rw[aB e];have c1:=C [111,102,32] a h1 (by decide);erw[g,e1,e2,e3,e4,e5,q,c1];rfl
  ·have g:(a==b)=W:=by rw[cy];exact e
   rw[aD e];have la:=(ji h1).2.2.2;have c1:=C [102,114,111,109,32] a h1 (by decide);have c2:=je ([102,114,111,109,32]++a9 a) [32,116,111,32] (by simp;lia);have c3:=C ([102,114,111,109,32]++a9 a++[32,116,111,32]) b h2 (by simp;lia);have e6:[102,114,111,109,32]++a9 a++[32,116,111,32]++a9 b=jn [eY,a9 a,toL,a9 b]:=by
    rw[bx,bx];rfl
   rw[e6]at c3;generalize[102,114,111,109,32]++a9 a++[32,116,111,32]=X at c2 c3;generalize[102,114,111,109,32]++a9 a=aap at c1 c2;generalize jn [eY,a9 a,toL,a9 b]=Z at c3 ⊢;erw[g,e1,e2,e3,e4,e5,q,q2,c1,c2,c3]
def VN(A:M (M L))(h:(jn A).length<=1000):fG .Add (.str (strOf (jn A))) (.str (strOf [32]))=.ok (.str (strOf (jn A++[32]))):=je _ _ (by simp;lia)
def Rn(A:M (M L))(y:M L)(aaP:M (M L))(hA:A≠[])(h:(jn A).length<=1000)(h2:(jn (y::aaP)).length<=1000):fG .Add (.str (strOf (jn A++[32]))) (.str (strOf (jn (y::aaP))))=.ok (.str (strOf (jn (A++y::aaP)))):=by
 rw[je _ _ (by simp;lia),<-wm A y aaP hA,bx];rfl
def Rw.W0{w:Rw}(h:w.Ok):(∀x∈w.words,fO x)/\w.words.length<=12:=by
 have k:=wo;have app:∀{a b:M (M L)},(∀x∈a,fO x)->(∀x∈b,fO x)->∀x∈a++b,fO x:=λha hb x hx=>by
  rcases a6.mp hx with hx|hx
  ·exact ha x hx
  ·exact hb x hx
 have cns:∀{a:M L}{b:M (M L)},fO a->(∀x∈b,fO x)->∀x∈a::b,fO x:=λha hb x hx=>by
  rcases aM.mp hx with rfl|hx
  ·exact ha
  ·exact hb x hx
 cases w with
 |parts n c l ks=>
  let#[h1,h2,h3]:=h;have hl:=wj h3;refine#[app ?_ (app ?_ h3.ok),?_]
  ·unfold jg;split
   ·exact all2 (k _ (by decide)) (ji (Af h1))
   ·split
    ·exact cns (k _ (by decide)) (by simp)
    ·exact xS (k _ (by decide)) (k _ (by decide)) (ji (Af h1))
  ·unfold jz;rcases h2 with rfl|h2
   ·simp
   ·rw[aD h2.nn];exact cns h2.ok (by simp)
  ·show(jg n c++(jz l++bU ks)).length<=12;have a1:(jg n c).length<=3:=by
    unfold jg;split
    ·simp
    ·split<;>simp
   have a2:(jz l).length<=1:=by unfold jz;split<;>simp
   rw[ao,ao];lia
 |join l x v l2 x2=>
  let#[h1,h2,h3]:=h;refine#[cns (k _ (by decide)) (app h1.ok (cns h2.ok (cns (k _ (by decide)) h3.ok))),?_];have a1:=i9 l x;have a2:=i9 l2 x2;show(b_::(br l x++v::b_::br l2 x2)).length<=12;simp only[aT,ao];lia
 |size l x v a b=>
  let#[h1,h2,h3]:=h;refine#[cns (k _ (by decide)) (app h1.ok (cns h2.ok (WZ h3))),?_];have a1:=i9 l x;have a2:(vd a b).length<=4:=by
   rcases a with _|a<;>rcases b with _|b
   ·exact h3.elim
   ·exact nV 3
   ·exact nV 3
   ·show(if a=b then[iH,a9 a]else[eY,a9 a,toL,a9 b]).length<=4;split<;>simp
  show(b_::(br l x++v::vd a b)).length<=12;simp only[aT,ao];lia
 |isa l x ks=>
  let#[h1,h2]:=h;refine#[cns (k _ (by decide)) (app h1.ok (cns (k _ (by decide)) (cns (k _ (by decide)) h2.ok))),?_];have a1:=i9 l x;have a2:=wj h2;show(b_::(br l x++jf::aL::bU ks)).length<=12;simp only[aT,ao];lia
 |a_ v l x=>
  let#[h1,h2]:=h;refine#[cns (k _ (by decide)) (cns h1.ok (cns (k _ (by decide)) h2.ok)),?_];have a1:=i9 l x;show(gu::v::b_::br l x).length<=12;simp only[aT];lia
def oq{ws:M (M L)}(h:∀w∈ws,fO w)(hl:ws.length<=12):(jn ws).length<=1000:=by
 have:=Aj ws h
 lia
def jj{a:M L}{b:M (M L)}(ha:fO a)(hb:∀x∈b,fO x):∀x∈a::b,fO x:=λx hx=>by
 rcases aM.mp hx with rfl|hx
 ·exact ha
 ·exact hb x hx
def Ro{a b:M (M L)}(ha:∀x∈a,fO x)(hb:∀x∈b,fO x):∀x∈a++b,fO x:=λx hx=>by
 rcases a6.mp hx with hx|hx
 ·exact ha x hx
 ·exact hb x hx
def kw(w:M L)(h:w∈p9:=by decide):fO w:=wo w h
def ne_str:(au "join"==au "parts")=W/\(au "size"==au "parts")=W/\(au "size"==au "join")=W/\(au "is"==au "parts")=W/\(au "is"==au "join")=W/\(au "is"==au "size")=W/\(au "then"==au "parts")=W/\(au "then"==au "join")=W/\(au "then"==au "size")=W/\(au "then"==au "is")=W:=by decide +kernel
def aa0{l k v y:M L}{aaP:M (M L)}(h:gv l k)(hv:aaC v)(hB:∀w∈y::aaP,fO w)(hl:(y::aaP).length<=6):∃x2 x3 x4,fG .Add (.str (strOf (jn (b_::br l k)))) (.str (strOf [32]))=.ok (.str x2)/\fG .Add (.str x2) (.str (strOf v))=.ok (.str x3)/\fG .Add (.str x3) (.str (strOf [32]))=.ok (.str x4)/\fG .Add (.str x4) (.str (strOf (jn (y::aaP))))=.ok (.str (strOf (jn (b_::(br l k++v::y::aaP))))):=by
 have a1:=i9 l k;have o1:=jj (kw b_) h.ok;have o2:∀w∈[v],fO w:=jj hv.ok (by simp);have o3:=Ro o1 o2;have l1:=oq o1 (by rw[aT];lia);have l3:=oq o3 (by simp only[ao,aT,iV];lia);refine#[_,_,_,VN _ l1,Rn _ v [] (by simp) l1 (oq o2 (by simp)),VN _ l3,?_];have q:=Rn (b_::br l k++[v]) y aaP (by simp) l3 (oq hB (by lia));rw[bx]at q;exact q
def VO{l k v l2 k2:M L}(h:gv l k)(hv:aaC v)(h2:gv l2 k2):eO [.tup [.str "join",fY l k,wD v,fY l2 k2]]=.ok (.str (strOf (jn (b_::(br l k++v::b_::br l2 k2))))):=by
 let#[n1,_]:=ne_str;let#[x2,x3,x4,b1,b2,b3,b4]:=aa0 (y:=b_) h hv (jj (kw b_) h2.ok) (by have:=i9 l2 k2;rw[aT];lia);have q1:gB [.tup [.str (strOf l),.str (strOf k)]]=_:=qm h;have q2:gB [.tup [.str (strOf l2),.str (strOf k2)]]=_:=qm h2;show eO [.tup [.str "join",.tup [.str (strOf l),.str (strOf k)],.str (strOf v),.tup [.str (strOf l2),.str (strOf k2)]]]=_;generalize strOf (jn (b_::br l k))=x1 at b1 q1;generalize strOf (jn (b_::br l2 k2))=y1 at b4 q2;generalize strOf (jn (b_::(br l k++v::b_::br l2 k2)))=z at b4 ⊢;unfold eO oH lu;erw[jx,nP,at2,LP,n1,q1,q2,spS,b1,b2,b3,b4]
def YR{a b:aaV Int}(h:um a b):∃y aaP,vd a b=y::aaP/\(y::aaP).length<=6:=by
 rcases a with _|a<;>rcases b with _|b
 ·exact h.elim
 ·exact#[_,_,rfl,by simp]
 ·exact#[_,_,rfl,by simp]
 ·by_cases e:a=b
  ·exact#[iH,[a9 a],by show(if a=b then _ else _)=_;rw[aB e],by simp]
  ·exact#[eY,[a9 a,toL,a9 b],by show(if a=b then _ else _)=_;rw[aD e],by simp]
def VP{l k v:M L}{a b:aaV Int}(h:gv l k)(hv:aaC v)(h2:um a b):eO [.tup [.str "size",fY l k,wD v,oD a,oD b]]=.ok (.str (strOf (jn (b_::(br l k++v::vd a b))))):=by
 let#[_,n1,n2,_]:=ne_str;let#[y,aaP,e,hB]:=YR h2;have o:=WZ h2;have q2:=KL h2;rw[e]at o q2 ⊢;let#[x2,x3,x4,b1,b2,b3,b4]:=aa0 h hv o hB;have q1:gB [.tup [.str (strOf l),.str (strOf k)]]=_:=qm h;have fa:=u7 a;have fb:=u7 b;show eO [.tup [.str "size",.tup [.str (strOf l),.str (strOf k)],.str (strOf v),oD a,oD b]]=_;generalize strOf (jn (b_::br l k))=x1 at b1 q1;generalize strOf (jn (y::aaP))=y1 at b4 q2;generalize strOf (jn (b_::(br l k++v::y::aaP)))=z at b4 ⊢;unfold eO oH lu;erw[jx,nP,at2,LP,Q_,fa,fb,n1,n2,q1,q2,spS,b1,b2,b3,b4]
def VQ{v l k:M L}(hv:aaC v)(h:gv l k):eO [.tup [.str "then",wD v,fY l k]]=.ok (.str (strOf (jn (gu::v::b_::br l k)))):=by
 let#[_,_,_,_,_,_,n1,n2,n3,n4]:=ne_str;have q1:gB [.tup [.str (strOf l),.str (strOf k)]]=_:=qm h;have e1:au "then "=strOf (jn [gu]++[32]):=by decide +kernel
 have a1:=i9 l k;have o2:∀w∈[v],fO w:=jj hv.ok (by simp);have o3:∀w∈[gu,v],fO w:=jj (kw gu) o2;have l3:=oq o3 (by simp);have b1:fG .Add (.str (strOf (jn [gu]++[32]))) (.str (strOf v))=_:=Rn [gu] v [] (by simp) (by decide) (oq o2 (by simp));have b2:=VN _ l3;have b3:=Rn [gu,v] b_ (br l k) (by simp) l3 (oq (jj (kw b_) h.ok) (by rw[aT];lia));show eO [.tup [.str "then",.str (strOf v),.tup [.str (strOf l),.str (strOf k)]]]=.ok (.str (strOf (jn ([gu,v]++b_::br l k))));generalize strOf (jn [gu]++[32])=x0 at e1 b1;change fG .Add (.str x0) (.str (strOf v))=.ok (.str (strOf (jn [gu,v])))at b1;generalize strOf (jn (b_::br l k))=x1 at b3 q1;generalize strOf (jn ([gu,v]++b_::br l k))=z at b3 ⊢;generalize strOf (jn [gu,v]++[32])=x2 at b2 b3;generalize strOf (jn [gu,v])=x3 at b1 b2;unfold eO oH lu;erw[jx,nP,at2,n1,n2,n3,n4,e1,q1,spS,b1,b2,b3]
def DR{ks:M (M L)}(h:sf ks):kL .join (.str (strOf [32,111,114,32])) [.lst W (ks.map wD)]=.ok (.str (strOf (jn (bU ks)))):=by
 rw[wu _ ks W (by have:=h.2.1.2;lia) (λw hw=>by have:=(h.1 w hw).ok.2.2.2;lia) (by decide),EN]
def VR{l k:M L}{ks:M (M L)}(h:gv l k)(hk:sf ks):eO [.tup [.str "is",fY l k,.lst W (ks.map wD)]]=.ok (.str (strOf (jn (b_::(br l k++jf::aL::bU ks))))):=by
 let#[_,_,_,n1,n2,n3,_]:=ne_str;have q1:gB [.tup [.str (strOf l),.str (strOf k)]]=_:=qm h;have q2:=DR hk;have e1:au " is a "=strOf [32,105,115,32,97,32]:=by decide +kernel
 have a1:=i9 l k;have o1:=jj (kw b_) h.ok;have o2:=Ro o1 (jj (kw jf) (jj (kw aL) (by simp:∀w∈[],fO w)));have l1:=oq o1 (by rw[aT];lia);have l2:=oq o2 (by simp only[ao,aT,iV];lia);have b1:fG .Add (.str (strOf (jn (b_::br l k)))) (.str (strOf [32,105,115,32,97,32]))=.ok (.str (strOf (jn (b_::br l k++[jf,aL])++[32]))):=by
  rw[je _ _ (by simp;lia),<-wm (b_::br l k) jf [aL] (by simp),bx];rfl
 have b2:fG .Add (.str (strOf (jn (b_::br l k++[jf,aL])++[32]))) (.str (strOf (jn (bU ks))))=.ok (.str (strOf (jn (b_::(br l k++jf::aL::bU ks))))):=by
  have ok:=hk.ok;have ol:=wj hk;obtain⟨y,aaP,e⟩:∃y aaP,bU ks=y::aaP:=by
   cases ks with
   |nil=>exact aG hk.2.1.1 (by decide)
   |cons a r=>let#[tl,e]:=q9 a r;exact#[_,_,e]
  rw[e]at ok ol ⊢;have q:=Rn (b_::br l k++[jf,aL]) y aaP (by simp) l2 (oq ok (by lia));rw[bx]at q;exact q
 have fk:=cZ ks;show eO [.tup [.str "is",.tup [.str (strOf l),.str (strOf k)],.lst W (ks.map wD)]]=_;generalize strOf (jn (b_::(br l k++jf::aL::bU ks)))=z at b2 ⊢;generalize strOf (jn (b_::br l k++[jf,aL])++[32])=x2 at b1 b2;generalize strOf (jn (b_::br l k))=x1 at b1 q1;generalize strOf (jn (bU ks))=y1 at b2 q2;generalize ks.map wD=K at q2 fk ⊢;unfold eO oH lu;erw[jx,nP,at2,fk,n1,n2,n3,q1,e1,b1,LY,q2,b2]
def dD{α:Type}{p:α->Prop}{a:α}{b:M α}(ha:p a)(hb:∀x∈b,p x):∀x∈a::b,p x:=λx hx=>by
 rcases aM.mp hx with rfl|hx
 ·exact ha
 ·exact hb x hx
def VS{n:Int}{c:Bool}{l:M L}{ks:M (M L)}(hn:1<=n/\n<=5)(hl:l=[]\/aaC l)(hk:sf ks):eO [.tup [.str "parts",.int n,.bl c,wD l,.lst W (ks.map wD)]]=.ok (.str (strOf (jn (jg n c++(jz l++bU ks))))):=by
 have hs:=szl;have q2:=DR hk;have fk:=cZ ks;have qn:=tL (Af hn);have nl:=(ji (Af hn)).2.2.2;have e1:au "at least "=strOf [97,116,32,108,101,97,115,116,32]:=by decide +kernel
 have e2:au "a"=strOf aL:=by decide +kernel
 have e3:au "just "=strOf [106,117,115,116,32]:=by decide +kernel
 have e0:(au "parts"==au "parts")=J:=by decide +kernel
 have b1:fG .Add (.str (strOf [97,116,32,108,101,97,115,116,32])) (.str (strOf (a9 n)))=.ok (.str (strOf (jn [gq,d_,a9 n]))):=je _ _ (by simp;lia);have b2:fG .Add (.str (strOf [106,117,115,116,32])) (.str (strOf (a9 n)))=.ok (.str (strOf (jn [l5,a9 n]))):=je _ _ (by simp;lia);have oh:(∀w∈jg n c,fO w)/\∃a r,jg n c=a::r/\r.length<=2:=by
  unfold jg;split
  ·exact#[all2 (kw l5) (ji (Af hn)),_,_,rfl,by simp]
  ·split
   ·exact#[jj (kw aL) (by simp),_,_,rfl,by simp]
   ·exact#[xS (kw gq) (kw d_) (ji (Af hn)),_,_,rfl,by simp]
 let#[oh,ha,hr,eh,hlr]:=oh;have hH:jn (jg n c)≠[]:=by
  intro z;have:=uq _ oh;rw[z,eh]at this;cases this
 obtain⟨y,aaP,ek⟩:∃y aaP,bU ks=y::aaP:=by
  cases ks with
  |nil=>exact aG hk.2.1.1 (by decide)
  |cons a r=>let#[tl,e]:=q9 a r;exact#[_,_,e]
 have hK:jn (bU ks)≠[]:=by
  intro z;have:=uq _ hk.ok;rw[z,ek]at this;cases this
 have ne:∀{w:M L},w≠[]->(strOf w==strOf [])=W:=λh=>by rw[jy,aN h]
 have fe:[jn (jg n c),l,jn (bU ks)].filter (λw=>!(strOf w==strOf []))=jn (jg n c)::(jz l++[jn (bU ks)]):=by
  unfold jz;rcases hl with rfl|hl
  ·have e1:=gM (strOf []);simp[vU,ne hH,ne hK,e1]
  ·rw[aD hl.nn];simp[vU,ne hH,ne hK,hl.ne]
 have lH:=oq oh (by rw[eh,aT];lia);have lK:=oq hk.ok (by have:=wj hk;lia);have ej:jn (jn (jg n c)::(jz l++[jn (bU ks)]))=jn (jg n c++(jz l++bU ks)):=by
  have hne:jg n c≠[]:=by rw[eh];simp
  unfold jz;rw[ek];rcases hl with rfl|hl
  ·rw[aB rfl];exact wm (jg n c) y aaP hne
  ·rw[aD hl.nn];show jn (jg n c)++32::(l++32::jn (y::aaP))=_;exact wm (jg n c) l (y::aaP) hne
 have q:ee (pG (.name 0)) (pT lu (.cmp .NotEq (.var 0) (.con (.str (strOf []))))) (pE lu (.var 0)) [D.str (strOf (jn (jg n c))),.str (strOf l),.str (strOf (jn (bU ks)))] [B]=.ok ((jn (jg n c)::(jz l++[jn (bU ks)])).map wD):=by
  rw[<-fe];refine kQ wD (λO=>∃o,O=[o]) (λw=>!(strOf w==strOf [])) wD [jn (jg n c),l,jn (bU ks)] _ #[B,rfl] ?_;rintro p _ O ⟨o,rfl⟩;refine#[[Y (wD p)],rfl,#[_,rfl],?_,?_]
  ·unfold wD;erw[]
  ·rfl
 have ll:l.length<=40:=by
  rcases hl with rfl|hl
  ·simp
  ·exact hl.ok.2.2.2
 have qj:=wu [32] (jn (jg n c)::(jz l++[jn (bU ks)])) J (by unfold jz;split<;>simp) (dD lH (by
  unfold jz;split
  ·exact dD lK (by simp)
  ·exact dD (by lia) (dD lK (by simp)))) (by decide)
 rw[A1,ej]at qj;unfold lu at q;show eO [.tup [.str "parts",.int n,.bl c,.str (strOf l),.lst W (ks.map wD)]]=_;generalize strOf (jn (jg n c++(jz l++bU ks)))=z at qj ⊢;generalize(jn (jg n c)::(jz l++[jn (bU ks)])).map wD=X at q qj;generalize strOf (jn (bU ks))=y1 at q q2;generalize ks.map wD=K at q2 fk ⊢;unfold eO oH lu;unfold jg at q;cases c with
 |true=>
  rw[aB rfl]at q;generalize strOf (jn [l5,a9 n])=x1 at b2 q;cases g:(n==1)with
  |true=>erw[jx,nP,at2,LP,Q_,e0,e1,e2,e3,qn,b1,b2,g,fk,LY,q2,uh,q,spS,qj]
  |false=>erw[jx,nP,at2,LP,Q_,e0,e1,e2,e3,qn,b1,b2,g,fk,LY,q2,uh,q,spS,qj]
 |false=>
  rw[aD (by decide)]at q;by_cases g:n=1
  ·rw[aB g]at q;have g:(n==1)=J:=by rw[lG];exact g
   have q:ee _ _ _ [D.str (strOf aL),_,_] _=_:=q;erw[jx,nP,at2,LP,Q_,e0,e1,e2,e3,qn,b1,b2,g,fk,LY,q2,uh,q,spS,qj]
  ·rw[aD g]at q;have g:(n==1)=W:=by rw[cy];exact g
   generalize strOf (jn [gq,d_,a9 n])=x1 at b1 q;erw[jx,nP,at2,LP,Q_,e0,e1,e2,e3,qn,b1,b2,g,fk,LY,q2,uh,q,spS,qj]
def aa1(w:Rw)(h:w.Ok):eO [bE w.val]=.ok (.str (strOf (jn w.words))):=by
 cases w with
 |parts n c l ks=>
  have q:=VS (c:=c) h.1 h.2.1 h.2.2;rw[<-cZ ks]at q;exact q
 |join l k v l2 k2=>exact VO h.1 h.2.1 h.2.2
 |size l k v a b=>
  have q:=VP h.1 h.2.1 h.2.2;show eO [.tup [.str "size",fY l k,wD v,bE (oD a),bE (oD b)]]=_;rw[u7 a,u7 b];exact q
 |isa l k ks=>
  have q:=VR h.1 h.2;rw[<-cZ ks]at q;exact q
 |a_ v l k=>exact VQ h.1 h.2
section
variable{g:D->bh->R bh}{b:bh->Fl}{d:D}{r:M D}{O σ2 σ3:bh} (h1:g d O=.ok σ2)
include h1
theorem lJ(h2:b σ2=.nx σ3):forR g b (d::r) O=forR g b r σ3:=by
 show(g d O).a_ _=_;rw[h1];simp only[R.a_,h2]
theorem aa2(h2:b σ2=.ct σ3):forR g b (d::r) O=forR g b r σ3:=by
 show(g d O).a_ _=_;rw[h1];simp only[R.a_,h2]
end
def iR(ns:M Int):M (M L):=if ns=[]then[]else mE::bU (ns.map a9)
def rising:M Int->Prop
|a::b::r=>a<b/\rising (b::r)
|_=>True
structure mF (ns:M Int) (above:Int):Prop where
 l:ns.length<=4
 r:rising ns
 b:∀n∈ns,1<=n/\n<=above
def onS:au "on"=strOf mE:=by decide +kernel
def ch4(a b c d:M L):gz [cG [a,qg,b,qg,c,qg,d]]=.ok (.lst J [wD a,wD b,wD c,wD d]):=by kernel_rfl
def NI(ks:M (M L))(h:1<=ks.length/\ks.length<=4):gz [cG (bU ks)]=.ok (.lst J (ks.map wD)):=by
 rcases ks with _|⟨a,_|⟨b,_|⟨c,_|⟨d,_|⟨e,r⟩⟩⟩⟩⟩
 ·exact aG h.1 (by decide)
 ·exact ch1 a
 ·exact ch2 a b
 ·exact ch3 a b c
 ·exact ch4 a b c d
 ·exact aG h.2 (by simp only[aT];lia)
def VT(ns:M Int)(h:∀n∈ns,Num n):ee (pG (.name 0)) (λ_=>.ok J) (pE gp (.call 0 (.cons (.var 0) .nil))) (ns.map λn=>wD (a9 n)) [B]=.ok (ns.map D.int):=by
 refine jv (λn=>wD (a9 n)) (λO=>∃o,O=[o]) D.int ns _ #[B,rfl] ?_;rintro n hn O ⟨o,rfl⟩;refine#[[Y (wD (a9 n))],rfl,#[_,rfl],?_];have q:dj [.str (strOf (a9 n))]=.ok (.int n):=vc (h n hn);unfold gp wD;erw[q]
def DS{U:M PG}{n:L}{s:CS}{r:cE}{O:bh}:dz U n (.chg s r) O=qU (qS U s O) (dz U n r):=by
 show(match qS U s O with|.nx σ'=>dz U n r σ'|x=>x)=_;unfold qU;cases qS U s O<;>rfl
def Rp{U:M PG}{g:CG}{src:CI}{c:CE}{O:bh}{is:M L}{items:Bool×M D}(h1:IG g=Y is)(h2:pI U src (pN O)=.ok items)(h3:t7 U c g items.2 (pN O)=J):Cs U g src c O=.nx (xF is O):=by
 unfold Cs;rw[h1];simp only[h2];rw[aB h3]
def JE{U:M PG}{g:CG}{c:CE}{O σ2:bh}{d:D}{r:M D}(h1:pG g d O=.ok σ2)(h2:pT U c σ2=.ok W):t7 U c g (d::r) O=t7 U c g r σ2:=by
 show(match pG g d O with
  |.ok σ2=>(match pT U c σ2 with
   |.ok W=>t7 U c g r σ2
   |_=>W)
  |_=>W)=_
 rw[h1];simp only[h2]
theorem LZ(s0 s1 s2:aaV D):∀(a:Int) (r:M Int) (h:rising (a::r)) (s3 s4:aaV D),t7 gp (.cmp .GtE (.var 3) (.var 4)) (.tup (.cons (.name 3) (.cons (.name 4) .nil))) (nB ((a::r).map D.int) (r.map D.int)) [s0,s1,s2,s3,s4]=J
|a,[],h,s3,s4=>rfl
|a,b::r,h,s3,s4=>by
 have l1:decide (b<=a)=W:=aN (by have:=h.1;lia);show t7 _ _ _ (.tup [.int a,.int b]::nB ((b::r).map D.int) (r.map D.int)) _=_;rw[JE (σ2:=[s0,s1,s2,Y (.int a),Y (.int b)]) rfl (by erw[l1])];exact LZ s0 s1 s2 b r h.2 _ _
def YS(x y:D)(a:Int)(r:M Int)(h:rising (a::r)):qS gp (.forr (.tup (.cons (.name 3) (.cons (.name 4) .nil))) (.zip (.cons (.var 2) (.cons (.sl (.var 2) (.some (.con (.int 1))) .none) .nil))) rH) [Y x,Y y,Y (.lst J ((a::r).map D.int)),B,B]=.nx [Y x,Y y,Y (.lst J ((a::r).map D.int)),B,B]:=by
 have hs:=szl;show Cs gp (.tup (.cons (.name 3) (.cons (.name 4) .nil))) (.zip (.cons (.var 2) (.cons (.sl (.var 2) (.some (.con (.int 1))) .none) .nil))) (.cmp .GtE (.var 3) (.var 4)) [Y x,Y y,Y (.lst J ((a::r).map D.int)),B,B]=_;have fi:=f9 (a::r);have fr':=f9 r;have c2:cut ((a::r).map D.int) (Y 1) B=r.map D.int:=fu _ 1 (by simp);have hf:pN [Y x,Y y,Y (.lst J ((a::r).map D.int)),B,B]=[Y (bE x),Y (bE y),Y (.lst W ((a::r).map D.int)),B,B]:=by
  show[Y (bE x),Y (bE y),Y (D.lst W (aF ((a::r).map D.int))),B,B]=_;rw[fi]
 refine(Rp (is:=[3,4]) rfl (items:=(W,nB ((a::r).map D.int) (r.map D.int))) ?_ ?_).trans rfl
 ·rw[hf];generalize(a::r).map D.int=W3 at *;generalize r.map D.int=W4 at *;erw[fi,c2,fr']
 ·rw[hf];exact LZ _ _ _ a r h B B
def aa3(ns:M Int):memD .non (ns.map D.int)=W:=by
 unfold memD;rw[AH,nE];intro n _ h;cases h
theorem tM(n:L):∀l:M D,(∀d∈l,nu d n=J)->gi l n=J
|[],_=>rfl
|d::r,h=>by
 show(nu d n&&gi r n)=J;rw[h d aj,tM n r λx hx=>h x (ai _ hx)];rfl
def JF{o:Bool}{l:M D}(h:∀d∈l,nu d 11=J):dY (.lst o l)=J:=tM 11 l h
def JG(a:M L)(r:M (M L)):cA .Eq (cG (a::r)) (.lst J [])=.ok (.bl W):=by
 rw[AX (show dY (cG (a::r))=J from JF λd hd=>by let#[i,_,rfl]:=b7.mp hd;rfl) rfl];rfl
def wx{ns:M Int}{ab:Int}(h:mF ns ab)(ha:ab<=12):∀n∈ns,Num n:=λn hn=>by
 have:=h.b n hn;have:(12:Int)<10 ^ 30:=by decide
 exact#[by omega,by omega]
def YT{ns:M Int}{ab:Int}(h:mF ns ab)(ha:ab<=12):iQ [cG (iR ns)]=.ok (.lst J (ns.map D.int)):=by
 have hs:=szl;cases ns with
 |nil=>kernel_rfl
 |cons a r=>
  have hn:=wx h ha;have fi:=f9 (a::r);have fr':=f9 r;have nr:=JG mE (bU ((a::r).map a9));have fw:=cZ (bU ((a::r).map a9));have qc:=NI ((a::r).map a9) (by have:=h.l;rw[ay];exact#[by simp,this]);have q:=VT (a::r) hn;have fm:aF (((a::r).map a9).map wD)=((a::r).map a9).map wD:=cZ _;have q:ee (pG (.name 0)) (λ_=>.ok J) (pE gp (.call 0 (.cons (.var 0) .nil))) (((a::r).map a9).map wD) [B]=.ok ((a::r).map D.int):=by rw[bW];exact q
  have mo:cA .In .non (.lst W ((a::r).map D.int))=.ok (.bl W):=by
   rw[IX rfl (tM 12 _ λd hd=>by let#[i,_,rfl]:=b7.mp hd;rfl),aa3]
  have l0:decide (a<0)=W:=aN (by have:=h.b a aj;lia);have i0:fQ ((a::r).map D.int) 0=Y (.int a):=jx _ _;have c2:cut ((a::r).map D.int) (Y 1) B=r.map D.int:=fu _ 1 (by simp);have c1:cut (D.str (strOf mE)::(bU ((a::r).map a9)).map wD) (Y 1) B=(bU ((a::r).map a9)).map wD:=fu _ 1 (by simp);have oi:=qX (a::r);have ow:=ly ((a::r).map a9);have zl:=λx y=>YS x y a r h.r;have qc:gz [.lst W ((bU ((a::r).map a9)).map wD)]=_:=qc;have nr:cA .Eq (.lst W (.str (strOf mE)::(bU ((a::r).map a9)).map wD)) (.lst J [])=.ok (.bl W):=nr;show iQ [.lst W (.str (strOf mE)::(bU ((a::r).map a9)).map wD)]=_;generalize(bU ((a::r).map a9)).map wD=W1 at *;generalize((a::r).map a9).map wD=W2 at *;generalize(a::r).map D.int=W3 at *;generalize r.map D.int=W4 at *;unfold iQ pQ;unfold gp at q zl ⊢;erw[nr,fw,jx,onS,c1,qc,fm,ow,q,fi,mo,i0,l0,oi,DS,zl]
theorem Gq(row ab:Int)(w t:aaV D):∀(ns:M Int) (h:∀n∈ns,1<=n/\n<=ab) (x:aaV D),t7 pV (.not (.chain .LtE .LtE (.con (.int 1)) (.var 4) (.var 2))) (.name 4) (ns.map D.int) [w,Y (.int row),Y (.int ab),t,x]=J
|[],_,x=>rfl
|n::r,h,x=>by
 have g1:=aC (h n aj).1;have g2:=aC (h n aj).2;rw[dm,JE (σ2:=[w,Y (.int row),Y (.int ab),t,Y (.int n)]) rfl (by erw[g1,g2])];exact Gq row ab w t r (λm hm=>h m (ai _ hm)) _
def Rq(row ab:Int)(w:D)(ns:M Int)(h:∀n∈ns,1<=n/\n<=ab):qS pV (.forr (.name 4) (.seq (.var 3)) ym) [Y w,Y (.int row),Y (.int ab),Y (.lst J (ns.map D.int)),B]=.nx [Y w,Y (.int row),Y (.int ab),Y (.lst J (ns.map D.int)),B]:=by
 show Cs pV (.name 4) (.seq (.var 3)) (.not (.chain .LtE .LtE (.con (.int 1)) (.var 4) (.var 2))) [Y w,Y (.int row),Y (.int ab),Y (.lst J (ns.map D.int)),B]=.nx [Y w,Y (.int row),Y (.int ab),Y (.lst J (ns.map D.int)),B];have fi:=f9 ns;have hf:pN [Y w,Y (.int row),Y (.int ab),Y (.lst J (ns.map D.int)),B]=[Y (bE w),Y (.int row),Y (.int ab),Y (.lst W (ns.map D.int)),B]:=by
  show[Y (bE w),Y (.int row),Y (.int ab),Y (D.lst W (aF (ns.map D.int))),B]=_;rw[fi]
 refine(Rp (is:=[4]) rfl (items:=(W,ns.map D.int)) ?_ ?_).trans rfl
 ·rw[hf];generalize ns.map D.int=W3 at *;erw[fi]
 ·rw[hf];exact Gq row ab _ _ ns h B
def YU{ns:M Int}{ab:Int}(h:mF ns ab)(ha:ab<=12)(row:Int):pW [cG (b9::iR ns),.int row,.int ab]=.ok (.lst J (ns.map D.int)):=by
 have fr:=cZ (iR ns);have fi:=f9 ns;have q:=YT h ha;have q:iQ [.lst W ((iR ns).map wD)]=_:=q;have c1:cut (D.str (strOf b9)::(iR ns).map wD) (Y 1) B=(iR ns).map wD:=fu _ 1 (by simp);show pW [.lst W (.str (strOf b9)::(iR ns).map wD),.int row,.int ab]=_;generalize(iR ns).map wD=T at fr q c1 ⊢;have hl:=λw=>Rq row ab w ns h.b;have ho:=qX ns;unfold pW xK;unfold pV at hl ⊢;generalize ns.map D.int=W3 at *;erw[fr,c1,q,fi,ho,DS,hl]
def aa4(w:Rw):jc (bE w.val)=W:=by cases w<;>rfl
def DT(w:Rw):be w.val=J:=by
 cases w with
 |parts n c l ks=>show(c9 (ks.map wD)&&J)=J;rw[ly];rfl
 |isa l k ks=>show(c9 (ks.map wD)&&J)=J;rw[ly];rfl
 |size l k v a b=>rcases a with _|a<;>rcases b with _|b<;>rfl
 |_=>rfl
def W5(ks:M (M L))(n:L):gi (ks.map wD) n=J:=tM _ _ λd hd=>by let#[i,_,rfl]:=b7.mp hd;rfl
def aa5(w:Rw):nu (bE w.val) 9=J:=by
 cases w with
 |parts n c l ks=>show(gi (aF (ks.map wD)) 7&&J)=J;rw[cZ,W5];rfl
 |isa l k ks=>show(gi (aF (ks.map wD)) 7&&J)=J;rw[cZ,W5];rfl
 |size l k v a b=>rcases a with _|a<;>rcases b with _|b<;>rfl
 |_=>rfl
def VU{w:Rw}(h:w.Ok){ws:M (M L)}(hv:w.Vr ws)(row ab:Int)(ha:ab<12):xO [cG ws,.int row,.int ab]=.ok w.val:=by
 have q:=acs w h hv;have fr:=Aa ws;have hn:=aa4 w;have ho:=DT w;have g:=aN (show ¬(12:Int)<=ab by lia);unfold xO CC Jg;generalize cG ws=d at q fr ⊢;generalize w.val=v at q hn ho ⊢;erw[q,fr,hn,ho,g]
abbrev Cl:=M Int×M Rw
def cD(p:Cl):D:=.tup [.lst J (p.1.map D.int),.lst J (p.2.map Rw.val)]
def cF(p:Cl):D:=.tup [.lst W (p.1.map D.int),.lst W (aF (p.2.map Rw.val))]
theorem DU:∀C:M Cl,aF (C.map cD)=C.map cF
|[]=>rfl
|p::r=>by
 show bE (cD p)::aF (r.map cD)=_;rw[DU r];show D.tup [.lst W (aF (p.1.map D.int)),.lst W (aF (p.2.map Rw.val))]::_=_;rw[f9];rfl
theorem frzs_map':∀l:M D,aF l=l.map bE
|[]=>rfl
|d::r=>by
 show bE d::aF r=_;rw[frzs_map' r];rfl
def acv(C:M Cl)(hn:C≠[]):cA .Eq (.lst W (C.map cF)) (.lst J [])=.ok (.bl W):=by
 rw[AX (JF (l:=C.map cF) λd hd=>by
  let#[p,hp,rfl]:=b7.mp hd;show(gi (p.1.map D.int) 9&&(gi (aF (p.2.map Rw.val)) 9&&J))=J;rw[tM _ _ (λd hd=>by let#[i,_,rfl]:=b7.mp hd;rfl),tM _ _ (λd hd=>by
   rw[frzs_map',bW]at hd;let#[w,_,rfl]:=b7.mp hd;exact aa5 w)]
  rfl) rfl]
 cases C with
 |nil=>exact aG rfl hn
 |cons=>rfl
def Rr(a:M L)(r:M (M L)):vY (cG (a::r)) (.int 0)=.ok (.str (strOf a)):=by
 show(R.opt (fQ ((a::r).map wD) 0)).bind _=_;rw[show fQ ((a::r).map wD) 0=Y (wD a)from kG (j:=0) rfl];rfl
def JH:au "claim"=strOf b9:=by decide +kernel
abbrev yx(tx:aaV D)(C:M Cl)(k:Int)(ws:M (M L))(tk:aaV D):bh:=[tx,Y (.lst J (C.map cD)),Y (.int k),Y (cG ws),tk,B]
abbrev wy:bh->Fl:=dz iZ 1000 jF
def VV(tx tk:aaV D)(C:M Cl)(hl:C.length<12)(k:Int){ns:M Int}(h:mF ns (C.length:Int)):wy (yx tx C k (b9::iR ns) tk)=.nx (yx tx (C++[(ns,[])]) k (b9::iR ns) B):=by
 have hs:=szl;have nr:=JG b9 (iR ns);have fr:=Aa (b9::iR ns);have h0:=Rr b9 (iR ns);have q:=YU h (by lia) k;have fi:=f9 ns;have fc:=DU C;have cl:(C.map cD).length=C.length:=ay _;have cf:(C.map cF).length=C.length:=ay _;have eb:=gM (strOf b9);have ea:C.map cD++[.tup [.lst J (ns.map D.int),.lst J []]]=(C++[(ns,[])]).map cD:=by rw[cC];rfl
 have g:=aN (show ¬(12:Int)<=(C.length:Int)by lia);unfold wy jF iZ yx;rw[<-ea];generalize cG (b9::iR ns)=d at nr fr h0 q ⊢;generalize C.map cD=X at fc cl ⊢;generalize C.map cF=aap at fc cf ⊢;have ow:=qX ns;have mv:∀(a b c d:aaV D) (U:M PG),qS U (.expr (.mth .append (.var 1) (.cons (.tup (.cons (.var 4) (.cons (.lst .nil) .nil))) .nil))) [a,Y (.lst J X),b,c,Y (.lst J (ns.map D.int)),d]=.nx [a,Y (.lst J (X++[.tup [.lst J (ns.map D.int),.lst J []]])),b,c,B,d]:=λa b c d U=>by
  show(if(decide (1≠4)&&decide (X.length<ah))=J then _ else _)=_;rw[aC (show X.length<ah by lia)];rfl
 generalize ns.map D.int=W3 at *;erw[nr,fr,h0,JH,eb,fc,cf,q,fi,g,ow,DS,mv]
def aa6{U:M PG}{n:L}{s t:CS}{r:cE}{O:bh}:dz U n (.two s t r) O=qU (xC U s t O) (dz U n r):=by
 show(match xC U s t O with|.nx σ'=>dz U n r σ'|x=>x)=_;unfold qU;cases xC U s t O<;>rfl
def aa7{U:M PG}{O:bh}{j k:L}{is:M Int}{o a:CE}(h:oF O o=Y (k,is)):xC U (.asg (.name j) o) (.expr (.mth .append (.var j) (.cons a .nil))) O=EA U k is j a O:=by
 show(if j=j then(match oF O o with|some p=>EA U p.1 p.2 j a O|none=>.bad)else .bad)=_;rw[aB rfl,h]
def wz(n:L):gO (n+1) (-1)=Y n:=by
 unfold gO;simp
 lia
def VW(Q:M D)(y:D)(r:M Int):iP (-1::r) (.lst J (Q++[y]))=iP r y:=by
 show((gO (Q++[y]).length (-1)).bind λn=>((Q++[y])[n]?).bind λy=>iP r y)=_;rw[ao,bJ,wz _];show((Q++[y])[Q.length]?).bind _=_;rw[cj (aW _),kX];rfl
def JI(Q:M D)(t:D)(vs:M D)(hz:vs.length<=1000)(z:D):eT [-1,1] (.lst J (Q++[.tup [t,.lst J vs]])) z=Y (.lst J (Q++[.tup [t,.lst J (vs++[z])]])):=by
 have hs:=szl;have e:eT [1] (.tup [t,.lst J vs]) z=Y (.tup [t,.lst J (vs++[z])]):=by
  show(if vs.length<ah then Y (D.lst J (vs++[z]))else B).map (λy'=>D.tup [t,y'])=_;rw[aB (by lia)];rfl
 show((gO (Q++[D.tup [t,.lst J vs]]).length (-1)).bind λn=>((Q++[D.tup [t,.lst J vs]])[n]?).bind λy=>(eT [1] y z).map λy'=>D.lst J ((Q++[D.tup [t,.lst J vs]]).set n y'))=_;rw[ao,bJ,wz _];show((Q++[D.tup [t,.lst J vs]])[Q.length]?).bind _=_;rw[cj (aW _),kX];show(eT [1] (D.tup [t,.lst J vs]) z).map _=_;rw[e];show Y (D.lst J ((Q++[D.tup [t,.lst J vs]]).set Q.length (.tup [t,.lst J (vs++[z])])))=_;rw[w4 _ _ (aW _),kX];rfl
def acw{U:M PG}{a:CE}(s0 s2 s3 s4:aaV D)(Q:M D)(p:Cl):EA U 1 [-1,1] 5 a [s0,Y (.lst J (Q++[cD p])),s2,s3,s4,B]=(pE U a [s0,Y (.lst J (Q++[cD p])),s2,s3,s4,Y (.lst J (p.2.map Rw.val))]).a_ λd=>if be d=J then(R.opt (eT [-1,1] (.lst J (Q++[cD p])) d)).a_ λx'=>.nx [s0,Y x',s2,s3,s4,B]else .bad:=by
 unfold EA;show(match iP [-1,1] (.lst J (Q++[cD p]))with
  |some (.lst J ys)=>if 5<6 then(pE U a [s0,Y (.lst J (Q++[cD p])),s2,s3,s4,Y (.lst J ys)]).a_ λd=>if be d=J then(R.opt (eT [-1,1] (.lst J (Q++[cD p])) d)).a_ λx'=>.nx [s0,Y x',s2,s3,s4,B]else .bad else .bad
  |_=>.bad)=_
 rw[VW];rfl
def hd_r(w:Rw){ws:M (M L)}(hv:w.Vr ws):∃a r,ws=a::r/\(strOf a==strOf b9)=W:=by
 have key:∀{z:M L}{x:M L}{r:M (M L)},x∈[l5,aL,gq,b_,gu]->Vs z (x::r) ws->∃a r,ws=a::r/\(strOf a==strOf b9)=W:=by
  intro z x r hx h;let#[us,ws',rfl,hc,h]:=h;rcases hc with rfl|⟨_,rfl⟩|⟨_,rfl⟩|⟨_,rfl⟩
  ·refine#[_,_,rfl,?_];simp only[aM,aP,CY]at hx;rcases hx with rfl|rfl|rfl|rfl|rfl<;>decide +kernel
  ·exact#[_,_,rfl,by decide +kernel]
  ·exact#[_,_,rfl,by decide +kernel]
  ·exact#[_,_,rfl,by decide +kernel]
 rcases hv with hv|⟨l,ks,rfl,rfl⟩
 case inr=>exact#[_,_,rfl,by decide +kernel]
 cases w with
 |parts n c l ks=>
  generalize qh (Rw.words (.parts n c l ks))=z at hv;have hv:Vs z (jg n c++(jz l++bU ks)) ws:=hv;unfold jg at hv;split at hv
  ·exact key (x:=l5) (by decide) hv
  ·split at hv
   ·exact key (x:=aL) (by decide) hv
   ·exact key (x:=gq) (by decide) hv
 |join=>exact key (x:=b_) (by decide) hv
 |size=>exact key (x:=b_) (by decide) hv
 |isa=>exact key (x:=b_) (by decide) hv
 |a_=>exact key (x:=gu) (by decide) hv
def aa8(tx tk:aaV D)(k:Int)(w:Rw)(h:w.Ok){ws:M (M L)}(hv:w.Vr ws)(Q:M Cl)(p:Cl)(hp:p.2.length<12):wy (yx tx (Q++[p]) k ws tk)=.nx (yx tx (Q++[(p.1,p.2++[w])]) k ws tk):=by
 have hs:=szl;let#[a,r,ew,ha]:=hd_r w hv;have hx:=VU h hv k (p.2.length:Int) (by lia);have o:=DT w;rw[ew]at hx ⊢;have nr:=JG a r;have fr:=Aa (a::r);have h0:=Rr a r;have e:=acv (Q++[p]) (by simp);have fc:=DU (Q++[p]);have fl:(aF (p.2.map Rw.val)).length=p.2.length:=by rw[jD,ay]
 have e1:∀p,(Q++[p]).map cD=Q.map cD++[cD p]:=λp=>by rw[cC];rfl
 have al:=JI (Q.map cD) (.lst J (p.1.map D.int)) (p.2.map Rw.val) (by rw[ay];lia) w.val;have em:p.2.map Rw.val++[w.val]=(p.2++[w]).map Rw.val:=by rw[cC];rfl
 rw[em]at al;unfold wy jF iZ yx;rw[e1]at fc ⊢;rw[e1];generalize cG (a::r)=d at nr fr h0 hx ⊢;generalize(Q++[p]).map cF=aap at fc e ⊢;erw[nr,fr,h0,JH,ha,fc,e,aa6];rw[aa7 (k:=1) (is:=[-1,1]) rfl,acw,show pE _ _ _=.ok w.val by
  erw[fr,fl,hx],pq_thn_ok',aB o,show eT [-1,1] (.lst J (Q.map cD++[cD p])) w.val=_ from al]
 erw[];rfl
def YV(tx tk:aaV D)(C:M Cl)(k:Int):wy (yx tx C k [] tk)=.ct (yx tx C k [] tk):=by
 have nr:cA .Eq (cG []) (.lst J [])=.ok (.bl J):=rfl;have fr:=Aa [];unfold wy jF iZ yx;generalize cG []=d at nr fr ⊢;erw[nr,fr]
def EO(i:L)(p:Cl):Prop:=mF p.1 (i:Int)/\p.2.length<=12/\∀w∈p.2,w.Ok
def nQ:L->M Cl->Prop
|_,[]=>True
|i,p::r=>EO i p/\nQ (i+1) r
def DV(p:Cl):M (M (M L)):=(b9::iR p.1)::p.2.map Rw.words
def lines(C:M Cl):M (M (M L)):=C.flatMap DV
inductive Lk where
|cl (ns:M Int)
|rw(w:Rw)
def Lk.words:Lk->M (M L)
|.cl ns=>b9::iR ns
|.rw w=>w.words
def Lk.Vr:Lk->M (M L)->Prop
|.cl ns,ws=>ws=b9::iR ns
|.rw w,ws=>w.Vr ws
noncomputable def VX(p:Cl):M Lk:=.cl p.1::p.2.map .rw
def wA(C:M Cl):M Lk:=C.flatMap VX
theorem Gr:∀C:M Cl,(wA C).map Lk.words=lines C
|[]=>rfl
|p::r=>by
 show(VX p++wA r).map Lk.words=DV p++lines r;rw[cC,Gr r];show _::(p.2.map Lk.rw).map Lk.words++_=_;rw[bW];rfl
def Ak:M Lk->M (M (M L))->Prop
|[],aaU=>aaU=[]
|k::r,aaU=>∃ws S',(aaU=ws::S'\/aaU=[]::ws::S')/\k.Vr ws/\Ak r S'
abbrev BU:D->bh->R bh:=pG (.tup (.cons (.name 2) (.cons (.name 3) .nil)))
def L0{k:Lk}{r:M Lk}{aaU:M (M (M L))}(h:Ak (k::r) aaU):∃ws S',k.Vr ws/\Ak r S'/\∀(tx s2 s3 s4:aaV D) (C:M Cl) (j:L),∃j' t2 t3,forR BU wy (gj j (aaU.map cG)) [tx,Y (.lst J (C.map cD)),s2,s3,s4,B]=forR BU wy (.tup [.int ((j':L):Int),cG ws]::gj (j'+1) (S'.map cG)) [tx,Y (.lst J (C.map cD)),t2,t3,s4,B]:=by
 let#[ws,S',hS,h1,h2]:=h;refine#[ws,S',h1,h2,λtx s2 s3 s4 C j=>?_];rcases hS with rfl|rfl
 ·exact#[j,s2,s3,rfl]
 ·refine#[j+1,Y (.int (j:Int)),Y (cG []),?_];have g1:BU (.tup [.int (j:Int),cG []]) [tx,Y (.lst J (C.map cD)),s2,s3,s4,B]=.ok (yx tx C (j:Int) [] s4):=rfl;show forR BU wy (.tup [.int (j:Int),cG []]::gj (j+1) ((ws::S').map cG)) _=_;rw[aa2 g1 (YV tx s4 C (j:Int))];rfl
theorem Gs(tx s4:aaV D)(Q:M Cl)(aaQ:M Lk):∀(ws:M Rw) (h:∀w∈ws,w.Ok) (p:Cl) (hp:p.2.length+ws.length<=12) (aaU:M (M (M L))) (hS:Ak (ws.map .rw++aaQ) aaU) (j:L) (s2 s3:aaV D),∃j' S' t2 t3,Ak aaQ S'/\forR BU wy (gj j (aaU.map cG)) [tx,Y (.lst J ((Q++[p]).map cD)),s2,s3,s4,B]=forR BU wy (gj j' (S'.map cG)) [tx,Y (.lst J ((Q++[(p.1,p.2++ws)]).map cD)),t2,t3,s4,B]
|[],_,p,_,aaU,hS,j,s2,s3=>#[j,aaU,s2,s3,hS,by rw[bK]]
|w::ws,h,p,hp,aaU,hS,j,s2,s3=>by
 have hp:p.2.length+(ws.length+1)<=12:=hp;let#[us,S1,hv,h1,hq]:=L0 hS;let#[j1,u2,u3,q0]:=hq tx s2 s3 s4 (Q++[p]) j;let#[j',S',t2,t3,h2,q]:=Gs tx s4 Q aaQ ws (λx hx=>h x (ai _ hx)) (p.1,p.2++[w]) (by rw[ao,bJ];lia) S1 h1 (j1+1) (Y (.int (j1:Int))) (Y (cG us));refine#[j',S',t2,t3,h2,?_];have g1:BU (.tup [.int (j1:Int),cG us]) [tx,Y (.lst J ((Q++[p]).map cD)),u2,u3,s4,B]=.ok (yx tx (Q++[p]) (j1:Int) us s4):=rfl;rw[q0,lJ g1 (aa8 tx s4 (j1:Int) w (h w aj) hv Q p (by lia)),q,show p.2++[w]++ws=p.2++w::ws by simp]
theorem L4(tx:aaV D):∀(C:M Cl) (C0:M Cl) (h:nQ C0.length C) (hl:C0.length+C.length<=12) (aaU:M (M (M L))) (hS:Ak (wA C) aaU) (j:L) (s2 s3 s4:aaV D),∃t2 t3 t4,forR BU wy (gj j (aaU.map cG)) [tx,Y (.lst J (C0.map cD)),s2,s3,s4,B]=.nx [tx,Y (.lst J ((C0++C).map cD)),t2,t3,t4,B]
|[],C0,_,_,aaU,hS,j,s2,s3,s4=>by
 cases hS;exact#[s2,s3,s4,by rw[bK];rfl]
|p::r,C0,h,hl,aaU,hS,j,s2,s3,s4=>by
 have hl:C0.length+(r.length+1)<=12:=hl;let#[#[h1,h2,h3],h4]:=h;have hS:Ak (.cl p.1::(p.2.map .rw++wA r)) aaU:=hS;let#[us,S1,hv,g1,hq]:=L0 hS;cases(show us=b9::iR p.1 from hv);let#[j1,u2,u3,q0]:=hq tx s2 s3 s4 C0 j;have g2:BU (.tup [.int (j1:Int),cG (b9::iR p.1)]) [tx,Y (.lst J (C0.map cD)),u2,u3,s4,B]=.ok (yx tx C0 (j1:Int) (b9::iR p.1) s4):=rfl;let#[j2,S2,v2,v3,g3,q1]:=Gs tx B C0 (wA r) p.2 h3 (p.1,[]) (by simpa using h2) S1 g1 (j1+1) (Y (.int (j1:Int))) (Y (cG (b9::iR p.1)));let#[t2,t3,t4,q2]:=L4 tx r (C0++[p]) (by rw[ao,bJ];exact h4) (by rw[ao,bJ];lia) S2 g3 j2 v2 v3 B;refine#[t2,t3,t4,?_];rw[q0,lJ g2 (VV tx s4 C0 (by lia) (j1:Int) h1),q1,iT,q2,bx];rfl
def aa9(C:M Cl)(h:nQ 0 C)(hl:C.length<=12)(x:Str)(hx:Ak (wA C) (ug x))(hb:x.length+2<=ah):jV [.str x]=.ok (.lst J (C.map cD)):=by
 have hs:=szl;have q:=Rb x hb;let#[t2,t3,t4,l]:=L4 (Y (.str x)) C [] h (by simpa using hl) _ hx 0 B B B;generalize ug x=aaU at *;have e:aF (aaU.map EJ)=aaU.map cG:=by
  refine(frzs_map' _).trans ?_;rw[bW];refine jM λi _=>?_;show D.lst W (aF (i.map wD))=_;rw[cZ];rfl
 have ho:c9 (aaU.map EJ)=J:=by
  have:∀l:M (M (M L)),c9 (l.map EJ)=J:=λl=>by
   induction l with
   |nil=>rfl
   |cons a r ih=>show((J&&c9 (a.map wD))&&c9 (r.map EJ))=J;rw[ih,ly];rfl
  exact this _
 have key:jV [.str x]=EB (qU (forR BU wy (gj 0 (aaU.map cG)) [Y (.str x),Y (.lst J (([]:M Cl).map cD)),B,B,B,B]) (dz iZ 1000 (.cons (.ret (.var 1)) .nil))):=by
  unfold jV rV iZ;erw[q,e,ho];rfl
 rw[key,l,iT];erw[]
theorem W6:∀(ks:M (M L)),(∀w∈ks,fO w)->∀w∈bU ks,fO w
|[],_,w,h=>by cases h
|[a],h,w,hw=>h w hw
|a::b::t,h,w,hw=>by
 have hw:w∈a::qg::bU (b::t):=hw;rcases aM.mp hw with rfl|hw
 ·exact h w aj
 ·rcases aM.mp hw with rfl|hw
  ·exact wo _ (by decide)
  ·exact W6 (b::t) (λx hx=>h x (ai _ hx)) w hw
def VY(ks:M (M L))(h:ks.length<=4):(bU ks).length<=7:=by
 rcases ks with _|⟨a,_|⟨b,_|⟨c,_|⟨d,_|⟨e,r⟩⟩⟩⟩⟩
 ·simp[bU]
 ·simp[bU]
 ·simp[bU]
 ·simp[bU]
 ·simp[bU]
 ·exact aG h (by simp only[aT];lia)
def acy{ns:M Int}{ab:Int}(h:mF ns ab)(ha:ab<=12):(∀w∈b9::iR ns,fO w)/\(b9::iR ns).length<=12:=by
 unfold iR;split
 ·exact#[jj (kw b9) (by simp),by simp]
 ·refine#[jj (kw b9) (jj (kw mE) (W6 _ λw hw=>?_)),?_]
  ·let#[n,hn,rfl]:=b7.mp hw;exact ji (wx h ha n hn)
  ·have:=VY (ns.map a9) (by rw[ay];exact h.l);simp only[aT];lia
theorem Rt:∀(C:M Cl) (i:L) (h:nQ i C),(lines C).length<=13*C.length
|[],_,_=>by simp[lines]
|p::r,i,h=>by
 have ih:=Rt r (i+1) h.2;show(DV p++lines r).length<=13*(r.length+1);have:=h.1.2.1;have e:(DV p).length=p.2.length+1:=by show(p.2.map Rw.words).length+1=_;rw[ay]
 rw[ao,e];lia
def YW(ls:M (M L))(h:∀l∈ls,l.length<=1000):∃l,dU (strOf [10]) (ls.map strOf)=strOf l/\l.length<=1001*ls.length:=by
 induction ls with
 |nil=>exact#[[],rfl,by simp]
 |cons a r ih=>
  let#[l,e,hl]:=ih λx hx=>h x (ai _ hx);have ha:=h a aj;cases r with
  |nil=>exact#[a,rfl,by simp;lia]
  |cons b t=>
   refine#[a++[10]++l,?_,by simp only[ao,aT,iV]at hl ⊢;lia];show strOf a++strOf [10]++dU (strOf [10]) ((b::t).map strOf)=_;rw[e,qY,qY]
def jA:L->D->Prop
|0,_=>aR
|n+1,.lst o xs=>o=W/\∀y∈xs,jA n y
|n+1,.tup xs=>∀y∈xs,jA n y
|_+1,.non=>True
|_+1,.bl _=>True
|_+1,.int _=>True
|_+1,.str _=>True
|_+1,_=>aR
theorem DW:∀(n:L) (x:D),jA n x->bE x=x
|0,x,h=>h.elim
|n+1,x,h=>by
 have key:∀xs:M D,(∀y∈xs,jA n y)->aF xs=xs:=λxs h=>by
  rw[frzs_map'];exact(jM λy hy=>DW n y (h y hy)).trans (La _)
 cases x with
 |lst o xs=>
  let#[rfl,h]:=h;show D.lst W (aF xs)=_;rw[key xs h]
 |tup xs=>
  show D.tup (aF xs)=_;rw[key xs h]
 |non=>rfl
 |bl=>rfl
 |int=>rfl
 |str=>rfl
 |_=>exact h.elim
theorem JJ:∀xs:M D,nB xs xs=xs.map λy=>.tup [y,y]
|[]=>rfl
|x::r=>by
 show D.tup [x,x]::nB r r=_;rw[JJ r];rfl
def BV(r:M D->R D)(xs:M D)(fz:∀y∈xs,bE y=y)(h:∀y∈xs,r [y,y]=.ok (.bl J)):ee (pG (.tup (.cons (.name 0) (.cons (.name 1) .nil)))) (λ_=>.ok J) (pE (jw r) (.call 0 (.cons (.var 0) (.cons (.var 1) .nil)))) (nB xs xs) [B,B]=.ok (xs.map λ_=>.bl J):=by
 rw[JJ];refine jv (λy=>D.tup [y,y]) (λO=>∃o o',O=[o,o']) (λ_=>.bl J) xs _ #[B,B,rfl] ?_;rintro y hy O ⟨o,o',rfl⟩;refine#[[Y y,Y y],rfl,#[_,_,rfl],?_];have f:=fz y hy;have q:=h y hy;unfold jw;erw[f,q]
def Ru(xs:M D):(xs.map λ_=>D.bl J).all nZ=J/\(xs.map λ_=>D.bl J).all pJ=J:=by
 rw[jH,jH];simp[nZ,pJ]
theorem ER:∀(n:L) (x:D),jA n x->jr n [x,x]=.ok (.bl J)
|0,x,h=>h.elim
|n+1,x,h=>by
 have fx:=DW (n+1) x h;show dG (jw (jr n)) 1000 zN 2 jZ [x,x]=_;cases x with
 |lst o xs=>
  let#[rfl,h]:=h;have fz:aF xs=xs:=by
   have e:D.lst W (aF xs)=.lst W xs:=fx;cases e':aF xs with
   |_=>rw[e']at e;cases e;rfl
  have q:=BV (jr n) xs (λy hy=>DW n y (h y hy)) λy hy=>ER n y (h y hy);let#[b1,b2]:=Ru xs;unfold jw at q ⊢;generalize jr n=r at q;unfold jZ;erw[fz,q,b1,b2]
 |tup xs=>
  have fz:aF xs=xs:=by
   have e:D.tup (aF xs)=.tup xs:=fx;cases e':aF xs with
   |_=>rw[e']at e;cases e;rfl
  have q:=BV (jr n) xs (λy hy=>DW n y (h y hy)) λy hy=>ER n y (h y hy);let#[b1,b2]:=Ru xs;unfold jw at q ⊢;generalize jr n=r at q;unfold jZ;erw[fz,q,b1,b2]
 |non=>unfold jZ jw;erw[]
 |bl b=>unfold jZ jw;erw[]
 |int i=>unfold jZ jw;erw[]
 |str x=>unfold jZ jw;erw[]
 |_=>exact h.elim
def HW(ns:M Int):cA .Eq (.lst W (ns.map D.int)) (.lst J [])=.ok (.bl ns.isEmpty):=by
 rw[AX (JF λd hd=>by let#[i,_,rfl]:=b7.mp hd;rfl) rfl];cases ns<;>rfl
def coS:au "claim on "=strOf (jn [b9,mE]++[32]):=by decide +kernel
def YX(a:Int)(r:M Int):b9::iR (a::r)=[b9,mE]++bU ((a::r).map a9):=by
 unfold iR;rw[aD (by simp)];rfl
def YY{ns:M Int}{ab:Int}(h:mF ns ab)(ha:ab<=12):∀w∈ns.map a9,fO w:=λw hw=>by
 let#[n,hn,rfl]:=b7.mp hw;exact ji (wx h ha n hn)
abbrev lD(l:M (M L)):D:=wD (jn l)
def Rv(m:M D->R D)(hm:∀w:Rw,w.Ok->m [bE w.val]=.ok (.str (strOf (jn w.words))))(U:M PG)(ws:M Rw)(h:∀w∈ws,w.Ok):ee (pG (.name 0)) (λ_=>.ok J) (pE (.fn m []::U) (.call 0 (.cons (.var 0) .nil))) (aF (ws.map Rw.val)) [B]=.ok ((ws.map Rw.words).map lD):=by
 rw[frzs_map',bW,bW];refine jv (λw:Rw=>bE w.val) (λO=>∃o,O=[o]) (λw=>lD w.words) ws _ #[B,rfl] ?_;rintro w hw O ⟨o,rfl⟩;refine#[[Y (bE w.val)],rfl,#[_,rfl],?_];have f:=Ew w.val;have q:=hm w (h w hw);unfold lD wD;generalize bE w.val=v at f q ⊢;erw[f,q]
abbrev L5:D->bh->R bh:=pG (.tup (.cons (.name 2) (.cons (.name 3) .nil)))
def W7(ls:M (M (M L))):c9 (ls.map lD)=J:=by
 have:=ly (ls.map jn);rwa[bW]at this
def NJ(ls:M (M (M L))):aF (ls.map lD)=ls.map lD:=l_ _ (λ_=>rfl) ls
def YZ{i:L}{p:Cl}(h:EO i p):(DV p).length<=13:=by
 have:(DV p).length=p.2.length+1:=by show(p.2.map Rw.words).length+1=_;rw[ay]
 have:=h.2.1
 lia
def NK(C:M Cl):aF (C.map cF)=C.map cF:=by rw[<-DU C,d7]
def aa_(x y:M L):∀r:M (M L),jn (bU ((x++y)::r))=x++jn (bU (y::r))
|[]=>rfl
|b::r=>by
 let#[tl,e]:=q9 b r;show(x++y)++32::jn (qg::bU (b::r))=x++(y++32::jn (qg::bU (b::r)));rw[bx]
def Rx{ns:M Int}{ab:Int}(h:mF ns ab)(ha:ab<=12):∃x ds,(ns=[]\/x=strOf (jn (b9::iR ns)))/\ee (pG (.name 0)) (λ_=>.ok J) (pE j0 (.bin .Add (.bin .Mult (.con (.str "claim on ")) (.blt .int (.cons (.cmp .Eq (.var 0) (.con (.int 0))) .nil))) (.blt .str (.cons (.ix (.var 1) (.var 0)) .nil)))) (jX 0 ns.length) [B,Y (.lst W (ns.map D.int))]=.ok ds/\kL .join (.str (strOf [32,111,114,32])) [.lst J ds]=.ok (.str x):=by
 cases ns with
 |nil=>exact#[strOf [],[],.inl rfl,rfl,by kernel_rfl]
 |cons a r=>
  have on:=YY h ha;have fi:=f9 (a::r);have hc:ee (pG (.name 0)) (λ_=>.ok J) (pE j0 (.bin .Add (.bin .Mult (.con (.str "claim on ")) (.blt .int (.cons (.cmp .Eq (.var 0) (.con (.int 0))) .nil))) (.blt .str (.cons (.ix (.var 1) (.var 0)) .nil)))) (jX 0 (a::r).length) [B,Y (.lst W ((a::r).map D.int))]=.ok ((((jn [b9,mE]++[32])++a9 a)::r.map a9).map wD):=by
   unfold jX;rw[jv (λi:L=>D.int (0+(i:Int))) (λO=>∃o,O=[o,Y (.lst W ((a::r).map D.int))]) (λi=>if i=0 then wD ((jn [b9,mE]++[32])++a9 a)else wD (a9 ((a::r).getD i 0))) (bH (a::r).length) _ #[B,rfl] (by
    rintro i hi O ⟨o,rfl⟩;have hi:i<(a::r).length:=iz.mp hi;refine#[[Y (.int (0+(i:Int))),Y (.lst W ((a::r).map D.int))],rfl,#[_,rfl],?_];have hat:fQ ((a::r).map D.int) (i:Int)=Y (.int ((a::r).getD i 0)):=kG (by rw[bT,bV,aH hi];rfl);have hm:(a::r).getD i 0∈a::r:=by rw[bV,aH hi];exact jI hi
    have q:=tL (wx h ha _ hm);have nl:=(ji (wx h ha _ hm)).2.2.2;rw[Kl];by_cases c:i=0
    ·subst c;have g:(((0:L):Int)==0)=J:=rfl;have b1:fG .Mult (.str (strOf (jn [b9,mE]++[32]))) (.int 1)=.ok (.str (strOf (jn [b9,mE]++[32]))):=by kernel_rfl
     have b2:=je (jn [b9,mE]++[32]) (a9 a) (by have e:(jn [b9,mE]++[32]).length=9:=rfl;have nl:(a9 a).length<=40:=nl;lia);have q:kK .str [.int a]=_:=q;have hat:fQ ((a::r).map D.int) 0=Y (.int a):=hat;rw[aB rfl];show pE j0 _ [Y (.int 0),_]=_;unfold wD;have co:=coS;generalize strOf ((jn [b9,mE]++[32])++a9 a)=z at b2 ⊢;generalize strOf (jn [b9,mE]++[32])=x at b1 b2 co;generalize(a::r).map D.int=N at fi hat ⊢;unfold j0;erw[co,fi,hat,q,b1,b2]
    ·have g:((i:Int)==0)=W:=by rw[cy];lia
     have b1:fG .Mult (.str (strOf (jn [b9,mE]++[32]))) (.int 0)=.ok (.str (strOf [])):=by kernel_rfl
     have b2:fG .Add (.str (strOf [])) (.str (strOf (a9 ((a::r).getD i 0))))=.ok (.str (strOf (a9 ((a::r).getD i 0)))):=je [] _ (by rw[iV];lia);rw[aD c];unfold wD;have co:=coS;generalize strOf (a9 ((a::r).getD i 0))=z at b2 q ⊢;generalize strOf (jn [b9,mE]++[32])=x at b1 co;generalize(a::r).getD i 0=n at hat q;generalize(a::r).map D.int=N at fi hat ⊢;unfold j0;erw[co,fi,hat,q,g,b1,b2])]
   rw[aT,nW,dm,bW];have e:=range_getD 0 r;refine lC R.ok (lC (Sn _) ?_);show(bH r.length).map (λi=>wD (a9 (r.getD i 0)))=(r.map a9).map wD
   conv=>rhs;rw[<-e]
   rw[bW,bW];rfl
  refine#[_,_,.inr rfl,hc,?_];show kL .join (.str (strOf [32,111,114,32])) [.lst J ((((jn [b9,mE]++[32])++a9 a)::r.map a9).map wD)]=_;rw[wu _ _ J (by have:=h.l;rw[aT,ay];have:r.length+1<=4:=this;lia) (dD (by rw[ao];have e:(jn [b9,mE]++[32]).length=9:=rfl;have:=(on (a9 a) (by simp)).2.2.2;lia) λw hw=>by have:=(on w (by simp[hw])).2.2.2;lia) (by decide),EN,aa_,YX];let#[tl,e]:=q9 (a9 a) (r.map a9);have q:=wm [b9,mE] (a9 a) tl (by simp);rw[dm,e,<-q,bx];rfl
abbrev Ry:bh->Fl:=dz j0 1000 ue
def VZ(Q:M D)(m d:D):putIn (.lst J (Q++[m])) d (.int (-1))=Y (.lst J (Q++[d])):=by
 show(gO (Q++[m]).length (-1)).map (λk=>D.lst J ((Q++[m]).set k d))=_;rw[ao,bJ,wz];show Y (D.lst J ((Q++[m]).set Q.length d))=_;rw[w4 _ _ (aW _),kX];rfl
def Y0(a:aaV D)(ls:M (M (M L)))(hl:ls.length<=500){i:L}{p:Cl}(hp:EO i p)(hi:i<=12):Ry [a,Y (.lst J (ls.map lD)),Y (.lst W (p.1.map D.int)),Y (.lst W (aF (p.2.map Rw.val)))]=.nx [a,Y (.lst J ((ls++DV p).map lD)),Y (.lst W (p.1.map D.int)),Y (.lst W (aF (p.2.map Rw.val)))]:=by
 have hs:=szl;let#[h1,h2,h3]:=hp;have h4:=h1.l;let#[x,ds,hx,q0,qj]:=Rx h1 (by lia);have q2:=Rv eO aa1 [] p.2 h3;have fi:=f9 p.1;have fv:=d7 (p.2.map Rw.val);have ce:=HW p.1;have rg:pK [.int ((p.1.map D.int).length:Int)]=.ok (jX 0 p.1.length):=by
  rw[PY #[by lia,by rw[ay];lia],ay];rfl
 have ll:(ls.map lD).length=ls.length:=ay _;have lr:((p.2.map Rw.words).map lD).length=p.2.length:=by rw[ay,ay]
 have oo:=W7 (p.2.map Rw.words);have fo:=NJ (p.2.map Rw.words);have fl:=NJ ls;have e:(ls++DV p).map lD=ls.map lD++.str (strOf (jn (b9::iR p.1)))::(p.2.map Rw.words).map lD:=by
  show(ls++((b9::iR p.1)::p.2.map Rw.words)).map lD=_;rw[cC];rfl
 rw[e];have hz:p.1.isEmpty=J->strOf (jn (b9::iR p.1))=au "claim":=λz=>by
  rw[List.isEmpty_iff.mp z,JH];rfl
 have hz2:p.1.isEmpty=W->x=strOf (jn (b9::iR p.1)):=λz=>hx.resolve_left λy=>by rw[y]at z;cases z
 have cl:=VZ (ls.map lD) (.str x) (.str (au "claim"));generalize strOf (jn (b9::iR p.1))=y at hz hz2 ⊢;unfold lD at ll lr oo q2 fo fl cl ⊢;unfold wD at ll lr oo q2 fo fl cl ⊢;generalize ls.map (λl=>D.str (strOf (jn l)))=X at ll fl cl ⊢;generalize(p.2.map Rw.words).map (λl=>D.str (strOf (jn l)))=aap at lr oo q2 fo ⊢;generalize aF (p.2.map Rw.val)=V at fv q2 ⊢;generalize p.1.map D.int=N at fi q0 ce rg ⊢;generalize p.1.isEmpty=b at ce hz hz2;have fx:∀d,aF (X++[D.str d])=X++[.str d]:=λd=>by rw[qR,fl];rfl
 have lx:∀d,(X++[D.str d]).length+aap.length<=ah:=λd=>by rw[ao,bJ];lia
 have fin:∀b d,Fl.nx (List.set (iO [1,3] b [a,Y (.lst J (X++[D.str d])),Y (.lst W N),Y (.lst W V)]) 1 (Y (.lst J (X++[.str d]++aap))))=.nx [a,Y (.lst J (X++.str d::aap)),Y (.lst W N),Y (.lst W V)]:=λb d=>by
  rw[show X++[.str d]++aap=X++.str d::aap by simp];cases b with
  |true=>rfl
  |false=>erw[fv]
 unfold Ry ue;unfold j0 at q0 ⊢;erw[fi,rg,q0,LY,qj];rw[eE (xs:=X) rfl (by lia) rfl];cases b with
 |true=>
  rw[hz rfl];erw[fi,ce];rw[FY rfl rfl cl];have lc:=zB (o:=W) (o':=J) (lx (au "claim"));have fc:=fx (au "claim");erw[fv,q2,fc,lc,fo,oo];exact fin _ _
 |false=>
  rw[<-hz2 rfl];have lc:=zB (o:=W) (o':=J) (lx x);have fc:=fx x;erw[fi,ce,fv,q2,fc,lc,fo,oo];exact fin _ _
theorem L6(a:aaV D):∀(C:M Cl) (i:L) (h:nQ i C) (hi:i+C.length<=12) (ls:M (M (M L))) (hl:ls.length<=13*i) (s2 s3:aaV D),∃t2 t3,forR L5 Ry (C.map cF) [a,Y (.lst J (ls.map lD)),s2,s3]=.nx [a,Y (.lst J ((ls++lines C).map lD)),t2,t3]
|[],i,_,_,ls,hl,s2,s3=>#[s2,s3,by show _=Fl.nx [a,Y (.lst J ((ls++[]).map lD)),s2,s3];rw[bK];rfl]
|p::r,i,h,hi,ls,hl,s2,s3=>by
 have hi:i+(r.length+1)<=12:=hi;have l1:=YZ h.1;let#[t2,t3,q]:=L6 a r (i+1) h.2 (by lia) (ls++DV p) (by rw[ao];lia) (Y (.lst W (p.1.map D.int))) (Y (.lst W (aF (p.2.map Rw.val))));refine#[t2,t3,?_];rw[dm,lJ (σ2:=[a,Y (.lst J (ls.map lD)),Y (.lst W (p.1.map D.int)),Y (.lst W (aF (p.2.map Rw.val)))]) rfl (Y0 a ls (by lia) h.1 (by lia)),q,bx];rfl
def Y3(C:M Cl)(h:nQ 0 C)(hl:C.length<=12):uW [.lst W (C.map cF)]=.ok (.lst J ((lines C).map lD)):=by
 have fc:=NK C;let#[t2,t3,q]:=L6 (Y (.lst W (C.map cF))) C 0 h (by lia) [] (by simp) B B;have q:forR L5 Ry (C.map cF) [Y (.lst W (C.map cF)),Y (.lst J []),B,B]=.nx [Y (.lst W (C.map cF)),Y (.lst J ((lines C).map lD)),t2,t3]:=q;generalize C.map cF=aap at fc q ⊢;generalize(lines C).map lD=aaQ at q ⊢;unfold uW zQ;unfold Ry L5 at q;unfold j0 at q ⊢;erw[fc,q]
theorem JK:∀(ns:M Int) (n:Int),rising ns->(∀m∈ns,m<n)->rising (ns++[n])
|[],n,_,_=>trivial
|[a],n,_,h=>#[h a aj,trivial]
|a::b::r,n,h,hn=>#[h.1,JK (b::r) n h.2 λm hm=>hn m (ai _ hm)]
theorem A2(d:Int)(hd:0<=d)(ab:L):∀(k:L) (j:L) (hj:j+k=ab) (ns:M Int) (h:mF ns (j:Int)) (x:aaV D),∃ns' y,mF ns' (ab:Int)/\forR (pG (.name 3)) (dz DH 1000 mw) ((bH k).map λi=>D.int (1+((j+i:L):Int))) [Y (.int d),Y (.int (ab:Int)),Y (.lst J (ns.map D.int)),x]=.nx [Y (.int d),Y (.int (ab:Int)),Y (.lst J (ns'.map D.int)),y]
|0,j,hj,ns,h,x=>#[ns,x,by rw[<-hj];exact h,rfl]
|k+1,j,hj,ns,h,x=>by
 have hs:=szl;have fi:=f9 ns;have ln:(ns.map D.int).length=ns.length:=ay _;have hl:=h.l;have e:(bH (k+1)).map (λi=>D.int (1+((j+i:L):Int)))=D.int (1+(j:Int))::(bH k).map λi=>D.int (1+((j+1+i:L):Int)):=by
  rw[nW,dm,bW];refine lC (Sn _) (jM λi _=>?_);show D.int (1+((j+(i+1):L):Int))=_;rw[show j+(i+1)=j+1+i by lia]
 rw[e];have wide:mF ns ((j+1:L):Int):=#[h.l,h.r,λn hn=>by have:=h.b n hn;lia];cases g1:(d / 2 ^ (1+(j:Int)).toNat%3==0)with
 |true=>
  by_cases c:ns.length<4
  ·have g2:=aC (show(ns.length:Int)<4 by lia);let#[ns',y,t1,t2]:=A2 d hd ab k (j+1) (by lia) (ns++[1+(j:Int)]) #[by rw[ao,bJ];lia,JK ns _ h.r λm hm=>by have:=h.b m hm;lia,λn hn=>by
    rcases a6.mp hn with hn|hn
    ·have:=h.b n hn;lia
    ·rw[aQ.mp hn];lia] (Y (.int (1+(j:Int))))
   refine#[ns',y,t1,?_];have ea:ns.map D.int++[.int (1+(j:Int))]=(ns++[1+(j:Int)]).map D.int:=by rw[cC];rfl
   rw[lJ (σ3:=[Y (.int d),Y (.int (ab:Int)),Y (.lst J ((ns++[1+(j:Int)]).map D.int)),Y (.int (1+(j:Int)))]) rfl (by
    rw[<-ea];unfold mw DH;erw[g1,fi,ln,g2];rw[eE (xs:=ns.map D.int) rfl (by lia) rfl];erw[])]
   exact t2
  ·have g2:=aN (show ¬(ns.length:Int)<4 by lia);let#[ns',y,t1,t2]:=A2 d hd ab k (j+1) (by lia) ns wide (Y (.int (1+(j:Int))));refine#[ns',y,t1,?_];rw[lJ (σ3:=[Y (.int d),Y (.int (ab:Int)),Y (.lst J (ns.map D.int)),Y (.int (1+(j:Int)))]) rfl (by
    unfold mw DH;erw[g1,fi,ln,g2])]
   exact t2
 |false=>
  let#[ns',y,t1,t2]:=A2 d hd ab k (j+1) (by lia) ns wide (Y (.int (1+(j:Int))));refine#[ns',y,t1,?_];rw[lJ (σ3:=[Y (.int d),Y (.int (ab:Int)),Y (.lst J (ns.map D.int)),Y (.int (1+(j:Int)))]) rfl (by
   unfold mw DH;erw[g1,fi,ln])]
  exact t2
def Rz(d:Int)(hd:0<=d)(ab:L)(ha:ab<=12):∃ns,mF ns (ab:Int)/\uX [.int d,.int (ab:Int)]=.ok (.lst J (ns.map D.int)):=by
 have hs:=szl;let#[ns,y,t1,t2]:=A2 d hd ab ab 0 (by lia) [] #[by simp,trivial,by simp] B;refine#[ns,t1,?_];have rg:pK [.int 1,.int ((ab:Int)+1)]=.ok ((bH ab).map λi=>D.int (1+((0+i:L):Int))):=by
  rw[PZ #[by lia,by lia,by lia,by lia,by lia]];unfold jX;rw[show((ab:Int)+1-1).toNat=ab by lia];refine lC R.ok (jM λi _=>?_);rw[mQ]
 have t2:forR _ _ ((bH ab).map λi=>D.int (1+((0+i:L):Int))) [Y (.int d),Y (.int (ab:Int)),Y (.lst J []),B]=_:=t2;generalize(bH ab).map (λi=>D.int (1+((0+i:L):Int)))=aaQ at rg t2;unfold uX zO;unfold DH at t2 ⊢;simp_arith -implicitDefEqProofs [rg,t2]
def Fk(c:L)(l:M L):bZ c l≠[]:=by
 cases l with
 |nil=>simp[bZ]
 |cons x r=>
  unfold bZ;split
  ·simp
  ·split<;>simp
theorem xU(c:L):∀a b:M L,bZ c (a++c::b)=bZ c a++bZ c b
|[],b=>by
 show(if c=c then[]::bZ c b else _)=_;rw[aB rfl];rfl
|x::a,b=>by
 have ih:=xU c a b;show(if x=c then[]::bZ c (a++c::b)else match bZ c (a++c::b)with|h::t=>(x::h)::t|[]=>[[x]])=(if x=c then[]::bZ c a else match bZ c a with|h::t=>(x::h)::t|[]=>[[x]])++_;by_cases e:x=c
 ·rw[aB e,aB e,ih];rfl
 ·rw[aD e,aD e,ih];cases q:bZ c a with
  |nil=>exact aG q (Fk c a)
  |cons h t=>rfl
def RA(a b:M L):wordsOf (a++32::b)=wordsOf a++wordsOf b:=by
 unfold wordsOf;rw[xU,List.filter_append]
def RB(a:M L)(n:L):wordsOf (a++a8 n 32)=wordsOf a:=by
 induction n with
 |zero=>rw[List.replicate_zero,bK]
 |succ n ih=>rw[List.replicate_succ',<-bx,RA,ih,KI,bK]
theorem W8:∀Ps:M (M L),wordsOf (jn Ps)=Ps.flatMap wordsOf
|[]=>rfl
|[p]=>by show wordsOf p=_;simp
|p::q::r=>by rw[lP,RA,W8 (q::r)];rfl
theorem JL:∀aaQ:M (M L),aaQ≠[]->(∀w∈aaQ,fO w)->bZ 32 (jn aaQ)=aaQ
|[],h,_=>aG rfl h
|[w],_,h=>lN 32 [w] w (by simp) (by simpa using(h w aj).2.1) (by simp[iA])
|w::x::r,_,h=>by
 rw[lP,xU,JL (x::r) (by simp) λy hy=>h y (ai _ hy),lN 32 [w] w (by simp) (by simpa using(h w aj).2.1) (by simp[iA])];rfl
def m_split{aaQ:M (M L)}(hn:aaQ≠[])(h:∀w∈aaQ,fO w)(hl:aaQ.length<=100):kL .split (.str (strOf (jn aaQ))) [.str ⟨#[32]⟩]=.ok (.lst J (aaQ.map wD)):=by
 have hs:=szl;have:=Aj aaQ h;rw[Dz rfl (by rw[jd];lia)];show R.ok (D.lst J ((bZ 32 (jn aaQ)).map wD))=_;rw[JL aaQ hn h]
def acz:au "said"=strOf u6:=by decide +kernel
def anS:au "an"=strOf JA:=by decide +kernel
def aS:au "a"=strOf aL:=by decide +kernel
def xT:au "the"=strOf b_:=by decide +kernel
def JM:au "of"=strOf iH:=by decide +kernel
noncomputable def rX:M L:=[102,114,111,109,32]
noncomputable def vM:M L:=[32,116,111]
def froS:au "from "=strOf rX:=by decide +kernel
def to_S:au " to"=strOf vM:=by decide +kernel
abbrev JN:bh->Fl:=dz DH 1000 kR
structure Pc (z w P:M L):Prop where
 c:Ch z w (wordsOf P)
 n:10∉P
 l:P.length<=60
def wB{w:M L}(h:fO w):wordsOf w=[w]:=uq [w] (by simpa using h)
def acA{z w w':M L}{us:M (M L)}(hc:Ch z w us)(e:wordsOf w'=us)(hn:10∉w')(hl:w'.length<=50)(j:Int)(hj:0<=j/\j<3):Pc z w (w'++rep j 32):=by
 refine#[?_,λh=>?_,?_]
 ·unfold rep;rw[RB,e];exact hc
 ·rcases a6.mp h with h|h
  ·exact hn h
  ·unfold rep at h;have:=mU h;cases this
 ·rw[ao,qZ];lia
def Y4{aaQ:M (M L)}{z w:M L}(hn:aaQ≠[])(hL:∀w∈aaQ,fO w)(hl:aaQ.length<=100)(hz:aaQ.getLast?=Y z)(hw:fO w)(d:Int)(hd:0<=d)(k:L)(X:M D)(hX:X.length<=100)(s5:aaV D):∃P t4 t5,Pc z w P/\JN [Y (.str (strOf (jn aaQ))),Y (.int d),Y (.lst J X),Y (.int (k:Int)),Y (wD w),s5]=.nx [Y (.str (strOf (jn aaQ))),Y (.int d),Y (.lst J (X++[wD P])),Y (.int (k:Int)),t4,t5]:=by
 have hs:=szl;have qs:=m_split hn hL hl;have fz:=cZ aaQ;have hz0:z∈aaQ:=List.mem_of_getLast? hz;have az:fQ (aaQ.map wD) (-1)=Y (.str (strOf z)):=by
  obtain⟨L',rfl⟩:∃L',aaQ=L'++[z]:=by
   rw[List.getLast?_eq_some_iff]at hz;exact hz
  rw[cC];unfold fQ;rw[ao,ay];show((gO ((L'.length)+1) (-1)).bind λn=>(L'.map wD++[wD z])[n]?)=_;rw[wz];show(L'.map wD++[wD z])[L'.length]?=_;rw[cj (by rw[ay];exact aW _),ay,kX];rfl
 generalize jn aaQ=line at *;generalize aaQ.map wD=aap at *;have k0:(0:Int)<=(k:Int)%20:=l6 _ (by decide);obtain⟨bt,hbt⟩:∃bt,bt=d / 3 / 2 ^ ((k:Int)%20).toNat:=#[_,rfl];have bj:0<=bt / 2%3/\bt / 2%3<3:=#[l6 _ (by decide),mS _ (by decide)];have rp:=wc 32 (bt / 2%3) #[bj.1,by lia];have rl:=qZ (bt / 2%3) 32;have ct:∀u:M L,u.length<=60->fG .Add (.str (strOf u)) (.str (strOf (rep (bt / 2%3) 32)))=.ok (.str (strOf (u++rep (bt / 2%3) 32))):=λu hu=>je _ _ (by lia);have l40:=hw.2.2.2;have z40:=(hL z hz0).2.2.2;have lin:∀u v:aaV D,JN [Y (.str (strOf line)),Y (.int d),Y (.lst J X),Y (.int (k:Int)),u,v]=qU (pS DH 1000 (.asg (.name 5) (.bin .RShift (.bin .FloorDiv (.var 1) (.con (.int 3))) (.bin .Mod (.var 3) (.con (.int 20))))) [Y (.str (strOf line)),Y (.int d),Y (.lst J X),Y (.int (k:Int)),u,v]) (dz DH 1000 (match kR with|.cons _ r=>r|r=>r)):=λu v=>pP;have e1:∀u v:aaV D,pS DH 1000 (.asg (.name 5) (.bin .RShift (.bin .FloorDiv (.var 1) (.con (.int 3))) (.bin .Mod (.var 3) (.con (.int 20))))) [Y (.str (strOf line)),Y (.int d),Y (.lst J X),Y (.int (k:Int)),u,v]=.nx [Y (.str (strOf line)),Y (.int d),Y (.lst J X),Y (.int (k:Int)),u,Y (.int bt)]:=λu v=>by
  rw[hbt];erw[]
 have b01:bt%2=1\/bt%2=0:=by lia
 have c2:∀u v:M L,u≠v->(strOf u==strOf v)=W:=λu v h=>by rw[jy,aN h]
 have go:∀(u:M L) (hu:u.length<=50),dz DH 1000 (match kR with|.cons _ r=>r|r=>r) [Y (.str (strOf line)),Y (.int d),Y (.lst J X),Y (.int (k:Int)),Y (wD w),Y (.int bt)]=.nx [Y (.str (strOf line)),Y (.int d),Y (.lst J (X++[wD (u++rep (bt / 2%3) 32)])),Y (.int (k:Int)),Y (wD u),Y (.int bt)]->∀{us:M (M L)},Ch z w us->wordsOf u=us->10∉u->∃P t4 t5,Pc z w P/\JN [Y (.str (strOf line)),Y (.int d),Y (.lst J X),Y (.int (k:Int)),Y (wD w),s5]=.nx [Y (.str (strOf line)),Y (.int d),Y (.lst J (X++[wD P])),Y (.int (k:Int)),t4,t5]:=λu hu e us hc hw' h10=>
  #[_,Y (wD u),Y (.int bt),acA hc hw' h10 hu _ bj,by rw[lin,e1];exact e]
 have eo1:bt%2=1->(bt%2==1)=J:=λh=>by rw[h];rfl
 have eo0:bt%2=0->(bt%2==1)=W:=λh=>by rw[h];rfl
 unfold wD at go ⊢;unfold kR DH at go;by_cases h1:w=b_
 ·subst h1;have n2:=c2 b_ aL (by decide);have n3:=c2 b_ iH (by decide);have n4:=c2 u6 aL (by decide);have n5:=c2 u6 iH (by decide);have y:=gM (strOf b_);rcases b01 with o|o
  ·have eo:=eo1 o;have cu:=ct u6 (by decide);refine go u6 (by decide) ?_ (.inr (.inl #[rfl,rfl])) (wB (kw u6)) (by decide);erw[xT,aS,JM,acz,y,eo,n4,n5,BR,rp,cu];rw[eE (xs:=X) rfl (by lia) rfl];erw[]
  ·have eo:=eo0 o;have cu:=ct b_ (by decide);refine go b_ (by decide) ?_ (.inl rfl) (wB hw) (by decide);erw[xT,aS,JM,y,eo,n2,n3,BR,rp,cu];rw[eE (xs:=X) rfl (by lia) rfl];erw[]
 have n1:=c2 w b_ h1;by_cases h2:w=aL
 ·subst h2;have n3:=c2 aL iH (by decide);have n5:=c2 JA iH (by decide);have y:=gM (strOf aL);rcases b01 with o|o
  ·have eo:=eo1 o;have cu:=ct JA (by decide);refine go JA (by decide) ?_ (.inr (.inr (.inl #[rfl,rfl]))) (wB (kw JA)) (by decide);erw[xT,aS,JM,anS,n1,y,eo,n5,BR,rp,cu];rw[eE (xs:=X) rfl (by lia) rfl];erw[]
  ·have eo:=eo0 o;have cu:=ct aL (by decide);refine go aL (by decide) ?_ (.inl rfl) (wB hw) (by decide);erw[xT,aS,JM,n1,y,eo,n3,BR,rp,cu];rw[eE (xs:=X) rfl (by lia) rfl];erw[]
 have n2:=c2 w aL h2;by_cases h3:w=iH
 ·subst h3;have y:=gM (strOf iH);by_cases h5:d%5=0
  ·have e5:(d%5==0)=J:=by rw[h5];rfl
   have f1:fG .Add (.str (strOf rX)) (.str (strOf z))=.ok (.str (strOf (rX++z))):=je _ _ (by show 5+z.length<=_;lia);have f2:fG .Add (.str (strOf (rX++z))) (.str (strOf vM))=.ok (.str (strOf (rX++z++vM))):=je _ _ (by rw[ao];show 5+z.length+3<=_;lia);have hu:(rX++z++vM).length<=50:=by rw[ao,ao];show 5+z.length+3<=_;lia
   have cu:=ct (rX++z++vM) (by lia);have ej:rX++z++vM=jn [eY,z,toL]:=by
    show rX++z++vM=eY++32::(z++32::toL);simp[rX,vM,eY,toL]
   have wk:∀v∈[eY,z,toL],fO v:=xS (kw eY) (hL z hz0) (kw toL);refine go (rX++z++vM) hu ?_ (.inr (.inr (.inr #[rfl,rfl]))) (by rw[ej];exact uq _ wk) (by rw[ej];exact WY _ wk);generalize rX++z++vM=u at *;erw[xT,aS,JM,n1,n2,y,e5,froS,to_S,BR,qs,fz,az,f1,f2,rp,cu];rw[eE (xs:=X) rfl (by lia) rfl];erw[]
  ·have e5:(d%5==0)=W:=by rw[cy];exact h5
   have cu:=ct iH (by decide);refine go iH (by decide) ?_ (.inl rfl) (wB hw) (by decide);erw[xT,aS,JM,n1,n2,y,e5,BR,rp,cu];rw[eE (xs:=X) rfl (by lia) rfl];erw[]
 have n3:=c2 w iH h3;have cu:=ct w (by lia);refine go w (by lia) ?_ (.inl rfl) (wB hw) hw.2.2.1;erw[xT,aS,JM,n1,n2,n3,BR,rp,cu];rw[eE (xs:=X) rfl (by lia) rfl];erw[]
def BW(z:M L):M (M L)->M (M L)->Prop
|[],Ps=>Ps=[]
|w::aan,Ps=>∃P R,Ps=P::R/\Pc z w P/\BW z aan R
def BW.vs{z:M L}:∀{aan Ps:M (M L)},BW z aan Ps->Vs z aan (Ps.flatMap wordsOf)
|[],_,h=>by cases h;rfl
|w::aan,_,h=>by
 let#[P,R,rfl,h1,h2]:=h;exact#[wordsOf P,R.flatMap wordsOf,rfl,h1.c,h2.vs]
def BW.len{z:M L}:∀{aan Ps:M (M L)},BW z aan Ps->Ps.length=aan.length
|[],_,h=>by cases h;rfl
|w::aan,_,h=>by
 let#[P,R,rfl,h1,h2]:=h;rw[aT,aT,h2.len]
theorem BW.jn{z:M L}:∀{aan Ps:M (M L)},BW z aan Ps->10∉jn Ps/\(jn Ps).length<=61*Ps.length
|[],_,h=>by cases h;exact#[by decide,by decide]
|[w],_,h=>by
 let#[P,R,rfl,h1,h2]:=h;cases h2;exact#[h1.n,by have:=h1.l;show P.length<=61*1;omega]
|w::w2::aan,_,h=>by
 let#[P,R,rfl,h1,h2]:=h;have ih:=BW.jn h2;let#[P2,R2,rfl,_,_]:=h2;rw[lP];refine#[λz=>?_,?_]
 ·rcases a6.mp z with z|z
  ·exact h1.n z
  ·rcases aM.mp z with z|z
   ·cases z
   ·exact ih.1 z
 ·have:=h1.l;have:=ih.2;rw[ao,aT,aT];omega
abbrev BX:D->bh->R bh:=pG (.tup (.cons (.name 3) (.cons (.name 4) .nil)))
theorem L7{aaQ:M (M L)}{z:M L}(hn:aaQ≠[])(hL:∀w∈aaQ,fO w)(hl:aaQ.length<=100)(hz:aaQ.getLast?=Y z)(d:Int)(hd:0<=d):∀(aan:M (M L)) (hM:∀w∈aan,fO w) (k:L) (X:M (M L)) (hX:X.length+aan.length<=100) (s3 s4 s5:aaV D),
 ∃Ps t3 t4 t5,BW z aan Ps/\forR BX JN (gj k (aan.map wD)) [Y (.str (strOf (jn aaQ))),Y (.int d),Y (.lst J (X.map wD)),s3,s4,s5]=.nx [Y (.str (strOf (jn aaQ))),Y (.int d),Y (.lst J ((X++Ps).map wD)),t3,t4,t5]
|[],_,k,X,hX,s3,s4,s5=>#[[],s3,s4,s5,rfl,by rw[bK];rfl]
|w::aan,hM,k,X,hX,s3,s4,s5=>by
 have hX:X.length+(aan.length+1)<=100:=hX;let#[P,t4,t5,h1,e1]:=Y4 hn hL hl hz (hM w aj) d hd k (X.map wD) (by rw[ay];lia) s5;let#[R,u3,u4,u5,h2,e2]:=L7 hn hL hl hz d hd aan (λx hx=>hM x (ai _ hx)) (k+1) (X++[P]) (by rw[ao,bJ];lia) (Y (.int (k:Int))) t4 t5;refine#[P::R,u3,u4,u5,#[P,R,rfl,h1,h2],?_];have g1:BX (.tup [.int (k:Int),wD w]) [Y (.str (strOf (jn aaQ))),Y (.int d),Y (.lst J (X.map wD)),s3,s4,s5]=.ok [Y (.str (strOf (jn aaQ))),Y (.int d),Y (.lst J (X.map wD)),Y (.int (k:Int)),Y (wD w),s5]:=rfl;have em:X.map wD++[wD P]=(X++[P]).map wD:=by rw[cC];rfl
 rw[em]at e1;show forR BX JN (.tup [.int (k:Int),wD w]::gj (k+1) (aan.map wD)) _=_;rw[lJ g1 e1,e2,bx];rfl
def alS:au "at least 1 "=strOf [97,116,32,108,101,97,115,116,32,49,32]:=by decide +kernel
def a_S:au "a "=strOf [97,32]:=by decide +kernel
def aba{aaQ:M (M L)}(hL:∀w∈aaQ,fO w)(h:(jn aaQ).take 2=[97,32]):∃x r,aaQ=aL::x::r:=by
 rcases aaQ with _|⟨w,_|⟨x,r⟩⟩
 ·cases h
 ·have:=(hL w aj).2.1;have h:w.take 2=[97,32]:=h;exact aG (List.mem_of_mem_take (i:=2) (l:=w) (by rw[h];decide)) this
 ·have hw:=hL w aj;rw[lP]at h;rcases w with _|⟨a,_|⟨b,w⟩⟩
  ·exact aG rfl hw.1
  ·have h:[a,32]=[97,32]:=h;cases h;exact#[x,r,rfl]
  ·have h:[a,b]=[97,32]:=h;cases h;exact aG (by simp) hw.2.1
def RC{aaQ:M (M L)}(hn:aaQ≠[])(hL:∀w∈aaQ,fO w)(hl:aaQ.length<=12)(d:Int)(hd:0<=d):∃T L1,nN [wD (jn aaQ),.int d]=.ok (wD T)/\(L1=aaQ\/∃x r,aaQ=aL::x::r/\L1=gq::d_::[49]::x::r)/\Vs (qh L1) L1 (wordsOf T)/\10∉T/\T.length<=1000:=by
 have hs:=szl;have key:∀L1:M (M L),L1≠[]->(∀w∈L1,fO w)->L1.length<=15->∃T,Vs (qh L1) L1 (wordsOf T)/\10∉T/\T.length<=1000/\EB (dz DH 1000 (match eW with|.cons _ r=>r|r=>r) [Y (.str (strOf (jn L1))),Y (.int d),B,B,B,B])=.ok (.str (strOf T)):=by
  intro L1 n1 o1 l1;obtain⟨z,hz⟩:∃z,L1.getLast?=Y z:=by
   cases q:L1.getLast? with
   |none=>exact aG (List.getLast?_eq_none_iff.mp q) n1
   |some z=>exact#[z,rfl]
  have ez:qh L1=z:=by
   unfold qh;rw[tw,hz];rfl
  have bj:0<=d / 7%3/\d / 7%3<3:=#[l6 _ (by decide),mS _ (by decide)];let#[Ps,t3,t4,t5,hP,lo]:=L7 n1 o1 (by lia) hz d hd L1 o1 0 [] (by simp;lia) B B B;let#[j1,j2]:=hP.jn;have pl:=hP.len;have rl:=qZ (d / 7%3) 32;refine#[rep (d / 7%3) 32++jn Ps,?_,?_,?_,?_]
  ·unfold rep;rw[KJ,W8,ez];exact hP.vs
  ·intro h;rcases a6.mp h with h|h
   ·unfold rep at h;have:=mU h;cases this
   ·exact j1 h
  ·rw[ao,rl];lia
  ·have rp:=wc 32 (d / 7%3) #[bj.1,by lia];have qs:=m_split n1 o1 (by lia);have fz:=cZ L1;have ow:=ly L1;have fp:=cZ Ps;have qj:kL .join (.str ⟨#[32]⟩) [.lst W (Ps.map wD)]=.ok (.str (strOf (jn Ps))):=by
    have:=wu [32] Ps W (by lia) (λw hw=>?_) (by decide)
    ·rw[A1]at this;exact this
    ·have:∀{aan Ps:M (M L)},BW z aan Ps->∀w∈Ps,w.length<=60:=by
      intro aan;induction aan with
      |nil=>intro Ps h w hw;cases h;cases hw
      |cons m aan ih=>
       intro Ps h w hw;let#[P,R,rfl,h1,h2]:=h;rcases aM.mp hw with rfl|hw
       ·exact h1.l
       ·exact ih h2 w hw
     have:=this hP w hw
     lia
   have ct:fG .Add (.str (strOf (rep (d / 7%3) 32))) (.str (strOf (jn Ps)))=.ok (.str (strOf (rep (d / 7%3) 32++jn Ps))):=je _ _ (by lia);rw[iT]at lo;have lo:forR BX JN (gj 0 (L1.map wD)) [Y (.str (strOf (jn L1))),Y (.int d),Y (.lst J []),B,B,B]=.nx [Y (.str (strOf (jn L1))),Y (.int d),Y (.lst J (Ps.map wD)),t3,t4,t5]:=lo;generalize strOf (rep (d / 7%3) 32++jn Ps)=aeo at ct ⊢;generalize strOf (jn Ps)=U2 at qj ct;generalize strOf (jn L1)=U3 at qs lo ⊢;generalize L1.map wD=aap at *;generalize Ps.map wD=Z at *;unfold BX JN at lo;unfold eW;unfold DH at lo ⊢;erw[BR,qs,fz,ow,lo,fp,rp,qj,ct]
 have hlen:=Aj aaQ hL;have sc:dz DH 1000 eW [Y (.str (strOf (jn aaQ))),Y (.int d),B,B,B,B]=qU (pS DH 1000 (match eW with|.cons s _=>s|_=>.never) [Y (.str (strOf (jn aaQ))),Y (.int d),B,B,B,B]) (dz DH 1000 (match eW with|.cons _ r=>r|r=>r)):=pP;have st:nN [wD (jn aaQ),.int d]=EB (dz DH 1000 eW [Y (.str (strOf (jn aaQ))),Y (.int d),B,B,B,B]):=rfl;have cz:cut (strOf (jn aaQ)).cps.toList B (Y 2)=(jn aaQ).take 2:=oK (jn aaQ) 2;rw[st,sc];by_cases h3:d%3=0
 case neg=>
  have e3:(d%3==0)=W:=by rw[cy];exact h3
  let#[T,k1,k2,k3,k4]:=key aaQ hn hL (by lia);refine#[T,aaQ,?_,.inl rfl,k1,k2,k3];rw[show pS DH 1000 (match eW with|.cons s _=>s|_=>.never) [Y (.str (strOf (jn aaQ))),Y (.int d),B,B,B,B]=.nx [Y (.str (strOf (jn aaQ))),Y (.int d),B,B,B,B]by
   unfold eW DH;erw[e3]]
  exact k4
 have e3:(d%3==0)=J:=by rw[h3];rfl
 by_cases ht:(jn aaQ).take 2=[97,32]
 ·let#[x,r,eL]:=aba hL ht;have hx:∀w∈x::r,fO w:=λw hw=>hL w (by rw[eL];exact ai _ hw);have lr:(x::r).length<=12:=by rw[eL]at hl;simp at hl ⊢;lia
  let#[T,k1,k2,k3,k4]:=key (gq::d_::[49]::x::r) (by simp) (jj (kw gq) (jj (kw d_) (jj #[by decide,by decide,by decide,by decide] hx))) (by simp at lr ⊢;lia);refine#[T,_,?_,.inr #[x,r,eL,rfl],k1,k2,k3];have ej:jn aaQ=97::32::jn (x::r):=by rw[eL];rfl
  have ea:[97,116,32,108,101,97,115,116,32,49,32]++jn (x::r)=jn (gq::d_::[49]::x::r):=rfl;have ce:cut (strOf (jn aaQ)).cps.toList B (Y 2)=[97,32]:=by rw[cz,ht]
  have cd:cut (strOf (jn aaQ)).cps.toList (Y 2) B=jn (x::r):=by
   rw[ej];exact fu (97::32::jn (x::r)) 2 (by simp)
  have lx:=Aj (x::r) hx;have ct:fG .Add (.str (strOf [97,116,32,108,101,97,115,116,32,49,32])) (.str (strOf (jn (x::r))))=.ok (.str (strOf (jn (gq::d_::[49]::x::r)))):=by
   rw[<-ea];exact je _ _ (by show 11+_<=_;lia)
  have eb:=gM (strOf [97,32]);rw[show pS DH 1000 (match eW with|.cons s _=>s|_=>.never) [Y (.str (strOf (jn aaQ))),Y (.int d),B,B,B,B]=.nx [Y (.str (strOf (jn (gq::d_::[49]::x::r)))),Y (.int d),B,B,B,B]by
   have ce':(⟨(cut (strOf (jn aaQ)).cps.toList B (Y 2)).toArray⟩:Str)=strOf [97,32]:=by rw[ce];rfl
   have cd':(⟨(cut (strOf (jn aaQ)).cps.toList (Y 2) B).toArray⟩:Str)=strOf (jn (x::r)):=by rw[cd];rfl
   generalize strOf (jn (gq::d_::[49]::x::r))=aeo at ct ⊢;unfold eW DH;erw[e3,ce',a_S,eb,alS,cd',ct]]
  exact k4
 ·let#[T,k1,k2,k3,k4]:=key aaQ hn hL (by lia);refine#[T,aaQ,?_,.inl rfl,k1,k2,k3];have ce':(⟨(cut (strOf (jn aaQ)).cps.toList B (Y 2)).toArray⟩:Str)=strOf ((jn aaQ).take 2):=by rw[cz];rfl
  have eb:(strOf ((jn aaQ).take 2)==strOf [97,32])=W:=by rw[jy,aN ht]
  rw[show pS DH 1000 (match eW with|.cons s _=>s|_=>.never) [Y (.str (strOf (jn aaQ))),Y (.int d),B,B,B,B]=.nx [Y (.str (strOf (jn aaQ))),Y (.int d),B,B,B,B]by
   unfold eW DH;erw[e3,ce',a_S,eb]]
  exact k4
def cO(p:Cl):D:=.tup [.lst J (p.1.map D.int),.lst J (p.2.map Rw.val)]
theorem NL:∀C:M Cl,aF (C.map cO)=C.map cF
|[]=>rfl
|p::r=>by
 show bE (cO p)::aF (r.map cO)=_;rw[NL r];show D.tup [.lst W (aF (p.1.map D.int)),.lst W (aF (p.2.map Rw.val))]::_=_;rw[f9];rfl
theorem L8:∀ws:M Rw,c9 (ws.map Rw.val)=J
|[]=>rfl
|w::r=>by
 show(be w.val&&c9 (r.map Rw.val))=J;rw[DT,L8 r];rfl
theorem W9:∀C:M Cl,c9 (C.map cO)=J
|[]=>rfl
|p::r=>by
 show((c9 (p.1.map D.int)&&(c9 (p.2.map Rw.val)&&J))&&c9 (r.map cO))=J;rw[qX,L8,W9 r];rfl
theorem nQ.app:∀{C:M Cl}{i:L}{p:Cl},nQ i C->EO (i+C.length) p->nQ i (C++[p])
|[],i,p,_,h=>#[h,trivial]
|q::r,i,p,hC,h=>#[hC.1,nQ.app hC.2 (by rw[show i+1+r.length=i+(r.length+1)by lia];exact h)]
theorem nQ.last:∀{C:M Cl}{i:L}{p:Cl},nQ i (C++[p])->nQ i C/\EO (i+C.length) p
|[],i,p,h=>#[trivial,h.1]
|q::r,i,p,h=>by
 let#[h1,h2]:=nQ.last h.2;rw[show i+1+r.length=i+(r.length+1)by lia]at h2;exact#[#[h.1,h1],h2]
abbrev Al:bh->Fl:=dz gZ 1000 dW
abbrev jS(a:aaV D)(s:Int)(C:M Cl)(k c d:aaV D):bh:=[a,Y (.int s),Y (.lst J (C.map cO)),k,c,d]
def V3(Q:M D)(y:D):fQ (Q++[y]) (-1)=Y y:=by
 unfold fQ;rw[ao,bJ,wz];show(Q++[y])[Q.length]?=_;rw[cj (aW _),kX];rfl
structure Am (C:M Cl):Prop where
 ok:nQ 0 C
 l:C.length<=12
 n:C≠[]
noncomputable def b1:cE->CS
|.cons a _=>a
|_=>.cont
noncomputable def bC:cE->CE
|.cons _ (.cons (.ifs c _ _) _)=>c
|_=>.con .non
noncomputable def bA:cE->cE
|.cons _ (.cons (.ifs _ a _) _)=>a
|r=>r
noncomputable def bB:cE->cE
|.cons _ (.cons (.ifs _ _ b) _)=>b
|r=>r
def acB{U:M PG}{n:L}{c:CE}{A aaP:cE}{O:bh}{b:Bool}(h:pT U c O=.ok b):dz U n (.cons (.ifs c A aaP) .nil) O=if b=J then dz U n A O else dz U n aaP O:=by
 rw[pP,IY,h];cases b with
 |true=>show qU (dz U n A O) _=dz U n A O;cases dz U n A O<;>rfl
 |false=>show qU (dz U n aaP O) _=dz U n aaP O;cases dz U n aaP O<;>rfl
def abb{U:M PG}{o a:CE}{O:bh}{k:L}{is:M Int}{d x x':D}(h:oF O o=Y (k,is))(q:pE U a O=.ok d)(hd:be d=J)(hx:O[k]?=Y (Y x))(ha:eT is x d=Y x'):Ey U o a O=.nx (O.set k (Y x')):=by
 unfold Ey;rw[h];show(pE U a O).jR W _=_;rw[q,pq_thnL_ok'];simp only[hx,hd,ie,ha];rfl
def V4(a:aaV D)(s:Int)(hs0:0<=s)(C:M Cl)(hC:Am C)(k c:Int)(hk:0<=k/\k<=62)(d:aaV D):∃C' d',Am C'/\Al (jS a s C (Y (.int k)) (Y (.int c)) d)=.nx (jS a s C' (Y (.int k)) (Y (.int c)) d'):=by
 have hs:=szl;let#[v,v0,v1,qv]:=tK c (k+120) (by lia);let#[hok,hl,hn]:=hC;obtain⟨Q,p,rfl⟩:∃Q p,C=Q++[p]:=by
  cases C with
  |nil=>exact aG rfl hn
  |cons a r=>exact#[(a::r).dropLast,(a::r).getLast (by simp),(List.dropLast_concat_getLast (by simp)).symm]
 let#[hQ,hp]:=hok.last;rw[mQ]at hp;have fc:=NL (Q++[p]);have lf:((Q++[p]).map cF).length=(Q++[p]).length:=ay _;have lo:((Q++[p]).map cO).length=(Q++[p]).length:=ay _;have al:fQ ((Q++[p]).map cF) (-1)=Y (.tup [.lst W (p.1.map D.int),.lst W (aF (p.2.map Rw.val))]):=by
  rw[cC];exact V3 _ _
 have fi:=f9 p.1;have fv:=d7 (p.2.map Rw.val);have lv:(aF (p.2.map Rw.val)).length=p.2.length:=by rw[jD,ay]
 have e1:(Q++[p]).map cO=Q.map cO++[.tup [.lst J (p.1.map D.int),.lst J (p.2.map Rw.val)]]:=by rw[cC];rfl
 have hp2:=hp.2.1;have more:(Q++[p]).length<12->(v%6=0\/p.2.length=12)->∃C' d',Am C'/\Al (jS a s (Q++[p]) (Y (.int k)) (Y (.int c)) d)=.nx (jS a s C' (Y (.int k)) (Y (.int c)) d'):=by
  intro h12 hor;let#[ns,t1,t2]:=Rz (v / 6) (by lia) (Q++[p]).length (by lia);refine#[(Q++[p])++[(ns,[])],Y (.int v),#[hok.app #[by rw[mQ];exact t1,by simp,by simp],by rw[ao,bJ];lia,by simp],?_];have ea:((Q++[p])++[(ns,[])]).map cO=(Q++[p]).map cO++[.tup [.lst J (ns.map D.int),.lst J []]]:=by rw[cC];rfl
  have oi:=qX ns;have g0:=aC (show(((Q++[p]).length:L):Int)<12 by lia);unfold Al dW gZ jS;rw[ea];generalize(Q++[p]).map cO=X at fc lo ⊢;generalize(Q++[p]).map cF=aap at fc lf al;generalize(Q++[p]).length=m at *;generalize aF (p.2.map Rw.val)=V at al fv lv;generalize p.1.map D.int=N at al fi;generalize ns.map D.int=NN at t2 oi ⊢;cases g1:(v%6==0)with
  |true=>
   simp_arith -implicitDefEqProofs [qv,fc,lf,g0,g1,t2];rw[eE (xs:=X) rfl (by lia) (by rw[vv];exact .inl (by simp_arith -implicitDefEqProofs [oi]))];simp_arith -implicitDefEqProofs [oi]
  |false=>
   have g2:((p.2.length:Int)==12)=J:=by
    rw[lG];have:=hor.resolve_left λz=>by rw[z]at g1;cases g1
    lia
   simp_arith -implicitDefEqProofs [qv,fc,lf,g0,g1,al,fi,fv,nP,lv,g2,t2];rw[eE (xs:=X) rfl (by lia) (by rw[vv];exact .inl (by simp_arith -implicitDefEqProofs [oi]))];simp_arith -implicitDefEqProofs [oi]
 have rows:¬((Q++[p]).length<12/\(v%6=0\/p.2.length=12))->∃C' d',Am C'/\Al (jS a s (Q++[p]) (Y (.int k)) (Y (.int c)) d)=.nx (jS a s C' (Y (.int k)) (Y (.int c)) d'):=by
  intro hno;let#[w,hw,qr]:=YQ c k s #[hk.1,by lia] hs0;have ow:=DT w;have app:=JI (Q.map cO) (.lst J (p.1.map D.int)) (p.2.map Rw.val) (by rw[ay];lia) w.val;have em:(Q++[(p.1,p.2++[w])]).map cO=Q.map cO++[.tup [.lst J (p.1.map D.int),.lst J (p.2.map Rw.val++[w.val])]]:=by
   rw[cC];show _++[D.tup [.lst J (p.1.map D.int),.lst J ((p.2++[w]).map Rw.val)]]=_;rw[cC];rfl
  rw[<-e1,<-em]at app;have test:∀U:M PG,pT U (.and (.cmp .Lt (.blt .len (.cons (.var 2) .nil)) (.con (.int 12))) (.or (.cmp .Eq (.bin .Mod (.var 5) (.con (.int 6))) (.con (.int 0))) (.cmp .Eq (.blt .len (.cons (.ix (.ix (.var 2) (.neg (.con (.int 1)))) (.con (.int 1))) .nil)) (.con (.int 12))))) (jS a s (Q++[p]) (Y (.int k)) (Y (.int c)) (Y (.int v)))=.ok W:=by
   intro U;unfold jS;generalize(Q++[p]).map cO=X at fc;generalize(Q++[p]).map cF=aap at fc lf al;generalize(Q++[p]).length=m at *;generalize aF (p.2.map Rw.val)=V at al fv lv;generalize p.1.map D.int=N at al fi;by_cases h12:m<12
   ·have g0:=aC (show(m:Int)<12 by lia);have g1:(v%6==0)=W:=by rw[cy];exact λz=>hno #[h12,.inl z]
    have g2:((p.2.length:Int)==12)=W:=by rw[cy];exact λz=>hno #[h12,.inr (by lia)]
    simp_arith -implicitDefEqProofs [fc,lf,g0,g1,al,fi,fv,nP,lv,g2]
   ·have g0:=aN (show ¬(m:Int)<12 by lia);simp_arith -implicitDefEqProofs [fc,lf,g0]
  have hd:pS gZ 1000 (b1 dW) (jS a s (Q++[p]) (Y (.int k)) (Y (.int c)) d)=.nx (jS a s (Q++[p]) (Y (.int k)) (Y (.int c)) (Y (.int v))):=by
   unfold b1 dW gZ jS;generalize(Q++[p]).map cO=X;simp_arith -implicitDefEqProofs [qv]
  have test:pT gZ (bC dW) (jS a s (Q++[p]) (Y (.int k)) (Y (.int c)) (Y (.int v)))=.ok W:=test _;have key:Al (jS a s (Q++[p]) (Y (.int k)) (Y (.int c)) d)=dz gZ 1000 (bB dW) (jS a s (Q++[p]) (Y (.int k)) (Y (.int c)) (Y (.int v))):=by
   show dz gZ 1000 (.cons (b1 dW) (.cons (.ifs (bC dW) (bA dW) (bB dW)) .nil)) _=_;rw[pP,hd,FU,acB test,aD (by decide)]
  rw[key];by_cases hr:p.2.length<12
  ·refine#[Q++[(p.1,p.2++[w])],Y (.int v),#[hQ.app #[by rw[mQ];exact hp.1,by show(p.2++[w]).length<=12;rw[ao,bJ];lia,λx hx=>?_],by simpa using hl,by simp],?_]
   ·rcases a6.mp hx with hx|hx
    ·exact hp.2.2 x hx
    ·rw[aQ.mp hx];exact hw
   have g:=aC (show(p.2.length:Int)<12 by lia);unfold jS;generalize(Q++[(p.1,p.2++[w])]).map cO=X2 at app ⊢;generalize(Q++[p]).map cO=X at fc app ⊢;generalize(Q++[p]).map cF=aap at fc lf al;generalize aF (p.2.map Rw.val)=V at al fv lv;generalize p.1.map D.int=N at al fi;generalize w.val=z at qr ow app;unfold bB dW gZ;simp_arith -implicitDefEqProofs [fc,al,fi,fv,nP,lv,g];rw[abb (k:=2) (is:=[-1,1]) (d:=z) rfl (by simp_arith -implicitDefEqProofs [qr]) ow rfl app];simp_arith -implicitDefEqProofs []
  ·refine#[Q++[p],Y (.int v),#[hok,hl,by simp],?_];have g:=aN (show ¬(p.2.length:Int)<12 by lia);unfold jS;generalize(Q++[p]).map cO=X at fc ⊢;generalize(Q++[p]).map cF=aap at fc lf al;generalize aF (p.2.map Rw.val)=V at al fv lv;generalize p.1.map D.int=N at al fi;unfold bB dW gZ;simp_arith -implicitDefEqProofs [fc,al,fi,fv,nP,lv,g]
 by_cases hc:(Q++[p]).length<12/\(v%6=0\/p.2.length=12)
 ·exact more hc.1 hc.2
 ·exact rows hc
abbrev NO:D->bh->R bh:=pG (.tup (.cons (.name 3) (.cons (.name 4) .nil)))
theorem JO(a:aaV D)(s:Int)(hs0:0<=s):∀(cs:M Int) (j:L) (hj:j+cs.length<=62) (C:M Cl) (hC:Am C) (k c d:aaV D),∃C' k' c' d',Am C'/\forR NO Al (gj j (cs.map D.int)) (jS a s C k c d)=.nx (jS a s C' k' c' d')
|[],j,hj,C,hC,k,c,d=>#[C,k,c,d,hC,rfl]
|x::cs,j,hj,C,hC,k,c,d=>by
 have hj:j+(cs.length+1)<=62:=hj;let#[C1,d1,h1,e1]:=V4 a s hs0 C hC (j:Int) x (by lia) d;let#[C2,k2,c2,d2,h2,e2]:=JO a s hs0 cs (j+1) (by lia) C1 h1 (Y (.int (j:Int))) (Y (.int x)) d1;have g1:NO (.tup [.int (j:Int),.int x]) (jS a s C k c d)=.ok (jS a s C (Y (.int (j:Int))) (Y (.int x)) d):=rfl;exact#[C2,k2,c2,d2,h2,(lJ g1 e1).trans e2]
def V5(ns:M Int)(hn:ns.length<=63):∃C,Am C/\sV [dN ns]=.ok (.lst J (C.map cO)):=by
 let#[c,qc]:=Rk ns 0 (by decide);have qc:oJ [dN ns,.int 0]=.ok (.int c):=qc;let#[s,s0,s1,qs]:=tK c 1 (by lia);have fi:=f9 ns;obtain⟨aan,hM,c1⟩:∃aan:M Int,aan.length<=62/\cut (ns.map D.int) (Y 1) (Y 63)=aan.map D.int:=by
  refine#[ns.drop (min 1 ns.length),by rw[fE];omega,?_];show cut (ns.map D.int) (Y ((1:L):Int)) (Y ((63:L):Int))=_;unfold cut;rw[HT.vW,HT.vW,gC (by rw[fE,ay];lia),ay,yI]
 unfold dN at qc ⊢;let#[C,k,c',d,hC,e]:=JO (Y (.lst W (ns.map D.int))) s s0 aan 0 (by lia) [([],[])] #[#[#[#[by simp,trivial,by simp],by simp,by simp],trivial],by simp,by simp] B B B;refine#[C,hC,?_];have fM:=f9 aan;have oM:=qX aan;have e:forR NO Al (gj 0 (aan.map D.int)) [Y (.lst W (ns.map D.int)),Y (.int s),Y (.lst J [.tup [.lst J [],.lst J []]]),B,B,B]=_:=e;generalize ns.map D.int=N at *;generalize aan.map D.int=N2 at *;unfold sV xM;unfold NO Al jS at e;unfold gZ at e ⊢;have hs:=szl;erw[fi,qc,qs,c1,fM,oM,e]
def Y5(w:Rw):jA 6 (bE w.val):=by
 have kk:∀ks:M (M L),jA 5 (.lst W (aF (ks.map wD))):=λks=>#[rfl,λy hy=>by
  rw[cZ]at hy;let#[k,_,rfl]:=b7.mp hy;trivial]
 have rf:∀l k,jA 5 (bE (fY l k)):=λl k=>all2 (p:=jA 4) trivial trivial;have od:∀o,jA 5 (bE (oD o)):=λo=>by cases o<;>trivial
 cases w with
 |parts n c l ks=>exact dD (p:=jA 5) trivial (dD (p:=jA 5) trivial (dD (p:=jA 5) trivial (dD (p:=jA 5) trivial (dD (p:=jA 5) (kk _) (λ_ z=>nomatch z)))))
 |join l k v l2 k2=>exact dD (p:=jA 5) trivial (dD (p:=jA 5) (rf _ _) (dD (p:=jA 5) trivial (dD (p:=jA 5) (rf _ _) (λ_ z=>nomatch z))))
 |size l k v a b=>exact dD (p:=jA 5) trivial (dD (p:=jA 5) (rf _ _) (dD (p:=jA 5) trivial (dD (p:=jA 5) (od _) (dD (p:=jA 5) (od _) (λ_ z=>nomatch z)))))
 |isa l k ks=>exact dD (p:=jA 5) trivial (dD (p:=jA 5) (rf _ _) (dD (p:=jA 5) (kk _) (λ_ z=>nomatch z)))
 |a_ v l k=>exact dD (p:=jA 5) trivial (dD (p:=jA 5) trivial (dD (p:=jA 5) (rf _ _) (λ_ z=>nomatch z)))
def abc(C:M Cl):jA 9 (.lst W (C.map cF)):=#[rfl,λy hy=>by
 let#[p,_,rfl]:=b7.mp hy;exact all2 (p:=jA 7) #[rfl,λz hz=>by let#[i,_,rfl]:=b7.mp hz;trivial] #[rfl,λz hz=>by
  rw[frzs_map',bW]at hz;let#[w,_,rfl]:=b7.mp hz;exact Y5 w]]
def Lk.Ok:Lk->Prop
|.cl ns=>mF ns 12
|.rw w=>w.Ok
def Lk.W0{k:Lk}(h:k.Ok):(∀w∈k.words,fO w)/\k.words.length<=12:=by
 cases k with
 |cl ns=>exact acy h (by decide)
 |rw w=>exact Rw.W0 h
def acC{ns:M Int}(h:mF ns 12):∀w∈b9::iR ns,Fx w:=by
 have f:∀w∈[b9,mE],Fx w:=all2 #[by decide,by decide,by decide] #[by decide,by decide,by decide];intro w hw;rcases aM.mp hw with rfl|hw
 ·exact f _ (by decide)
 ·unfold iR at hw;split at hw
  ·cases hw
  ·rcases aM.mp hw with rfl|hw
   ·exact f _ (by decide)
   ·exact Hu _ (λw hw=>by
     let#[n,hn,rfl]:=b7.mp hw;exact uo (wx h (by decide) n hn)) w hw
def Lk.ne(k:Lk):k.words≠[]:=by
 cases k with
 |cl ns=>exact λz=>by cases z
 |rw w=>
  cases w with
  |parts n c l ks=>
   show jg n c++_≠[];unfold jg;split
   ·exact λz=>by cases z
   ·split
    ·exact λz=>by cases z
    ·exact λz=>by cases z
  |join=>exact λz=>by cases z
  |size=>exact λz=>by cases z
  |isa=>exact λz=>by cases z
  |a_=>exact λz=>by cases z
def t_sp{k:Lk}(h:k.Ok)(d:Int)(hd:0<=d):∃T,nN [wD (jn k.words),.int d]=.ok (wD T)/\k.Vr (wordsOf T)/\10∉T/\T.length<=1000:=by
 let#[T,L1,q,h1,h2,h3,h4]:=RC k.ne (Lk.W0 h).1 (Lk.W0 h).2 d hd;refine#[T,q,?_,h3,h4];cases k with
 |cl ns=>
  rcases h1 with rfl|⟨x,r,e,_⟩
  ·exact Vs.all (acC h) h2
  ·cases e
 |rw w=>
  rcases h1 with rfl|⟨x,r,e,rfl⟩
  ·exact .inl h2
  ·cases w with
   |parts n c l ks=>
    let#[g1,g2,g3]:=h;have e:jg n c++(jz l++bU ks)=aL::x::r:=e;unfold jg at e;split at e
    ·cases e
    ·rename_i hc;split at e
     ·rename_i hn;subst hn;have hc:c=W:=by cases c<;>first|rfl|exact aG rfl hc
      subst hc;have e:aL::(jz l++bU ks)=aL::x::r:=e;have e:jz l++bU ks=x::r:=by injection e
      refine .inr #[l,ks,rfl,?_];rw[e];exact Vs.all (dD #[by decide,by decide,by decide] (dD #[by decide,by decide,by decide] (dD #[by decide,by decide,by decide] (by rw[<-e];exact WW g2 g3)))) h2
     ·cases e
   |join=>cases e
   |size=>cases e
   |isa=>cases e
   |a_=>cases e
abbrev L_:bh->Fl:=dz ku 1000 lq
def RD(T:M L):Prop:=10∉T/\T.length<=1000
def Y6(ns:M Int)(c:aaV D){k:Lk}(hk:k.Ok)(j:L)(hj:j<=200)(X:M D)(hX:X.length<=500)(s5:aaV D):∃(R:M (M L)) (t5:aaV D),(∃T,(R=[T]\/∃aaP,wordsOf aaP=[]/\RD aaP/\R=[aaP,T])/\k.Vr (wordsOf T)/\RD T)/\L_ [Y (dN ns),c,Y (.lst J X),Y (.int (j:Int)),Y (wD (jn k.words)),s5]=.nx [Y (dN ns),c,Y (.lst J (X++R.map wD)),Y (.int (j:Int)),Y (wD (jn k.words)),t5]:=by
 have hs:=szl;have lf:=jD X;let#[ce,qc]:=Rk ns (j+1) (by lia);have qc:oJ [dN ns,.int ((j:Int)+1)]=.ok (.int ce):=qc;let#[d,d0,d1,qd]:=tK ce ((j:Int)+200) (by lia);let#[T,qs,hv,h10,h1000]:=t_sp hk (d / 12) (by lia);have bj:0<=d / 4%3/\d / 4%3<3:=#[l6 _ (by decide),mS _ (by decide)];have rp:=wc 32 (d / 4%3) #[bj.1,by lia];have rl:=qZ (d / 4%3) 32;have fs:bE (dN ns)=dN ns:=by
  unfold dN;show D.lst W (aF (ns.map D.int))=_;rw[f9]
 unfold wD at qs ⊢;generalize strOf (jn k.words)=aeo at qs ⊢;generalize dN ns=aaU at *;unfold L_ lq ku;by_cases hb:d%4=0/\X.length<190
 ·refine#[[rep (d / 4%3) 32,T],Y (.int d),#[T,.inr #[_,?_,#[?_,by lia],rfl],hv,h10,h1000],?_]
  ·have:=RB [] (d / 4%3).toNat;exact this
  ·intro h;unfold rep at h;have:=mU h;cases this
  ·have e4:(d%4==0)=J:=by rw[hb.1];rfl
   have l4:decide ((X.length:Int)<190)=J:=aC (by lia);have ex:X++[rep (d / 4%3) 32,T].map (λw=>D.str (strOf w))=X++[.str (strOf (rep (d / 4%3) 32))]++[.str (strOf T)]:=by simp
   rw[ex];erw[fs,qc,qd,e4,lf,l4,BR,rp];rw[eE (xs:=X) rfl (by lia) rfl];erw[qs];rw[eE (xs:=X++[.str (strOf (rep (d / 4%3) 32))]) rfl (by simp;lia) rfl];erw[]
 ·refine#[[T],Y (.int d),#[T,.inl rfl,hv,h10,h1000],?_];have ex:X++[T].map (λw=>D.str (strOf w))=X++[.str (strOf T)]:=rfl;rw[ex];by_cases h4:d%4=0
  ·have e4:(d%4==0)=J:=by rw[h4];rfl
   have l4:decide ((X.length:Int)<190)=W:=aN (by lia);erw[fs,qc,qd,e4,lf,l4,qs];rw[eE (xs:=X) rfl (by lia) rfl];erw[]
  ·have e4:(d%4==0)=W:=by rw[cy];exact h4
   erw[fs,qc,qd,e4,qs];rw[eE (xs:=X) rfl (by lia) rfl];erw[]
theorem Ma(ns:M Int)(c:aaV D):∀(K:M Lk) (hK:∀k∈K,k.Ok) (j:L) (hj:j+K.length<=200) (X:M (M L)) (hX:X.length<=2*j) (s3 s4 s5:aaV D),∃(R:M (M L)) (t3 t4 t5:aaV D),Ak K (R.map wordsOf)/\(∀T∈R,RD T)/\R.length<=2*K.length/\forR BX L_ (gj j (K.map λk=>wD (jn k.words))) [Y (dN ns),c,Y (.lst J (X.map wD)),s3,s4,s5]=.nx [Y (dN ns),c,Y (.lst J ((X++R).map wD)),t3,t4,t5]
|[],_,j,_,X,_,s3,s4,s5=>#[[],s3,s4,s5,rfl,(λ_ h=>nomatch h),by simp,by rw[bK];rfl]
|k::K,hK,j,hj,X,hX,s3,s4,s5=>by
 have hj:j+(K.length+1)<=200:=hj;let#[R1,t5,#[T,h1,h2,h3],e1]:=Y6 ns c (hK k aj) j (by lia) (X.map wD) (by rw[ay];lia) s5;have lR:R1.length<=2:=by rcases h1 with rfl|⟨aaP,_,_,rfl⟩<;>simp
 let#[R,u3,u4,u5,g1,g2,g3,e2]:=Ma ns c K (λx hx=>hK x (ai _ hx)) (j+1) (by lia) (X++R1) (by rw[ao];lia) (Y (.int (j:Int))) (Y (wD (jn k.words))) t5;refine#[R1++R,u3,u4,u5,?_,?_,by rw[ao,aT];lia,?_]
 ·refine#[wordsOf T,R.map wordsOf,?_,h2,g1];rcases h1 with rfl|⟨aaP,hB,_,rfl⟩
  ·exact .inl rfl
  ·refine .inr ?_;show wordsOf aaP::wordsOf T::R.map wordsOf=_;rw[hB]
 ·intro aeo hU;rcases a6.mp hU with hU|hU
  ·rcases h1 with rfl|⟨aaP,_,hB,rfl⟩
   ·rw[aQ.mp hU];exact h3
   ·rcases aM.mp hU with rfl|hU
    ·exact hB
    ·rw[aQ.mp hU];exact h3
  ·exact g2 aeo hU
 ·have g:BX (.tup [.int (j:Int),wD (jn k.words)]) [Y (dN ns),c,Y (.lst J (X.map wD)),s3,s4,s5]=.ok [Y (dN ns),c,Y (.lst J (X.map wD)),Y (.int (j:Int)),Y (wD (jn k.words)),s5]:=rfl;rw[<-cC]at e1;show forR BX L_ (.tup [.int (j:Int),wD (jn k.words)]::gj (j+1) (K.map λk=>wD (jn k.words))) _=_;rw[lJ g e1,e2,bx]
def mF.mono{ns:M Int}{a b:Int}(h:mF ns a)(hab:a<=b):mF ns b:=#[h.l,h.r,λn hn=>by have:=h.b n hn;lia]
theorem lks_ok:∀(C:M Cl) (i:L) (h:nQ i C) (hl:i+C.length<=12),∀k∈wA C,k.Ok
|[],_,_,_,k,hk=>nomatch hk
|p::r,i,h,hl,k,hk=>by
 have hl:i+(r.length+1)<=12:=hl;have hk:k∈VX p++wA r:=hk;rcases a6.mp hk with hk|hk
 ·rcases aM.mp hk with rfl|hk
  ·exact h.1.1.mono (by lia)
  ·let#[w,hw,rfl]:=b7.mp hk;exact h.1.2.2 w hw
 ·exact lks_ok r (i+1) h.2 (by lia) k hk
def DX(ns:M Int)(C:M Cl)(hC:Am C):∃R:M (M L),kB [dN ns,.lst W (C.map cF)]=.ok (.lst J (R.map wD))/\Ak (wA C) (R.map wordsOf)/\(∀T∈R,RD T)/\R.length<=400:=by
 have hs:=szl;have ql:=Y3 C hC.ok hC.l;have ln:=Rt C 0 hC.ok;have lw:=Gr C;have ll:(wA C).length=(lines C).length:=by rw[<-lw,ay]
 have:=hC.l;let#[R,t3,t4,t5,h1,h2,h3,lo]:=Ma ns (Y (.lst W (C.map cF))) (wA C) (lks_ok C 0 hC.ok (by lia)) 0 (by lia) [] (by simp) B B B;refine#[R,?_,h1,h2,by lia];have em:(wA C).map (λk=>wD (jn k.words))=(lines C).map lD:=by rw[<-lw,bW];rfl
 rw[em]at lo;have fl:=NJ (lines C);have fy:=NK C;have ow:=W7 (lines C);have fs:bE (dN ns)=dN ns:=by
  unfold dN;show D.lst W (aF (ns.map D.int))=_;rw[f9]
 rw[iT]at lo;have lo:forR BX L_ (gj 0 ((lines C).map lD)) [Y (dN ns),Y (.lst W (C.map cF)),Y (.lst J []),B,B,B]=.nx [Y (dN ns),Y (.lst W (C.map cF)),Y (.lst J (R.map wD)),t3,t4,t5]:=lo;generalize(lines C).map lD=aaQ at *;generalize C.map cF=aap at *;generalize R.map wD=Z at *;generalize dN ns=aaU at *;unfold kB nD;unfold BX L_ at lo;unfold ku at lo ⊢;erw[fs,fy,ql,fl,ow,lo]
def NQ(C:M Cl)(hC:Am C)(R:M (M L))(h:Ak (wA C) (R.map wordsOf))(hT:∀T∈R,RD T)(hl:R.length<=400):jV [.str (dU (strOf [10]) (R.map strOf))]=.ok (.lst J (C.map cD)):=by
 have hs:=szl;have hne:R≠[]:=by
  intro z;subst z;cases C with
  |nil=>exact hC.n rfl
  |cons p r=>
   let#[ws,S',q,_]:=h;rcases q with q|q<;>cases q
 let#[l,e,hl2]:=YW R λT hT'=>(hT T hT').2;refine aa9 C hC.ok hC.l _ ?_ (by rw[e,jd];lia);have q:=lN 10 ((R.map strOf).map λp:Str=>p.cps.toList) (dU (strOf [10]) (R.map strOf)).cps.toList (by simpa using hne) (by
  intro p hp;rw[bW]at hp;let#[i,hi,rfl]:=b7.mp hp;exact(hT i hi).1) (join_list 10 _ (by simpa using hne))
 unfold ug;rw[q,bW,bW];exact h
abbrev Tl:=L->M D
def kh(T:Tl):Prop:=∀c,∀d∈T c,rG d=J
noncomputable def kN:Rw->L
|.parts _ _ _ _=>1
|.isa _ _ _=>1
|_=>0
def qo(T:Tl)(c:L):Rw->D
|.parts n b l ks=>.tup [.str "parts",.int n,.bl b,wD l,.lst J (ks.map wD++T c)]
|.isa l k ks=>.tup [.str "is",fY l k,.lst J (ks.map wD++T c)]
|w=>w.val
def sN:M Rw->L
|[]=>0
|w::r=>kN w+sN r
def g9(T:Tl):M Rw->L->M D
|[],_=>[]
|w::r,c=>qo T c w::g9 T r (c+kN w)
def cN(p:Cl):L:=1+(sN p.2+1)
def stC(T:Tl)(p:Cl)(c:L):D:=.tup [.lst J (p.1.map D.int++T c),.lst J (g9 T p.2 (c+2)++T (c+1))]
def tN:M Cl->L
|[]=>0
|p::r=>cN p+tN r
def i_(T:Tl):M Cl->L->M D
|[],_=>[]
|p::r,c=>stC T p c::i_ T r (c+cN p)
def qp(T:Tl)(C:M Cl):D:=.lst J (i_ T C 1)
def T0:Tl:=λ_=>[]
theorem abd:∀(ws:M Rw) (c:L),g9 T0 ws c=ws.map Rw.val
|[],_=>rfl
|w::r,c=>by
 show qo T0 c w::g9 T0 r (c+kN w)=_;rw[abd r];cases w with
 |parts n b l ks=>show D.tup [_,_,_,_,.lst J (ks.map wD++[])]::_=_;rw[bK];rfl
 |isa l k ks=>show D.tup [_,_,.lst J (ks.map wD++[])]::_=_;rw[bK];rfl
 |_=>rfl
theorem W_:∀(C:M Cl) (c:L),i_ T0 C c=C.map cD
|[],_=>rfl
|p::r,c=>by
 show stC T0 p c::i_ T0 r _=_;rw[W_ r];show D.tup [.lst J (p.1.map D.int++[]),.lst J (g9 T0 p.2 (c+2)++[])]::_=_;rw[bK,bK,abd];rfl
theorem oZ:∀a b:M D,eU (a++b)=eU a+eU b
|[],b=>(mQ _).symm
|d::r,b=>by
 show cT d+eU (r++b)=cT d+eU r+eU b;rw[oZ r b,G8]
theorem Hv:∀l:M D,(∀d∈l,cT d=0)->eU l=0
|[],_=>rfl
|d::r,h=>by
 show cT d+eU r=0;rw[h d aj,Hv r λx hx=>h x (ai _ hx)]
def Y7{d:D}(h:rG d=J):cT d=0:=by
 cases d<;>first|rfl|exact aG h bq
def xV{T:Tl}(hT:kh T)(c:L):eU (T c)=0:=Hv _ λd hd=>Y7 (hT c d hd)
def RE(ks:M (M L)):eU (ks.map wD)=0:=Hv _ λd hd=>by
 let#[k,_,rfl]:=b7.mp hd;rfl
def JP(ns:M Int):eU (ns.map D.int)=0:=Hv _ λd hd=>by
 let#[k,_,rfl]:=b7.mp hd;rfl
def RG(o:aaV Int):cT (oD o)=0:=by cases o<;>rfl
def NR{T:Tl}(hT:kh T)(c:L)(w:Rw):cT (qo T c w)=kN w:=by
 cases w with
 |parts n b l ks=>
  show 0+(0+(0+(0+(eU (ks.map wD++T c)+1+0))))=1;rw[oZ,RE,xV hT]
 |isa l k ks=>
  show 0+(cT (fY l k)+(eU (ks.map wD++T c)+1+0))=1;rw[oZ,RE,xV hT];rfl
 |size l k v a b=>
  show 0+(cT (fY l k)+(0+(cT (oD a)+(cT (oD b)+0))))=0;rw[RG,RG];rfl
 |join=>rfl
 |a_=>rfl
theorem Hw{T:Tl}(hT:kh T):∀(ws:M Rw) (c:L),eU (g9 T ws c)=sN ws
|[],_=>rfl
|w::r,c=>by
 show cT (qo T c w)+eU (g9 T r (c+kN w))=kN w+sN r;rw[NR hT,Hw hT r]
def NS{T:Tl}(hT:kh T)(p:Cl)(c:L):cT (stC T p c)=cN p:=by
 show eU (p.1.map D.int++T c)+1+(eU (g9 T p.2 (c+2)++T (c+1))+1+0)=1+(sN p.2+1);rw[oZ,oZ,JP,xV hT,xV hT,Hw hT]
theorem RH{T:Tl}(hT:kh T):∀(C:M Cl) (c:L),eU (i_ T C c)=tN C
|[],_=>rfl
|p::r,c=>by
 show cT (stC T p c)+eU (i_ T r (c+cN p))=cN p+tN r;rw[NS hT,RH hT r]
def RI{T T':Tl}{c:L}(w:Rw)(h:∀i,c<=i->i<c+kN w->T i=T' i):qo T c w=qo T' c w:=by
 cases w with
 |parts n b l ks=>show D.tup [_,_,_,_,.lst J (ks.map wD++T c)]=D.tup [_,_,_,_,.lst J (ks.map wD++T' c)];rw[h c (aW _) (gK _)]
 |isa l k ks=>show D.tup [_,_,.lst J (ks.map wD++T c)]=D.tup [_,_,.lst J (ks.map wD++T' c)];rw[h c (aW _) (gK _)]
 |_=>rfl
theorem Ao{T T':Tl}:∀(ws:M Rw) {c:L},(∀i,c<=i->i<c+sN ws->T i=T' i)->g9 T ws c=g9 T' ws c
|[],_,_=>rfl
|w::r,c,h=>by
 have h:∀i,c<=i->i<c+(kN w+sN r)->T i=T' i:=h;show qo T c w::g9 T r (c+kN w)=qo T' c w::g9 T' r (c+kN w);rw[RI w λi h1 h2=>h i h1 (by lia),Ao r λi h1 h2=>h i (by lia) (by lia)]
def RJ{T T':Tl}{c:L}(p:Cl)(h:∀i,c<=i->i<c+cN p->T i=T' i):stC T p c=stC T' p c:=by
 have h:∀i,c<=i->i<c+(1+(sN p.2+1))->T i=T' i:=h;unfold stC;rw[h c (by lia) (by lia),h (c+1) (by lia) (by lia),Ao p.2 λi h1 h2=>h i (by lia) (by lia)]
theorem Mb{T T':Tl}:∀(C:M Cl) {c:L},(∀i,c<=i->i<c+tN C->T i=T' i)->i_ T C c=i_ T' C c
|[],_,_=>rfl
|p::r,c,h=>by
 have h:∀i,c<=i->i<c+(cN p+tN r)->T i=T' i:=h;show stC T p c::i_ T r (c+cN p)=stC T' p c::i_ T' r (c+cN p);rw[RJ p λi h1 h2=>h i h1 (by lia),Mb r λi h1 h2=>h i (by lia) (by lia)]
noncomputable def g_(T:Tl)(c:L)(t:M D):Tl:=λi=>if i=c then t else T i
def kT{T:Tl}{c i:L}{t:M D}(h:i≠c):T i=g_ T c t i:=(aD h).symm
def wF(T:Tl)(c:L)(t:M D):g_ T c t c=t:=aB rfl
section
variable{f:M D->aaV (M D)}{T:Tl} (hT:kh T) {t:M D}
def JQ(f:M D->aaV (M D))(T:Tl)(c:L)(t:M D):Prop:=∀b:M D,b.length<=100->f (b++T c)=Y (b++t)
theorem Gu:∀(a b:M D) (j:L),j<eU a->∀{a'},f7 f a j=Y a'->f7 f (a++b) j=Y (a'++b)
|[],b,j,h,_,_=>aG h (j4 _)
|d::r,b,j,h,a',e=>by
 have e:(if j<cT d then(putN f d j).map (·::r)else(f7 f r (j-cT d)).map (d::·))=Y a':=e;show(if j<cT d then(putN f d j).map (·::(r++b))else(f7 f (r++b) (j-cT d)).map (d::·))=_;by_cases hj:j<cT d
 ·rw[aB hj]at e ⊢;let#[y,e1,rfl]:=iy e;rw[e1];rfl
 ·rw[aD hj]at e ⊢;let#[y,e1,rfl]:=iy e;rw[Gu r b (j-cT d) (by have h:j<cT d+eU r:=h;omega) e1];rfl
def uu{d d':D}{r:M D}{j:L}(h:j<cT d)(e:putN f d j=Y d'):f7 f (d::r) j=Y (d'::r):=by
 show(if j<cT d then(putN f d j).map (·::r)else _)=_;rw[aB h,e];rfl
def nR{d:D}{r r':M D}{j:L}(h:¬j<cT d)(e:f7 f r (j-cT d)=Y r'):f7 f (d::r) j=Y (d::r'):=by
 show(if j<cT d then _ else(f7 f r (j-cT d)).map (d::·))=_;rw[aD h,e];rfl
def ES{xs ys:M D}{j:L}(e:f7 f xs j=Y ys):putN f (.tup xs) j=Y (.tup ys):=by
 show(f7 f xs j).map D.tup=_;rw[e];rfl
def DY{o:Bool}{xs ys:M D}(e:f xs=Y ys):putN f (.lst o xs) 0=Y (.lst o ys):=by
 show(f xs).map (D.lst o)=_;rw[e];rfl
def RK{o:Bool}{xs ys:M D}{j:L}(e:f7 f xs j=Y ys):putN f (.lst o xs) (j+1)=Y (.lst o ys):=by
 show(f7 f xs j).map (D.lst o)=_;rw[e];rfl
include hT
theorem acD{c:L}{w:Rw}(hk:kN w=1)(hw:w.Ok)(hf:JQ f T c t):putN f (qo T c w) 0=Y (qo (g_ T c t) c w):=by
 have z:¬0<0:=eN 0;cases w with
 |parts n b l ks=>
  have hl:(ks.map wD).length<=100:=by rw[ay];have:=hw.2.2.2.1.2;lia
  show _=Y (D.tup [.str "parts",.int n,.bl b,wD l,.lst J (ks.map wD++g_ T c t c)]);rw[wF];exact ES (nR z (nR z (nR z (nR z (uu (Km _) (DY (hf _ hl)))))))
 |isa l k ks=>
  have hl:(ks.map wD).length<=100:=by rw[ay];have:=hw.2.2.1.2;lia
  show _=Y (D.tup [.str "is",fY l k,.lst J (ks.map wD++g_ T c t c)]);rw[wF];exact ES (nR z (nR z (uu (Km _) (DY (hf _ hl)))))
 |join=>cases hk
 |size=>cases hk
 |a_=>cases hk
theorem acE(w:Rw):kN w<=1:=by cases w<;>first|exact aW 1|exact iE 1
theorem Xa:∀(ws:M Rw) (hw:∀w∈ws,w.Ok) (c j:L),j<sN ws->JQ f T (c+j) t->f7 f (g9 T ws c) j=Y (g9 (g_ T (c+j) t) ws c)
|[],_,c,j,h,_=>aG h (j4 _)
|w::r,hw,c,j,h,hf=>by
 have h:j<kN w+sN r:=h;have k1:=acE hT w;have en:=NR hT c w;show f7 f (qo T c w::g9 T r (c+kN w)) j=Y (qo _ c w::g9 _ r (c+kN w));by_cases hj:j<kN w
 ·have h0:j=0:=by lia
  subst h0;rw[<-Ao (T:=T) (T':=g_ T (c+0) t) r λi h1 h2=>kT (by lia)];exact uu (by rw[en];exact hj) (acD hT (by lia) (hw w aj) hf)
 ·rw[<-RI (T:=T) (T':=g_ T (c+j) t) w λi h1 h2=>kT (by lia)];refine nR (by rw[en];exact hj) ?_;rw[en];have:=Xa r (λx hx=>hw x (ai _ hx)) (c+kN w) (j-kN w) (by lia) (by rw[show c+kN w+(j-kN w)=c+j by lia];exact hf);rw[show c+kN w+(j-kN w)=c+j by lia]at this;exact this
omit hT in
theorem Mc:∀(ws:M Rw) (c:L),(g9 T ws c).length=ws.length
|[],_=>rfl
|w::r,c=>by show(g9 T r _).length+1=_;rw[Mc r];rfl
theorem acF{i:L}{p:Cl}(hp:EO i p)(c j:L)(h:j<cN p)(hf:JQ f T (c+j) t):putN f (stC T p c) j=Y (stC (g_ T (c+j) t) p c):=by
 have h:j<1+(sN p.2+1):=h;have e1:cT (.lst J (p.1.map D.int++T c))=1:=by
  show eU (p.1.map D.int++T c)+1=1;rw[oZ,JP,xV hT]
 have e2:cT (.lst J (g9 T p.2 (c+2)++T (c+1)))=sN p.2+1:=by
  show eU (g9 T p.2 (c+2)++T (c+1))+1=_;rw[oZ,Hw hT,xV hT]
 have l1:(p.1.map D.int).length<=100:=by rw[ay];have:=hp.1.l;lia
 have l2:(g9 T p.2 (c+2)).length<=100:=by rw[Mc];have:=hp.2.1;lia
 refine ES ?_;rcases j with _|_|j
 ·show _=Y [D.lst J (p.1.map D.int++g_ T c t c),.lst J (g9 (g_ T c t) p.2 (c+2)++g_ T c t (c+1))];rw[wF,<-kT (T:=T) (t:=t) (show c+1≠c by lia),<-Ao (T:=T) (T':=g_ T c t) p.2 λi h1 h2=>kT (by lia)];exact uu (by rw[e1];decide) (DY (hf _ l1))
 ·show _=Y [D.lst J (p.1.map D.int++g_ T (c+1) t c),.lst J (g9 (g_ T (c+1) t) p.2 (c+2)++g_ T (c+1) t (c+1))];rw[wF,<-kT (T:=T) (t:=t) (show c≠c+1 by lia),<-Ao (T:=T) (T':=g_ T (c+1) t) p.2 λi h1 h2=>kT (by lia)];refine nR (by rw[e1];decide) ?_;rw[e1];exact uu (by rw[e2];lia) (DY (hf _ l2))
 ·have hR:=Xa hT p.2 hp.2.2 (c+2) j (by lia) (by rw[show c+2+j=c+(j+1+1)by lia];exact hf);rw[show c+2+j=c+(j+1+1)by lia]at hR;have hA:=Gu (g9 T p.2 (c+2)) (T (c+1)) j (by rw[Hw hT];lia) hR;show _=Y [D.lst J (p.1.map D.int++g_ T (c+(j+1+1)) t c),.lst J (g9 (g_ T (c+(j+1+1)) t) p.2 (c+2)++g_ T (c+(j+1+1)) t (c+1))];rw[<-kT (T:=T) (t:=t) (show c≠c+(j+1+1)by lia),<-kT (T:=T) (t:=t) (show c+1≠c+(j+1+1)by lia)];refine nR (by rw[e1];lia) ?_;rw[e1];exact uu (by rw[e2];lia) (RK hA)
theorem RL:∀(C:M Cl) (i:L) (h:nQ i C) (c j:L),j<tN C->JQ f T (c+j) t->f7 f (i_ T C c) j=Y (i_ (g_ T (c+j) t) C c)
|[],_,_,c,j,h,_=>aG h (j4 _)
|p::r,i,hC,c,j,h,hf=>by
 have h:j<cN p+tN r:=h;have en:=NS hT p c;show f7 f (stC T p c::i_ T r (c+cN p)) j=Y (stC _ p c::i_ _ r (c+cN p));by_cases hj:j<cN p
 ·rw[<-Mb (T:=T) (T':=g_ T (c+j) t) r λi h1 h2=>kT (by lia)];exact uu (by rw[en];exact hj) (acF hT hC.1 c j hj hf)
 ·rw[<-RJ (T:=T) (T':=g_ T (c+j) t) p λi h1 h2=>kT (by lia)];refine nR (by rw[en];exact hj) ?_;rw[en];have:=RL r (i+1) hC.2 (c+cN p) (j-cN p) (by lia) (by rw[show c+cN p+(j-cN p)=c+j by lia];exact hf);rw[show c+cN p+(j-cN p)=c+j by lia]at this;exact this
theorem Xb{C:M Cl}(h:nQ 0 C){c:L}(h1:1<=c)(h2:c<1+tN C)(hf:JQ f T c t):putN f (qp T C) c=Y (qp (g_ T c t) C):=by
 obtain⟨j,rfl⟩:∃j,c=1+j:=#[c-1,by lia];have:=RL hT C 0 h 1 j (by lia) hf;rw[show 1+j=j+1 by lia]at this ⊢;exact RK this
end
def kP(w:Rw)(c:L):M L:=if kN w=1 then[c]else[]
def vN:M Rw->L->M L
|[],_=>[]
|w::r,c=>kP w c++vN r (c+kN w)
def JR(p:Cl)(c:L):M L:=c::(vN p.2 (c+2)++[c+1])
def pos:M Cl->L->M L
|[],_=>[]
|p::r,c=>JR p c++pos r (c+cN p)
def Xc{w:Rw}{c i:L}(h:i∈kP w c):i=c/\kN w=1:=by
 unfold kP at h;split at h
 ·rename_i e;exact#[aQ.mp h,e]
 ·cases h
theorem wH:∀(ws:M Rw) (c i:L),i∈vN ws c->c<=i/\i<c+sN ws
|[],_,_,h=>nomatch h
|w::r,c,i,h=>by
 have h:i∈kP w c++vN r (c+kN w):=h;show c<=i/\i<c+(kN w+sN r);rcases a6.mp h with h|h
 ·let#[rfl,e]:=Xc h
  lia
 ·have:=wH r _ i h
  lia
def Me{p:Cl}{c i:L}(h:i∈JR p c):c<=i/\i<c+cN p:=by
 show c<=i/\i<c+(1+(sN p.2+1));rcases aM.mp h with rfl|h
 ·lia
 ·rcases a6.mp h with h|h
  ·have:=wH p.2 _ i h
   lia
  ·have:=aQ.mp h
   lia
theorem DZ:∀(C:M Cl) (c i:L),i∈pos C c->c<=i/\i<c+tN C
|[],_,_,h=>nomatch h
|p::r,c,i,h=>by
 show c<=i/\i<c+(cN p+tN r);rcases a6.mp (show i∈JR p c++pos r (c+cN p)from h)with h|h
 ·have:=Me h
  lia
 ·have:=DZ r _ i h
  lia
theorem Mf:∀(ws:M Rw) (c:L),(vN ws c).Nodup
|[],_=>di
|w::r,c=>by
 refine bP.mpr #[?_,Mf r _,λa ha b hb z=>?_]
 ·unfold kP;split
  ·exact bF.mpr #[aP,di]
  ·exact di
 ·let#[h1,h2]:=Xc ha;have:=wH r _ b hb
  lia
theorem JS:∀(C:M Cl) (c:L),(pos C c).Nodup
|[],_=>di
|p::r,c=>by
 refine bP.mpr #[?_,JS r _,λa ha b hb z=>?_]
 ·refine bF.mpr #[λh=>?_,bP.mpr #[Mf _ _,bF.mpr #[aP,di],λa ha b hb z=>?_]]
  ·rcases a6.mp h with h|h
   ·have:=wH p.2 _ _ h
    lia
   ·have:=aQ.mp h
    lia
  ·have:=wH p.2 _ a ha;have:=aQ.mp hb
   lia
 ·have:=Me ha;have:=DZ r _ b hb
  lia
def ki(T:Tl):M L->L->Tl
|[],_=>T
|c::r,n=>ki (g_ T c [.int n]) r (n+1)
def kh.up{T:Tl}(h:kh T){c:L}{t:M D}(ht:∀d∈t,rG d=J):kh (g_ T c t):=λi d hd=>by
 by_cases e:i=c
 ·subst e;rw[wF]at hd;exact ht d hd
 ·rw[<-kT e]at hd;exact h i d hd
def abe(n:L):∀d∈[D.int (n:Int)],rG d=J:=λd hd=>by rw[aQ.mp hd];rfl
theorem CJ:∀(cs:M L) (n:L) {T:Tl},kh T->kh (ki T cs n)
|[],_,_,h=>h
|c::r,n,_,h=>CJ r (n+1) (h.up (abe n))
theorem Mg:∀(cs:M L) (n:L) {T:Tl}{c:L}{t:M D},c∉cs->g_ (ki T cs n) c t=ki (g_ T c t) cs n
|[],_,_,_,_,_=>rfl
|a::r,n,T,c,t,h=>by
 have ha:c≠a:=λz=>h (z▸aj);show g_ (ki (g_ T a [.int n]) r (n+1)) c t=ki (g_ (g_ T c t) a [.int n]) r (n+1);rw[Mg r (n+1) λz=>h (ai _ z)];congr 1;funext i;unfold g_;by_cases e:i=c
 ·subst e;rw[aB rfl,aD ha,aB rfl]
 ·rw[aD e];by_cases e2:i=a
  ·rw[aB e2,aB e2]
  ·rw[aD e2,aD e2,aD e]
theorem Mh:∀(cs:M L) (n:L) {T:Tl}{c:L},c∉cs->ki T cs n c=T c
|[],_,_,_,_=>rfl
|a::r,n,T,c,h=>by
 show ki (g_ T a [.int n]) r (n+1) c=_;rw[Mh r (n+1) λz=>h (ai _ z),<-kT (T:=T) (c:=a) (i:=c) (t:=[.int n]) λz=>h (by rw[z];exact aj)]
theorem RM{C:M Cl}(h:nQ 0 C):∀(cs:M L) (n:L) {T:Tl},kh T->(∀i∈cs,(1<=i/\i<1+tN C)/\T i=[])->cs.Nodup->oG J cs n (qp T C)=Y (qp (ki T cs n) C)
|[],_,_,_,_,_=>rfl
|c::r,n,T,hT,hc,nd=>by
 have hs:=szl;let#[n1,n2]:=bF.mp nd;let#[#[c1,c2],c3]:=hc c aj;have hf:JQ (xD J n) T c [.int n]:=λb hb=>by
  rw[c3,bK];show(if b.length<ah then Y (b++[D.int n])else B)=_;rw[aB (by lia)]
 show(putN (xD J n) (qp T C) c).bind (oG J r (n+1))=_;rw[Xb hT h c1 c2 hf];refine RM h r (n+1) (hT.up (abe n)) (λi hi=>#[(hc i (ai _ hi)).1,?_]) n2;rw[<-kT (T:=T) (c:=c) (i:=i) (t:=[.int n]) λz=>n1 (by rw[<-z];exact hi)];exact(hc i (ai _ hi)).2
theorem Mi{C:M Cl}(h:nQ 0 C):∀(cs:M L) (n:L) {T:Tl},kh T->(∀i∈cs,(1<=i/\i<1+tN C)/\T i=[])->cs.Nodup->oG W cs n (qp (ki T cs n) C)=Y (qp T C)
|[],_,_,_,_,_=>rfl
|c::r,n,T,hT,hc,nd=>by
 let#[n1,n2]:=bF.mp nd;let#[#[c1,c2],c3]:=hc c aj;have e:ki T (c::r) n c=[.int n]:=by
  show ki (g_ T c [.int n]) r (n+1) c=_;rw[Mh r (n+1) n1,wF]
 have hf:JQ (xD W n) (ki T (c::r) n) c []:=λb hb=>by
  rw[e,bK];show(((b++[D.int n])[(b++[D.int (n:Int)]).length-1]?).bind λd=>if nJ n d=J then Y (b++[D.int (n:Int)]).dropLast else B)=_;rw[ao,bJ,Nat.add_sub_cancel,cj (aW _),kX];show(if nJ n (.int n)=J then Y (b++[D.int (n:Int)]).dropLast else B)=_;rw[aB (show nJ n (.int n)=J from aC rfl),List.dropLast_concat]
 show(putN (xD W n) (qp (ki T (c::r) n) C) c).bind (oG W r (n+1))=_;rw[Xb (CJ _ _ hT) h c1 c2 hf];have e2:g_ (ki T (c::r) n) c []=ki T r (n+1):=by
  show g_ (ki (g_ T c [.int n]) r (n+1)) c []=_;rw[Mg r (n+1) n1];congr 1;funext i;unfold g_;by_cases z:i=c
  ·rw[aB z,z,c3]
  ·rw[aD z,aD z]
 rw[e2];exact Mi h r (n+1) hT (λi hi=>hc i (ai _ hi)) n2
theorem Mj(as:M Addr):∀(a b:M D) (c:L),dB as (a++b) c=dB as a c++dB as b (c+eU a)
|[],b,c=>rfl
|d::r,b,c=>by
 show jE as d c::dB as (r++b) (c+cT d)=jE as d c::(dB as r (c+cT d)++dB as b (c+(cT d+eU r)));rw[Mj as r b,G8]
theorem Mk(as:M Addr):∀(l:M D) (c:L),(∀d∈l,rG d=J)->dB as l c=l
|[],_,_=>rfl
|d::r,c,h=>by
 have hd:=h d aj;show jE as d c::dB as r (c+cT d)=_;rw[Mk as r _ λx hx=>h x (ai _ hx)];congr 1;cases d<;>first|rfl|exact aG hd bq
def acG(as:M Addr)(d:D)(c:L)(h:gy d=J):gX (jE as d c)=J:=by
 cases d<;>first|rfl|exact aG h bq
theorem RN(as:M Addr):∀(l:M D) (c:L),ck l=J->∀e∈dB as l c,bE e=e/\gX e=J
|[],_,_,e,he=>nomatch he
|d::r,c,h,e,he=>by
 let#[h1,h2]:=band' (show(gy d&&ck r)=J from h);rcases aM.mp (show e∈jE as d c::dB as r (c+cT d)from he)with rfl|he
 ·exact#[EF as d c h1,acG as d c h1]
 ·exact RN as r _ h2 e he
theorem wJ:∀l:M D,(∀d∈l,rG d=J)->ck l=J
|[],_=>rfl
|d::r,h=>by
 have hd:=h d aj;show(gy d&&ck r)=J;rw[wJ r λx hx=>h x (ai _ hx)];cases d<;>first|rfl|exact aG hd bq
theorem Ml:∀l:M D,(∀d∈l,gy d=J)->ck l=J
|[],_=>rfl
|d::r,h=>by
 show(gy d&&ck r)=J;rw[h d aj,Ml r λx hx=>h x (ai _ hx)];rfl
def Xd{T:Tl}(hT:kh T)(c:L)(w:Rw):gy (qo T c w)=J:=by
 have kk:∀ks:M (M L),ck (ks.map wD++T c)=J:=λks=>t8 (Ml _ λd hd=>by let#[k,_,rfl]:=b7.mp hd;rfl) (wJ _ (hT c));cases w with
 |parts n b l ks=>show(ck (ks.map wD++T c)&&J)=J;rw[kk];rfl
 |isa l k ks=>show(ck (ks.map wD++T c)&&J)=J;rw[kk];rfl
 |size l k v a b=>rcases a with _|a<;>rcases b with _|b<;>rfl
 |join=>rfl
 |a_=>rfl
theorem Xe{T:Tl}(hT:kh T):∀(ws:M Rw) (c:L),ck (g9 T ws c)=J
|[],_=>rfl
|w::r,c=>by
 show(gy (qo T c w)&&ck (g9 T r _))=J;rw[Xd hT,Xe hT r];rfl
def Xf{T:Tl}(hT:kh T)(p:Cl)(c:L):gy (stC T p c)=J:=by
 show(ck (p.1.map D.int++T c)&&(ck (g9 T p.2 (c+2)++T (c+1))&&J))=J;rw[t8 (wJ _ λd hd=>by let#[k,_,rfl]:=b7.mp hd;rfl) (wJ _ (hT c)),t8 (Xe hT _ _) (wJ _ (hT _))];rfl
theorem JT{T:Tl}(hT:kh T):∀(C:M Cl) (c:L),ck (i_ T C c)=J
|[],_=>rfl
|p::r,c=>by
 show(gy (stC T p c)&&ck (i_ T r _))=J;rw[Xf hT,JT hT r];rfl
abbrev JU:bh->Fl:=dz DH 1000 pR
abbrev RO:bh->Fl:=dz DH 1000 uf
theorem RP:∀l:M D,(∀e∈l,bE e=e)->aF l=l
|[],_=>rfl
|d::r,h=>by
 show bE d::aF r=_;rw[h d aj,RP r λx hx=>h x (ai _ hx)]
def NU(es:M D)(h:∀e∈es,bE e=e/\gX e=J):ee (pG (.name 0)) (pT DH (.isi (.var 0) .list)) (pE DH (.var 0)) es [B]=.ok (es.filter (iW .list)):=by
 have:=kQ (g:=pG (.name 0)) (c:=pT DH (.isi (.var 0) .list)) (e:=pE DH (.var 0)) (λd:D=>d) (λO=>∃o,O=[o]) (iW .list) (λd=>d) es [B] #[B,rfl] (by
  rintro d hd O ⟨o,rfl⟩;let#[h1,h2]:=h d hd;refine#[[Y d],rfl,#[_,rfl],?_,?_]
  ·erw[h1,h2]
  ·erw[h1])
 rw[Kn,Kn]at this;exact this
def Y8(es:M D)(h:∀e∈es,bE e=e/\gX e=J)(X:M D)(hX:X.length+es.length<=10000)(s0 s2 s3:aaV D):JU [s0,Y (.lst J X),s2,s3,Y (.tup es)]=.nx [s0,Y (.lst J (X++es.filter (iW .list))),s2,s3,Y (.tup es)]:=by
 have hs:=szl;have q:=NU es h;have fe:=RP es λe he=>(h e he).1;have hl:(es.filter (iW .list)).length<=es.length:=w5 _ _;unfold JU pR;unfold DH at q ⊢;generalize es.filter (iW .list)=aap at q hl ⊢;erw[fe,q];rw[FW (xs:=X) rfl (by lia) (by show(_||true)=J;rw[Bool.or_true])];cases o:be (.lst J aap)with
 |true=>rfl
 |false=>erw[fe]
def Y9(n:Int)(X:M D)(s0 s2 s3:aaV D):JU [s0,Y (.lst J X),s2,s3,Y (.int n)]=.nx [s0,Y (.lst J X),s2,s3,Y (.int n)]:=by
 unfold JU pR DH;erw[]
theorem xW:∀{a b:M D}{x y:M Addr},lS a=Y x->lS b=Y y->lS (a++b)=Y (x++y)
|[],_,_,_,h,h'=>by cases h;exact h'
|d::r,b,x,y,h,h'=>by
 cases d<;>first|(cases h;done)|skip
 let#[z,e,rfl]:=iy (show(lS r).map _=Y x from h);show(lS (r++b)).map _=_;rw[xW e h'];rfl
section
variable{T:Tl} (hT:kh T) (as:M Addr)
noncomputable abbrev gA(as:M Addr)(l:M L):M Addr:=l.map λi=>as.getD i 0
def JV(as:M Addr)(a b:M L):gA as (a++b)=gA as a++gA as b:=cC
include hT
theorem acH(c:L)(w:Rw):∃es,jE as (qo T c w) c=.tup es/\es.length<=5/\(∀e∈es,bE e=e/\gX e=J)/\lS (es.filter (iW .list))=Y (gA as (kP w c)):=by
 have key:∀xs,qo T c w=.tup xs->xs.length<=5->lS ((dB as xs c).filter (iW .list))=Y (gA as (kP w c))->∃es,jE as (qo T c w) c=.tup es/\es.length<=5/\(∀e∈es,bE e=e/\gX e=J)/\lS (es.filter (iW .list))=Y (gA as (kP w c)):=by
  intro xs e hl ha;have hs:=Xd hT c w;rw[e]at hs;have ll:∀(l:M D) (c:L),(dB as l c).length=l.length:=λl=>by
   induction l with
   |nil=>intro c;rfl
   |cons d r ih=>intro c;show(dB as r _).length+1=_;rw[ih];rfl
  refine#[dB as xs c,by rw[e];rfl,by rw[ll];exact hl,RN as xs c hs,ha]
 cases w with
 |parts n b l ks=>exact key _ rfl (by simp) rfl
 |isa l k ks=>exact key _ rfl (by simp) rfl
 |join l k v l2 k2=>exact key _ rfl (by simp) rfl
 |size l k v a b=>
  refine key _ rfl (by simp) ?_;rcases a with _|a<;>rcases b with _|b<;>rfl
 |a_ v l k=>exact key _ rfl (by simp) rfl
omit hT in
theorem RQ(s0 s2 s3:aaV D)(X:M D):∀(tl:M D) (h:∀d∈tl,rG d=J) (s4:aaV D),∃t4,forR (pG (.name 4)) JU tl [s0,Y (.lst J X),s2,s3,s4]=.nx [s0,Y (.lst J X),s2,s3,t4]
|[],_,s4=>#[s4,rfl]
|d::r,h,s4=>by
 have hd:=h d aj;obtain⟨n,rfl⟩:∃n,d=.int n:=by
  cases d<;>first|exact⟨_,rfl⟩|exact aG hd bq
 let#[t4,q]:=RQ s0 s2 s3 X r (λx hx=>h x (ai _ hx)) (Y (.int n));exact#[t4,(lJ rfl (Y9 n X s0 s2 s3)).trans q]
theorem RS(s0 s2 s3:aaV D)(tl:M D)(htl:∀d∈tl,rG d=J):∀(ws:M Rw) (c:L) (X:M D) (hX:X.length+5*ws.length<=9000) (s4:aaV D),∃aap t4,lS aap=Y (gA as (vN ws c))/\aap.length<=5*ws.length/\forR (pG (.name 4)) JU (dB as (g9 T ws c) c++tl) [s0,Y (.lst J X),s2,s3,s4]=.nx [s0,Y (.lst J (X++aap)),s2,s3,t4]
|[],c,X,hX,s4=>by
 let#[t4,q]:=RQ s0 s2 s3 X tl htl s4;exact#[[],t4,rfl,by decide,by rw[bK];exact q]
|w::r,c,X,hX,s4=>by
 have hX:X.length+5*(r.length+1)<=9000:=hX;let#[es,e1,e2,e3,e4]:=acH hT as c w;have fl:(es.filter (iW .list)).length<=es.length:=w5 _ _;let#[aap,t4,h1,h2,q]:=RS s0 s2 s3 tl htl r (c+kN w) (X++es.filter (iW .list)) (by rw[ao];lia) (Y (.tup es));refine#[es.filter (iW .list)++aap,t4,?_,by rw[ao,aT];lia,?_]
 ·rw[xW e4 h1];show _=Y (gA as (kP w c++vN r (c+kN w)));rw[JV]
 ·show forR _ _ (jE as (qo T c w) c::(dB as (g9 T r (c+kN w)) (c+cT (qo T c w))++tl)) _=_;rw[NR hT,e1,lJ (σ2:=[s0,Y (.lst J X),s2,s3,Y (.tup es)]) rfl (Y8 es e3 X (by lia) s0 s2 s3),q,bx]
theorem Y_(s0:aaV D)(p:Cl)(c:L)(X:M D)(hl:p.2.length<=12)(hX:X.length<=8000)(s4:aaV D):∃A aaP aap t4,jE as (stC T p c) c=.tup [A,aaP]/\lS aap=Y (gA as (JR p c))/\aap.length<=62/\RO [s0,Y (.lst J X),Y A,Y aaP,s4]=.nx [s0,Y (.lst J (X++aap)),Y A,Y aaP,t4]:=by
 have hs:=szl;have s1:=Xf hT p c;let#[h1,h2]:=band' (show(ck (p.1.map D.int++T c)&&(ck (g9 T p.2 (c+2)++T (c+1))&&J))=J from s1);let#[h2,_]:=band' h2;have e1:cT (.lst J (p.1.map D.int++T c))=1:=by
  show eU (p.1.map D.int++T c)+1=1;rw[oZ,JP,xV hT]
 have fU:=qT as (p.1.map D.int++T c) (c+1) h1;have fV:=qT as (g9 T p.2 (c+2)++T (c+1)) (c+1+1) h2;have eV:dB as (g9 T p.2 (c+2)++T (c+1)) (c+1+1)=dB as (g9 T p.2 (c+2)) (c+2)++T (c+1):=by
  rw[Mj,Mk as (T (c+1)) _ (hT _)]
 generalize hU:dB as (p.1.map D.int++T c) (c+1)=aeo at fU;let#[aap,t4,g1,g2,q]:=RS hT as s0 (Y (.adr (as.getD c 0) aeo)) (Y (.adr (as.getD (c+1) 0) (dB as (g9 T p.2 (c+2)++T (c+1)) (c+1+1)))) (T (c+1)) (hT _) p.2 (c+2) (X++[.adr (as.getD c 0) aeo]) (by rw[ao,bJ];lia) s4;rw[<-eV]at q;refine#[.adr (as.getD c 0) aeo,.adr (as.getD (c+1) 0) (dB as (g9 T p.2 (c+2)++T (c+1)) (c+1+1)),.adr (as.getD c 0) aeo::(aap++[.adr (as.getD (c+1) 0) (dB as (g9 T p.2 (c+2)++T (c+1)) (c+1+1))]),t4,?_,?_,by simp;lia,?_]
 ·show D.tup [.adr (as.getD c 0) (dB as (p.1.map D.int++T c) (c+1)),jE as (.lst J (g9 T p.2 (c+2)++T (c+1))) (c+cT (.lst J (p.1.map D.int++T c)))]=_;rw[e1,hU];rfl
 ·show(lS (aap++[.adr (as.getD (c+1) 0) _])).map _=_;rw[xW g1 (show lS [.adr (as.getD (c+1) 0) _]=Y [as.getD (c+1) 0]from rfl)];show Y (as.getD c 0::_)=Y (gA as (c::(vN p.2 (c+2)++[c+1])));rw[show gA as (c::(vN p.2 (c+2)++[c+1]))=as.getD c 0::gA as (vN p.2 (c+2)++[c+1])from rfl,JV];rfl
 ·generalize dB as (g9 T p.2 (c+2)++T (c+1)) (c+1+1)=V at fV q ⊢;generalize as.getD c 0=a1 at q ⊢;generalize as.getD (c+1) 0=a2 at q ⊢;have l1:(X++[D.adr a1 aeo]++aap).length<ah:=by simp;lia
  unfold RO uf;unfold JU at q;unfold DH at q ⊢;erw[fU];rw[eE (xs:=X) rfl (by lia) rfl];erw[fU,fV,q];rw[eE (xs:=X++[.adr a1 aeo]++aap) rfl l1 rfl];erw[fU,fV];rw[show X++[D.adr a1 aeo]++aap++[.adr a2 V]=X++D.adr a1 aeo::(aap++[.adr a2 V])by simp]
theorem Xg(s0:aaV D):∀(C:M Cl) (i:L) (h:nQ i C) (hi:i+C.length<=12) (c:L) (X:M D) (hX:X.length<=62*i) (s2 s3 s4:aaV D),∃aap t2 t3 t4,lS aap=Y (gA as (pos C c))/\forR L5 RO (dB as (i_ T C c) c) [s0,Y (.lst J X),s2,s3,s4]=.nx [s0,Y (.lst J (X++aap)),t2,t3,t4]
|[],i,_,_,c,X,_,s2,s3,s4=>#[[],s2,s3,s4,rfl,by rw[bK];rfl]
|p::r,i,h,hi,c,X,hX,s2,s3,s4=>by
 have hi:i+(r.length+1)<=12:=hi;let#[A,aaP,aap,t4,e0,h1,h2,e1]:=Y_ hT as s0 p c X h.1.2.1 (by lia) s4;let#[Z,u2,u3,u4,g1,e2]:=Xg s0 r (i+1) h.2 (by lia) (c+cN p) (X++aap) (by rw[ao];lia) (Y A) (Y aaP) t4;refine#[aap++Z,u2,u3,u4,?_,?_]
 ·rw[xW h1 g1];show _=Y (gA as (JR p c++pos r (c+cN p)));rw[JV]
 ·show forR L5 RO (jE as (stC T p c) c::dB as (i_ T r (c+cN p)) (c+cT (stC T p c))) _=_;rw[NS hT,e0,lJ (σ2:=[s0,Y (.lst J X),Y A,Y aaP,s4]) rfl e1,e2,bx]
theorem Mm{C:M Cl}(hC:Am C):IF (kZ [jE as (qp T C) 0])=Y (gA as (pos C 1)):=by
 have hs:=szl;have ss:=JT hT C 1;have fI:=qT as (i_ T C 1) 1 ss;let#[aap,t2,t3,t4,h1,q]:=Xg hT as (Y (.adr (as.getD 0 0) (dB as (i_ T C 1) 1))) C 0 hC.ok (by have:=hC.l;lia) 1 [] (by decide) B B B;have e:kZ [.adr (as.getD 0 0) (dB as (i_ T C 1) 1)]=.ok (.lst J aap):=by
  rw[iT]at q;generalize dB as (i_ T C 1) 1=I at *;generalize as.getD 0 0=a0 at *;unfold kZ zR;unfold L5 RO at q;unfold DH at q ⊢;erw[fI,q]
 show IF (kZ [.adr (as.getD 0 0) (dB as (i_ T C 1) 1)])=_;rw[e];exact h1
end
def RT{T:Tl}(hT:kh T){C:M Cl}(hC:Am C):xE kZ (qp T C)=Y (pos C 1):=by
 have en:cT (qp T C)=1+tN C:=by
  show eU (i_ T C 1)+1=_;rw[RH hT];lia
 unfold xE;rw[Mm hT _ hC,en];have e:gA (bH (1+tN C)) (pos C 1)=pos C 1:=by
  refine(jM λi hi=>?_).trans (La _);have:=DZ C 1 i hi;show(bH (1+tN C)).getD i 0=i;rw[bV,qH (by lia)];rfl
 rw[e,C7];exact aB λas _=>Mm hT as hC
def RU{U:M PG}{m:M D->R D}{q:Bool}{g:L}{s0 s1 s2 s4 s5:aaV D}{x y:D}{cs:M L}(hg:U[g]?=Y (.fn m []))(hx:gy x=J)(h1:xE m x=Y cs)(h2:oG q cs 0 x=Y y):Cq U q g 3 4 5 [s0,s1,s2,Y x,s4,s5]=.nx [s0,s1,s2,Y y,B,B]:=by
 unfold Cq;rw[hg];show(if(J&&(J&&(J&&(J&&(J&&gy x)))))=J then(R.opt ((xE m x).bind λcs=>oG q cs 0 x)).a_ λy=>.nx [s0,s1,s2,Y y,B,B]else .bad)=_;rw[hx,h1];show(R.opt (oG q cs 0 x)).a_ _=_;rw[h2];rfl
def Xh{T:Tl}(hT:kh T)(C:M Cl):gy (qp T C)=J:=by
 show(J&&ck (i_ T C 1))=J;rw[JT hT];rfl
theorem gl2:xR[2]?=Y (.fn kZ []):=rfl
def fin(ns:M Int)(h:ns.length<=63):Nq [dN ns]=.ok (.bl J):=by
 have hs:=szl;let#[C,hC,q]:=V5 ns h;let#[R,qs,h1,h2,h3]:=DX ns C hC;have qr:=NQ C hC R h1 h2 h3;have qj:kL .join (.str (strOf [10])) [.lst J (R.map wD)]=.ok (.str (dU (strOf [10]) (R.map strOf))):=wu [10] R J (by lia) (λT hT=>(h2 T hT).2) (by decide);have qa:zS [.lst W (C.map cF),.lst W (C.map cF)]=.ok (.bl J):=ER 9 _ (abc C);have i0:kh T0:=λc d hd=>nomatch hd
 have i1:=CJ (pos C 1) 0 i0;have hp:∀i∈pos C 1,(1<=i/\i<1+tN C)/\T0 i=[]:=λi hi=>#[DZ C 1 i hi,rfl];have eX:qp T0 C=.lst J (C.map cD):=by unfold qp;rw[W_]
 have c1:∀s0 s1 s2 s4 s5:aaV D,qS xR (.forr (.tup (.cons (.name 4) (.cons (.name 5) .nil))) (.enum (.call 2 (.cons (.var 3) .nil))) Je) [s0,s1,s2,Y (.lst J (C.map cD)),s4,s5]=.nx [s0,s1,s2,Y (qp (ki T0 (pos C 1) 0) C),B,B]:=λs0 s1 s2 s4 s5=>by
  rw[<-eX];show Cq xR J 2 3 4 5 [s0,s1,s2,Y (qp T0 C),s4,s5]=_;exact RU gl2 (Xh i0 C) (RT i0 hC) (RM hC.ok (pos C 1) 0 i0 hp (JS C 1))
 have c2:∀s0 s1 s2:aaV D,qS xR (.forr (.tup (.cons (.name 4) (.cons (.name 5) .nil))) (.enum (.call 2 (.cons (.var 3) .nil))) Jd) [s0,s1,s2,Y (qp (ki T0 (pos C 1) 0) C),B,B]=.nx [s0,s1,s2,Y (.lst J (C.map cD)),B,B]:=λs0 s1 s2=>by
  rw[<-eX];show Cq xR W 2 3 4 5 [s0,s1,s2,Y (qp (ki T0 (pos C 1) 0) C),B,B]=_;exact RU gl2 (Xh i1 C) (RT i1 hC) (Mi hC.ok (pos C 1) 0 i0 hp (JS C 1))
 have cc:∀(U:M PG) (n:L) (s0 s1 s2 s4 s5:aaV D) (xs:M D),pS U n (.expr (.mth .clear (.var 3) .nil)) [s0,s1,s2,Y (.lst J xs),s4,s5]=.nx [s0,s1,s2,Y (.lst J []),s4,s5]:=λ_ _ _ _ _ _ _ _=>rfl;have fo:=NL C;have fc:=DU C;have oo:=W9 C;have od:c9 (C.map cD)=J:=oo;have fi:=f9 ns;have fy:=NK C;have fr:=cZ R;have nl:au "\n"=strOf [10]:=by decide +kernel
 unfold dN at q qs ⊢;generalize qp (ki T0 (pos C 1) 0) C=X1 at *;generalize C.map cO=X at q fo oo;generalize C.map cF=aap at *;generalize C.map cD=Z at *;generalize R.map wD=aaQ at *;generalize dU (strOf [10]) (R.map strOf)=x at *;generalize ns.map D.int=N at *;unfold Nq Np;unfold xR at c1 c2 ⊢;erw[fi,q,oo,fo,fy,qs,fr,nl,qj,qr,od,fc,qa,DS,c1,c2,cc]
end K2
end
namespace Fin
open PySem L2 L3 Tr
section
variable{P:bM}{w:bL}{K:aa}{mg:Str->aaV S}
structure Hy (P:bM) (w:bL) (K:aa) (mg:Str->aaV S) (a_THE:Addr) (a_KEPT_WORDS:Addr) (a_A:Addr):Prop where
 z:∀x∈BN,mg x=B
 D_law:DI K mg uZ
 D_l_alike:DI K mg Gg
 D_read_claims:DI K mg yu
 D_rows_in:DI K mg Gh
 D_words_in:DI K mg DJ
 D_takes_in:DI K mg DL
 D_taken_numbers:DI K mg uY
 D_number_in:DI K mg BJ
 D_is_figures:DI K mg zY
 D_all_within:DI K mg zX
 D_choices_in:DI K mg zZ
 D_row_in:DI K mg Jq
 D_row_told:DI K mg DN
 D_told_of_ref:DI K mg yt
 D_size_told:DI K mg BK
 D_bounds_told:DI K mg yr
 D_join_told:DI K mg BO
 D_ref_told:DI K mg DM
 D_all_words:DI K mg BL
 D_is_word:DI K mg Gi
 D_is_told:DI K mg Gj
 D_kinds_told:DI K mg z0
 D_count_of_words_ahead:DI K mg nO
 D_step_told:DI K mg BP
 D_parts_told:DI K mg z6
 D_l_lists:DI K mg Gk
 D_l_spelled_lines:DI K mg se
 D_l_lines:DI K mg Gm
 D_l_text:DI K mg Js
 D_l_ref_text:DI K mg z9
 D_l_size_text:DI K mg yw
 D_l_spelled:DI K mg BQ
 D_l_mixed:DI K mg Gn
 D_l_cell:DI K mg Jt
 D_l_claims:DI K mg DP
 D_l_takes:DI K mg Gp
 D_l_row:DI K mg LO
 D_l_ref:DI K mg LN
 D_l_word:DI K mg Ju
 D_l_some:DI K mg Jv
 D_l_bounds:DI K mg DO
 V_MOST_CLAIMS:∃u,mg "MOST_CLAIMS"=Y u/\RelV (V.int 12) u
 V_MOST_FIGURES:∃u,mg "MOST_FIGURES"=Y u/\RelV (V.int 30) u
 V_MOST_ROWS:∃u,mg "MOST_ROWS"=Y u/\RelV (V.int 12) u
 V_THE:mg "THE"=Y (.ref a_THE)/\Fg K a_THE J [.str "the",.str "said"]
 V_KEPT_WORDS:mg "KEPT_WORDS"=Y (.ref a_KEPT_WORDS)/\Fg K a_KEPT_WORDS J [.str "a",.str "an",.str "the",.str "said",.str "claim",.str "on",.str "or",.str "then",.str "from",.str "to",.str "of",.str "at",.str "least",.str "most",.str "just",.str "is"]
 V_MOST_LETTERS:∃u,mg "MOST_LETTERS"=Y u/\RelV (V.int 8) u
 V_A:mg "A"=Y (.ref a_A)/\Fg K a_A J [.str "a",.str "an"]
 V_MOST_KINDS:∃u,mg "MOST_KINDS"=Y u/\RelV (V.int 3) u
 V_MOST_PARTS:∃u,mg "MOST_PARTS"=Y u/\RelV (V.int 5) u
variable{base:Heap}{a_THE:Addr}{a_KEPT_WORDS:Addr}{a_A:Addr} (Z:Hy P w K mg a_THE a_KEPT_WORDS a_A)
include Z
theorem BY:∀j,gn P w K mg base (0+j) "_law_alike" (jr j)
|0=>f0 Z.D_l_alike
|j+1=>fD (k:=0+j) Z.D_l_alike Q2 Z.z (gF (BY j) gN (aW _))
theorem NV:gn P w K mg base 9 "_law_alike" zS:=BY Z 9
theorem KN:gn P w K mg base 1 "words_in" sU:=fD (k:=0) Z.D_words_in Nr Z.z gN
theorem NW:gn P w K mg base 2 "rows_in" uV:=fD (k:=1) Z.D_rows_in Q3 Z.z (gF (KN Z) gN)
theorem yy:gn P w K mg base 1 "all_within" mz:=fD (k:=0) Z.D_all_within Jk Z.z gN
theorem GL:gn P w K mg base 2 "is_figures" pU:=fD (k:=1) Z.D_is_figures Jl Z.z (gF (yy Z) (gV Z.V_MOST_FIGURES rfl gN))
theorem uv:gn P w K mg base 3 "number_in" dj:=fD (k:=2) Z.D_number_in KA Z.z (gF (GL Z) gN)
theorem yz:gn P w K mg base 1 "choices_in" gz:=fD (k:=0) Z.D_choices_in Jm Z.z gN
theorem CK:gn P w K mg base 4 "taken_numbers" iQ:=fD (k:=3) Z.D_taken_numbers DK Z.z (gF (uv Z) (gF (yz Z) gN))
theorem KO:gn P w K mg base 5 "takes_in" pW:=fD (k:=4) Z.D_takes_in Nt Z.z (gF (CK Z) gN)
theorem ET:gn P w K mg base 4 "bounds_told" cH:=fD (k:=3) Z.D_bounds_told GG Z.z (gF (uv Z) gN)
theorem JW:gn P w K mg base 5 "size_told" j9:=fD (k:=4) Z.D_size_told KC Z.z (gF (ET Z) gN)
theorem sW:gn P w K mg base 2 "is_word" mD:=fD (k:=1) Z.D_is_word Q4 Z.z (gT Z.V_KEPT_WORDS #[a_KEPT_WORDS,_,rfl,Z.V_KEPT_WORDS.2,by decide +kernel,by repeat (first|exact rfl|refine⟨_,_,rfl,⟨rfl,by decide +kernel⟩,?_⟩|refine⟨_,_,rfl,rfl,?_⟩)] (gF (yy Z) (gV Z.V_MOST_LETTERS rfl gN)))
theorem Aq:gn P w K mg base 3 "all_words" j_:=fD (k:=2) Z.D_all_words KD Z.z (gF (sW Z) gN)
theorem rC:gn P w K mg base 4 "ref_told" fS:=fD (k:=3) Z.D_ref_told Nu Z.z (gF (Aq Z) gN)
theorem JX:gn P w K mg base 5 "join_told" kc:=fD (k:=4) Z.D_join_told KE Z.z (gF (rC Z) gN)
theorem yC:gn P w K mg base 4 "kinds_told" gY:=fD (k:=3) Z.D_kinds_told Jo Z.z (gF (Aq Z) (gV Z.V_MOST_KINDS rfl (gF (yz Z) gN)))
theorem NX:gn P w K mg base 5 "is_told" oV:=fD (k:=4) Z.D_is_told Q5 Z.z (gT Z.V_A #[a_A,_,rfl,Z.V_A.2,by decide +kernel,by repeat (first|exact rfl|refine⟨_,_,rfl,⟨rfl,by decide +kernel⟩,?_⟩|refine⟨_,_,rfl,rfl,?_⟩)] (gF (yC Z) (gF (rC Z) gN)))
theorem uJ:gn P w K mg base 3 "count_of_words_ahead" fK:=fD (k:=2) Z.D_count_of_words_ahead vK Z.z (gF (sW Z) gN)
theorem EU:gn P w K mg base 6 "told_of_ref" dX:=fD (k:=5) Z.D_told_of_ref GH Z.z (gF (JW Z) (gT Z.V_THE #[a_THE,_,rfl,Z.V_THE.2,by decide +kernel,by repeat (first|exact rfl|refine⟨_,_,rfl,⟨rfl,by decide +kernel⟩,?_⟩|refine⟨_,_,rfl,rfl,?_⟩)] (gF (JX Z) (gF (rC Z) (gF (NX Z) (gF (uJ Z) gN))))))
theorem JY:gn P w K mg base 5 "step_told" lO:=fD (k:=4) Z.D_step_told KG Z.z (gF (rC Z) (gT Z.V_THE #[a_THE,_,rfl,Z.V_THE.2,by decide +kernel,by repeat (first|exact rfl|refine⟨_,_,rfl,⟨rfl,by decide +kernel⟩,?_⟩|refine⟨_,_,rfl,rfl,?_⟩)] (gF (sW Z) gN)))
theorem GN:gn P w K mg base 5 "parts_told" d9:=fD (k:=4) Z.D_parts_told Jp Z.z (gF (sW Z) (gF (yC Z) (gV Z.V_MOST_PARTS rfl (gF (uv Z) gN))))
theorem KP:gn P w K mg base 7 "row_told" fT:=fD (k:=6) Z.D_row_told Nv Z.z (gT Z.V_THE #[a_THE,_,rfl,Z.V_THE.2,by decide +kernel,by repeat (first|exact rfl|refine⟨_,_,rfl,⟨rfl,by decide +kernel⟩,?_⟩|refine⟨_,_,rfl,rfl,?_⟩)] (gF (EU Z) (gF (JY Z) (gF (GN Z) (gT Z.V_A #[a_A,_,rfl,Z.V_A.2,by decide +kernel,by repeat (first|exact rfl|refine⟨_,_,rfl,⟨rfl,by decide +kernel⟩,?_⟩|refine⟨_,_,rfl,rfl,?_⟩)] gN)))))
theorem RV:gn P w K mg base 8 "row_in" xO:=fD (k:=7) Z.D_row_in VA Z.z (gV Z.V_MOST_ROWS rfl (gF (KP Z) gN))
theorem EV:gn P w K mg base 9 "read_claims" jV:=fD (k:=8) Z.D_read_claims GI Z.z (gF (NW Z) (gV Z.V_MOST_CLAIMS rfl (gF (KO Z) (gF (RV Z) gN))))
theorem NY:gn P w K mg base 1 "_law_lists" kZ:=fD (k:=0) Z.D_l_lists Q6 Z.z gN
theorem GO:gn P w K mg base 1 "_law_ref_text" gB:=fD (k:=0) Z.D_l_ref_text Jr Z.z gN
theorem EW:gn P w K mg base 1 "_law_size_text" gE:=fD (k:=0) Z.D_l_size_text GJ Z.z gN
theorem RW:gn P w K mg base 2 "_law_text" eO:=fD (k:=1) Z.D_l_text VB Z.z (gF (GO Z) (gF (EW Z) gN))
theorem NZ:gn P w K mg base 3 "_law_lines" uW:=fD (k:=2) Z.D_l_lines Q7 Z.z (gF (RW Z) gN)
theorem JZ:gn P w K mg base 1 "_law_spelled" nN:=fD (k:=0) Z.D_l_spelled KH Z.z gN
theorem xX:gn P w K mg base 1 "_law_mixed" oW:=fD (k:=0) Z.D_l_mixed Q8 Z.z gN
theorem Gv:gn P w K mg base 1 "_law_cell" oJ:=fD (k:=0) Z.D_l_cell VC Z.z gN
theorem Ar:gn P w K mg base 4 "_law_spelled_lines" kB:=fD (k:=3) Z.D_l_spelled_lines Ba Z.z (gF (NZ Z) (gF (JZ Z) (gF (xX Z) (gF (Gv Z) gN))))
theorem N1:gn P w K mg base 1 "_law_takes" uX:=fD (k:=0) Z.D_l_takes Q9 Z.z gN
theorem As:gn P w K mg base 1 "_law_word" kg:=fD (k:=0) Z.D_l_word VD Z.z gN
theorem V6:gn P w K mg base 2 "_law_ref" qW:=fD (k:=1) Z.D_l_ref YD Z.z (gF (As Z) gN)
theorem RX:gn P w K mg base 2 "_law_some" xP:=fD (k:=1) Z.D_l_some VE Z.z (gF (As Z) gN)
theorem KQ:gn P w K mg base 1 "_law_bounds" pZ:=fD (k:=0) Z.D_l_bounds Nx Z.z gN
theorem V7:gn P w K mg base 3 "_law_row" oY:=fD (k:=2) Z.D_l_row YE Z.z (gF (V6 Z) (gF (As Z) (gF (RX Z) (gF (KQ Z) (gF (xX Z) gN)))))
theorem KR:gn P w K mg base 4 "_law_claims" sV:=fD (k:=3) Z.D_l_claims Ny Z.z (gF (N1 Z) (gF (V7 Z) (gF (xX Z) (gF (Gv Z) gN))))
theorem abf{f:Addr}{fd:fC}(F:yg K "law" "law" uZ.s f fd):iF P w K mg base (l9 P w) 10 f fd uZ.ps (Ds K Nq):=fF (d:=uZ) F ach Z.z (gF (NV Z) (gF (EV Z) (gF (NY Z) (gF (Ar Z) (gF (KR Z) gN)))))
end
def walk{l:D_}{q:bM}{loose:M Str}{XP:(Str->aaV S)->Heap->Prop}{YP:bL->Heap->Prop}{d:DefRec}{K:Sd->aa}(hn:l.most=Y 63)(hdf:d.params.defaults=[])(hdn:d.name="law")(hY:∀(w:bL) (h:Heap),YP w h->(K w.params).In h)(nk:∀p:Sd,((K p).all λx=>!T5 x.2.cls)=J)(F:∀(w:bL) (mg:Str->aaV S) (h:Heap),(K w.params).In h->h.Ns fL mg->∃a_THE,∃a_KEPT_WORDS,∃a_A,Hy l.prog w (K w.params) mg a_THE a_KEPT_WORDS a_A)(bd:∀(kV doc pm:S) (an:aaV Addr) (cdv ct:S) (u:S),CP (iJ "law" "law" (qK uZ.s) (kH uZ.s) (dP uZ.s) .none kV doc pm an cdv ct) #[[u],[]]=pure [(("_law_script":Str),u)]):GY q loose XP YP l.row.toRowW d [] (λf vs=>D9 f vs):=
 L2.XJ (n:=63) (k:=10) (x:="_law_script") (CX:=λ_=>Wk) (sp:=λw=>(λvs H Q E=>∃(a:Addr) (ns:M Int),vs=[.ref a]/\Rd H a (.lst (ns.map V.int))/\ns.length<=63/\∀H',Q (.bl J) H')) hn (by decide) hdf #[rfl,by decide,by decide] hY (λw mg fa h X G hfa=>by
  let#[_,_,_,Z]:=F w mg h X G;rw[hdn]at hfa;let#[f,fd,aaQ,hm,hb]:=Z.D_law;have e:=hfa.symm.trans hm;cases e;let#[_,_,kV,doc,pm,an,cdv,ct,_,rfl,_]:=aaQ.ex;exact#[_,λs v=>.of_eq (bd _ _ _ _ _ _ v),λbase _ _=>aaJ (abf Z aaQ) K2.fin]) (λw _ a ns hl _ hS=>#[a,ns,rfl,acg (nk w.params) hS,hl,λ_=>rfl]) (λ_ _ _ _ _ z=>z)
end Fin
namespace PySem.W.Fast
def tw4117836834890512262 :=0
def tw8514112641211447394 :=0
def tw2171110291942276299 :=0
def tw9805653826340981795 :=0
def tw11501249067064285986 :=0
def tw5084543281557141586 :=0
def tw15856461486014786578 :=0
def tw9743385719981848511 :=0
def tw1189978410711978278 :=0
def tw8085727921387618110 :=0
def tw5752411712083190658 :=0
def tw16100280443207199389 :=0
def tw3366389868312541848 :=0
def tw7223798326895813625 :=0
def tw7672863394469672876 :=0
def tw6412790404133784051 :=0
def tw16106122425132249039 :=0
def tw113489252503048327 :=0
def tw13037993896197075413 :=0
def tw10613117998396696942 :=0
def tw7386488231371919016 :=0
def tw845605928965598109 :=0
def tw17235993252716556033 :=0
def tw11666645827321443663 :=0
def tw12961130920347481627 :=0
def tw10100469043299083660 :=0
def tw223412836082096761 :=0
def tw12649989571415073683 :=0
def tw8612873907058216004 :=0
def tw7740851425155125686 :=0
def tw2092731485307394861 :=0
def tw4892348631867470970 :=0
def tw14401659206767183394 :=0
def tw12579242001753997 :=0
def tw925449429307470530 :=0
def tw1886507576816599313 :=0
def tw4815908710815144783 :=0
def tw7835174467190181764 :=0
def tw14218429092781265306 :=0
def tw2316630040859879529 :=0
def tw12826930476387433385 :=0
def tw2040231570160478667 :=0
def tw16996881954014691785 :=0
def tw14129238482514063058 :=0
def tw17381572292402157309 :=0
def tw11183381078057411327 :=0
def tw17122779256856623509 :=0
def tw14528970554390384704 :=0
def tw2326797035975093734 :=0
def tw12866892756775770619 :=0
def tw12027137034566514336 :=0
def tw912739436464135542 :=0
def tw34230196706706055 :=0
def tw4123151605663102614 :=0
def tw5552231611084265938 :=0
def tw5400332179911152931 :=0
def tw1311141381566553671 :=0
def tw5685803595129003569 :=0
def tw1833096445014929646 :=0
def tw4087951250701886972 :=0
end PySem.W.Fast
open PySem PySem.W PyProof.Rows
set_option maxRecDepth 100000 in
set_option maxHeartbeats 0 in
open L3 Tr in
theorem PySem.Challenge.cw_claimwise_k07_claims_read_holds : PySem.Challenge.rw_claimwise_k07_claims_read.Holds := by
 w_on;o_law;k_head;(case hw=>w_witness2)
 k_fill
 refine Fin.walk (l:=PySem.Challenge.rw_claimwise_k07_claims_read) rfl rfl rfl (λw h aap=>by first|exact Zf aap|exact Wd aap) ?nk ?F ?b
 case nk=>intro p;first|rfl|decide +kernel|k_is|simp[L3.T5]
 case b=>intros;rfl
 case F=>
  intro w mg h KX G;exact#[_,_,_,#[zI KX G,
   dI KX G,
   dI KX G,
   dI KX G,
   dI KX G,
   dI KX G,
   dI KX G,
   dI KX G,
   dI KX G,
   dI KX G,
   dI KX G,
   dI KX G,
   dI KX G,
   dI KX G,
   dI KX G,
   dI KX G,
   dI KX G,
   dI KX G,
   dI KX G,
   dI KX G,
   dI KX G,
   dI KX G,
   dI KX G,
   dI KX G,
   dI KX G,
   dI KX G,
   dI KX G,
   dI KX G,
   dI KX G,
   dI KX G,
   dI KX G,
   dI KX G,
   dI KX G,
   dI KX G,
   dI KX G,
   dI KX G,
   dI KX G,
   dI KX G,
   dI KX G,
   dI KX G,
   dI KX G,
   dI KX G,
   #[_,iI KX G,_,rfl],
   #[_,iI KX G,_,rfl],
   #[_,iI KX G,_,rfl],
   #[iI KX G,_,_,_,by k_is,rfl,rfl,rfl,by simp[fN],by repeat (first|exact Paired.nil|refine Paired.cons ⟨_,rfl⟩ ?_)],
   #[iI KX G,_,_,_,by k_is,rfl,rfl,rfl,by simp[fN],by repeat (first|exact Paired.nil|refine Paired.cons ⟨_,rfl⟩ ?_)],
   #[_,iI KX G,_,rfl],
   #[iI KX G,_,_,_,by k_is,rfl,rfl,rfl,by simp[fN],by repeat (first|exact Paired.nil|refine Paired.cons ⟨_,rfl⟩ ?_)],
   #[_,iI KX G,_,rfl],
   #[_,iI KX G,_,rfl]]]
