import PyProof.Rows.All
import Wide.All
import OpenK.AllK
import Wide.FinOn
import Lean
import KE.KDictOf
import PyProof.TupleIter
import PyProof.CollectWalk
import PyProof.AttrMissHeap
import PyProof.EqAt
import PyProof.EqKinds
import PyProof.TupleCall
import KE.KSortTup
import KE.KDictSum
import PyProof.DictIter
import PyProof.ConsumeS
import PyProof.Rows.SetFrom
import PyProof.SetRoads
import PyProof.Rows.CountFlat
import PyProof.StationsW
import PyProof.ExcInit
import PyProof.ExcClass2
import PyProof.ExcBaseAll.ValueError
import PyProof.ExcAttrAll.ValueError
import KE.KIsAll
import PyProof.RulesAs
import PyProof.RulesDel
import PyProof.NeKinds
import KE.KDictList
import KE.KRevIter
import PyProof.EnumMake
import PyProof.ListRange
import PyProof.TupleOfGen
import KE.KMinBuiltin
import PyProof.Rows.CallKwBuiltin
import PyProof.FString
import PyProof.ZipIter
import PyProof.Rows.ZipGen
import PyProof.Rows.FactsT2
import PyProof.DictWalks
import PySem.Challenge.RW_claimwise_k11_chains
set_option Elab.async false
set_option linter.all false
set_option maxRecDepth 100000
set_option maxHeartbeats 4000000
set_option bootstrap.genMatcherCode false
set_option compiler.extract_closed false
set_option genSizeOf false
set_option genInjectivity false
open PySem renaming wpAny_bind->aa,Shared->ah,sizeLine->ai,wpAny->aq,model->az,wpAny_pure->aD,Program->a_,World->bC,wpAny_field->bK,Around->bU,wpAny_mono->cj,starEach->cy,sizeLine_eq->cD,wpAny_callSpecial?_slot->cH,mainGlobals->cL,wpAny_holding->cW,wpAny_seqItems->cX,cLine->c_,wpAny_Call_Name_kw->dc,wpAny_setField_rec->dg,cellsFrom->dj,FuncData->dD,wpAny_call_entry->dQ,wpAny_truthy_bool->dX,assignEach->dZ,IsPair->eN,Scope->eU,compareOp->fj,binaryOp->fO,wpAny_loadPart_at->fU,wpAny_setField->f9,pyNext->gk,rawInt->gm,wpAny_attempt->gw,wpAny_onRaise->gx,foldedSetIterable->gz,wpAny_newObj_type->gD,excClassObj->gP,NameKind->g9,wpAny_pyIter_zip->h_,IsZip->iK,field->iV,codeAny->jc,codeAny_mono->jd,sysModules->jo,wpAny_isInstance->jr,wpAny_updateSeq_pair->jt,wpAny_standAt->ju,sliceBounds->jz,wpAny_execs_nil->jK,letOwnedTupleGo->jL,wpAny_passesOwn->jM,bootBuiltins->jX,tupleKind_room_in1->jY,wpAny_comprehension_free->j4,ZipApart->j5,slot_listiter_next->j6,wpAny_call->kq,relabel->kB,wpAny_rule->kD,isSubtype_stop->kE,backTo->kO,Operator->lF,swapsWith->lP,holding->lQ,assign->l8,unbindBehindTheSuite->mj,wpAny_Tuple_spliced->mL,wpAny_isSubtype_exc->mP,Builtin->m7,firstArgMember->m8,wpAny_pyIter_tuple->nG,attributeBase->nO,wpAny_newFunctionEnv_cells->nP,wpAny_pyIter_list->n_,call_meets->oE,wpAny_letOwnedTupleGo_zip->oF,spliced->oO,valueAt->oQ,callerA->oR,isTrue->pH,wpAny_execs_cons->pJ,pyIter->pK,tupleKind->qk,CmpOp->qo,atKey->qt,wpAny_specialOf->qx,pushCells_keeps->qy,wpAny_pyNext_list_item->qO,subscripted->qP,wpAny_letGo->qT,standAt->rq,wpAny_pyIter_listiter->rA,getAttr->rB,codeAny_call_function->rC,wpAny_loadPart->rE,getitemInPython_of_ne->rF,newFunctionEnv->rJ,bindArgs->sE,bindL->sG,bindC->sI,isInstance->sJ,codeAny_call_builtin->sL,wpAny_letTemporaryGo->sM,swapsWithSole->sW,swappedStores->sX,behindInMarks->sY,entry_listiter_next->tw,PassesOwn->uC,seqIndex_neg->uF,preSum->uL,args_listiter_next->uM,BindsTo->u_,getItem->vc,wpAny_assign_Name->vg,slot_list_getitem->vj,wpAny_pyIter_enum->vn,seqIndex_of->vX,wpAny_eqBool_int->wQ,noFill_tuple_add->wR,wpAny_lookBehind->wX,pastItsLine_dict->wY,raiseNew->wZ,builtinsNs->x_,wpAny_Name->ya,truthy->yb,nsFind->yc,typeIs_str->yd,typeIs_int->ye,wpAny_operating->yj,wpAny_Expr_any->y9,recursionLimit->za,wpAny_newTuple->zb,letTemporaryGo->zc,Keyword->ze,Arguments->Ai,noteFrame->Aj,lastMarks->Ak,assignInOrder->Av,intBits_le_64->Aw,seq_tuple_add->Ax,evalPart_none->Ay,wpAny_newList->AA,call_all_walk->AD,eval_ListComp->AE,wpAny_handled->AF,Model->AX,Result->Ct,codeAny_func->Cu,concat_meets->Cv,Params->Cy,ExcBaseFacts->CC,wpAny_mkText->CF,instanceDict->CH,wpAny_nsSet1->CJ,compPost->CK,newExc->CL,interactive->Dc,IsRangeIter->Dd,wpAny_alloc->Dh,updateField->Di,wpAny_throw->Dj,wpAny_of_eq->Dk,unpackItems->Dl,setItem->Eg,leaving->Eh,OwnTail->Ek,typeLookup->FE,refuseLoop->FL,excMatches->FN,sliceRange->FO,closureFor->FQ,call_zip_2->FT,IsPart->IS,DefRec->IV,cellOf->IW
open PySem.Heap renaming get?_push_of_some->aj,lt_size->au,get?_push_size->aO,get?_update_other->dh,size_push->dG,ExtBut->gf,get?_update_self->gq,SameBut->gZ,get?_update_ne->mO,IsTuple->CM
open List renaming getElem?_eq_getElem->ak,mem_cons_of_mem->ao,mem_append_right->aA,length_map->aC,mem_cons_self->aG,getD_eq_getElem?_getD->aH,not_mem_nil->aJ,size_toArray->aL,mem_append_left->aM,mem_cons->aQ,length_append->aR,getElem?_map->aU,replicate->aW,range->bq,all_eq_true->bz,getElem?_eq_some_iff->bB,nodup_append->bJ,mem_append->bL,length_cons->bP,mem_singleton->bR,getElem?_append_left->bW,replicate_succ->bX,nodup_cons->b9,lookup_cons->b_,getElem?_set_ne->ck,map_congr_left->cE,getElem?_append_right->cG,append_assoc->cJ,map_cons->cM,map_append->cN,flatten_cons->cS,getElem?_set->dm,length_singleton->dF,map_map->dH,append_nil->dM,eq_nil_of_length_eq_zero->ed,length_take->eB,mem_of_getElem?->eG,take_of_length_le->eY,nodup_nil->fk,mem_map->fP,filterMap_cons->fW,length_drop->f6,getElem_mem->f7,getElem?_cons_succ->iu,find?_cons->iH,lookup->iR,range_succ_eq_map->iS,getElem_of_mem->jC,drop_eq_getElem_cons->jN,forIn_cons->jO,contains_cons->j0,forIn_nil->ku,any_cons->kZ,zipIdx_cons->lH,of_mem_zip->l9,all_map->mq,zipIdx_nil->mE,mem_range->mZ,all_cons->nU,length_range->n9,map_nil->pL,getElem?_replicate->pR,mem_filter->ql,length_set->qp,length_nil->qq,nil_append->qv,getElem?_set_self->qN,drop_of_length_le->qR,drop_zero->rH,take_append_drop->rK,sum_cons->s9,mem_filterMap->uB,getElem?_take->uO,any_eq_false->vh,length->vW,mem_flatMap->w5,flatMap_def->w6,foldl->yf,foldl_cons->yg,range_succ->yk,take_succ->zd,cons->Al,map_id->Dp
open False renaming elim->ay
open Bool renaming false_ne_true->aE,and_eq_true->bx,or_eq_true_iff->jD,false_eq_true->jZ,and_false->m5,not_true->nV,or_true->pP,eq_iff_iff->qw,and_eq_true_iff->sN,and_true->sZ,not_eq_true'->vq,false_and->y_,true_or->Cw
open PySem.Value renaming ref->aN,none->bg,int->jW,str->nE,builtin->nT,bool->oB,float->vV,isStrOf->Au,isInt->C7,bytes->C_
open Nat renaming le_refl->aT,ne_of_lt->be,lt_of_lt_of_le->bw,lt_irrefl->cV,le_trans->c9,zero_le->gO,le_of_lt->gY,ne_of_gt->jb,le_add_right->jq,lt_trans->j3,not_lt->kC,le_succ->kP,lt_succ_self->lG,le_of_eq->l_,zero_add->mw,lt_succ_of_lt->oh,le_of_not_lt->pN,add_comm->uH,not_lt_zero->yh,mul_succ->CP
open PySem.Builtin.SmallTypes renaming nextOf->bF,ownedTupleIsFree->bN,ownedTupleHandOut->j7
open PySem.Expr.Name renaming elim->bO
open PySem.NameKind renaming free->bY,cell->cg
open True renaming intro->cu
open PySem.Calls renaming spliced_cons->cz,spliced_nil->fS,Name_function_global->nM,callWith_builtin->qS
open Option.some renaming inj->cC
open Ne renaming symm->cP
open PySem.Builtin.Str renaming strSliceIndices->cQ,tooLong->FU
open PySem.Expr.Call renaming elim->cY
open PySem.Heap.SameBut renaming update->dY
open PyProof.Rows renaming callWith_builtin1->d7,callWith_type1->eV,seqObj->fY,envOfC->jv,AllBare->jy,boot_isinstance->mD,zipApart_new->mF,subscriptTail->nQ,subscriptTail_builtinR->qQ,slot_tupleiter_next->tB,slot_tuple_getitem->uG,IntsAre->vd,slot_str_getitem->wU,get?_update_seq->yi,listUpdate_at->Az,failedOf->CA,seqEpoch_at->Dg,isTrue_and->FA,Subscript_->FF,arrOf->FJ,Call_->FP
open PySem.Obj renaming mapSeq->eK,mapFields->k8,data_mapFields->nF,isFreed_of_fields->rD,cls_mapFields->vm
open PySem.Str renaming ofString->gn,length->gE,empty->Ah
open PySem.Builtin.ObjectAttr renaming storeInOwnDict->gQ,ownDictForStores->kr,storeInDict->mh
open PySem.Builtin.List renaming listTooLong->g_,listFitsIndex->AB,listUpdate->CT
open ForInStep renaming yield->iJ
open Int renaming toNat_natCast->iU,fdiv_eq_ediv_of_nonneg->nN,toNat_of_nonneg->tu,le_refl->Dn
open Array renaming length_toList->jB,getElem?_eq_some_iff->nS,getElem?_toList->rG,toList->Cr,getD->FI
open PySem.Expr.Subscript renaming elim->jE
open Sum renaming inl->lN,inr->lO
open PySem.PassesOwn renaming never->mz
open PySem.Expr.Tuple renaming elim->mG
open PySem.W renaming kas_sort->m6,kas_desc->Cz,kas_rev->Ei,kas_ask->Ej,pre_splitW->FG
open PySem.W.Looks renaming of_pure->nR
open Option renaming isSome_map->n6,isSome_some->uJ,getD_none->wV
open PySem.Stmt.Assign renaming elim->pQ
open PySem.EntryCells renaming newEntry->s_
open PySem.Expr.Attribute renaming elim->tD
open PySem.Around renaming under->uD
open PySem.Code renaming isFrame->uE,quiet_builtin->uK,frames->Df
open PySem.Expr.ListComp renaming elim->uN
open Iff renaming rfl->ve
open PySem.Expr.UnaryOp renaming elim->vo
open PySem.Expr.Compare renaming elim->vp
open PySem.AutoListH renaming list___mul___list_int_3->vY
open PySem.AutoSeq1 renaming list_extend_list_list_0->wW
open PySem.Expr.BoolOp renaming elim->w4
open PySem.Stmt.Expr renaming elim->zf
open PySem.Stmt.If renaming elim->CN
open PySem.Builtin.Range renaming rangeSize->CQ
open Sum.inl renaming inj->C8
open Sum.inr renaming inj->C9
open PyProof renaming noPylong_small->De
open PySem.Shared renaming heap->Dm
open PySem.Txt renaming mul->El
open PySem.W.WShape renaming has->FH
open PySem.SeqAt.EqAt renaming int_str->IP,str_int->IQ
open PySem.Heap.IsSliceOf renaming new->IT
open PySem.W.WData renaming int->IU
open PySem.Expr.Constant renaming elim->IX
open PySem.ScopeKind renaming function->IY
open PySem.Stmt.Continue renaming elim->IZ
open List.Pairwise renaming nil->I_
open PySem.Heap.Ns1 renaming of_empty->Ja
open PySem.Heap.IsTuple renaming push->Jb
open PySem.DictEntry renaming refKey->LI
open PySem.Stmt.Return renaming elim->LJ
open Array.Perm renaming refl->Mu
open PySem.Expr.BinOp renaming elim->Mv
open PySem.Expr.IfExp renaming elim->Mw
open PySem.Expr.Slice renaming elim->Mx
open PySem.Stmt.Break renaming elim->My
open PySem.Stmt.Raise renaming elim->Mz
open PySem.Expr.List renaming elim->Od
open PySem.Value.ref renaming inj->Oe
open PySem.Stmt.For renaming elim->Of
open PySem.Stmt.Try renaming elim->Og
open PySem.IsRange renaming new->QO
open PySem.W.OpenLaw renaming pre->QR
open PySem.Heap.Ns renaming new->QS
section
namespace L2
open PySem PySem.Spec PyProof.Rows
noncomputable abbrev Key:=Sum Int Str
noncomputable def uP:Key->Value->Bool
|.inl k,v=>C7 k v
|.inr x,v=>Au x v
noncomputable def R8(w:bC):Key->Int
|.inl k=>hashInt k
|.inr x=>hashStr w x
theorem gb:∀{k:Key}{v:Value},uP k v=true->(∃i t,k=lN i/\v=jW i t)\/(∃x t,k=lO x/\v=nE x t)
|.inl i,v,h=>by
 obtain⟨t,e⟩:=Value.isInt_shape (k:=i) (v:=v) h;exact .inl ⟨i,t,rfl,e⟩
|.inr x,v,h=>by
 obtain⟨t,e⟩:=Value.isStrOf_shape (x:=x) (v:=v) h;exact .inr ⟨x,t,rfl,e⟩
theorem FW(i:Int)(t:Tok):uP (.inl i) (.int i t)=true:=by simp[uP,C7]
theorem FY(x:Str)(t:Tok):uP (.inr x) (.str x t)=true:=by simp[uP,Au]
theorem Oh(a b:Int):decide ((lN a:Key)=lN b)=(a==b):=by
 by_cases e:a=b
 ·subst e;simp
 ·have h:¬(lN a:Key)=lN b:=fun q=>e (C8 q);rw[decide_eq_false h];exact(beq_eq_false_iff_ne.mpr e).symm
theorem Oi(a b:Str):decide ((lO a:Key)=lO b)=decide (a=b):=by
 by_cases e:a=b
 ·subst e;simp
 ·have h:¬(lO a:Key)=lO b:=fun q=>e (C9 q);rw[decide_eq_false h,decide_eq_false e]
theorem Oj(a:Int)(b:Str):decide ((lN a:Key)=lO b)=false:=decide_eq_false (fun q=>nomatch q)
theorem Ol(a:Str)(b:Int):decide ((lO a:Key)=lN b)=false:=decide_eq_false (fun q=>nomatch q)
noncomputable def fZ(prog:a_)(w:bC):PySem.KeyKind prog w Key where
 is:=uP
 hash:=R8 w
 inj:=fun v a b ha hb=>by
  rcases gb ha with⟨i,t,rfl,rfl⟩|⟨x,t,rfl,rfl⟩
  ·rcases gb hb with⟨j,u,rfl,e⟩|⟨y,u,rfl,e⟩
   ·injection e with e1 _;rw[e1]
   ·exact nomatch e
  ·rcases gb hb with⟨j,u,rfl,e⟩|⟨y,u,rfl,e⟩
   ·exact nomatch e
   ·injection e with e1 _;rw[e1]
 byValue:=fun k v h=>by
  rcases gb h with⟨i,t,rfl,rfl⟩|⟨x,t,rfl,rfl⟩<;>rfl
 pyHash:=fun hv h=>by
  rcases gb hv with⟨i,t,rfl,rfl⟩|⟨x,t,rfl,rfl⟩
  ·exact wpAny_pyHash_int h
  ·exact wpAny_pyHash_str h
 eqBool:=fun hu hv h=>by
  rcases gb hu with⟨i,t,rfl,rfl⟩|⟨x,t,rfl,rfl⟩
  ·rcases gb hv with⟨j,u,rfl,rfl⟩|⟨y,u,rfl,rfl⟩
   ·rw[Oh]at h;exact wQ h
   ·rw[Oj]at h;exact IP i t y u _ _ _ _ h
  ·rcases gb hv with⟨j,u,rfl,rfl⟩|⟨y,u,rfl,rfl⟩
   ·rw[Ol]at h;exact IQ x t j u _ _ _ _ h
   ·rw[Oi]at h;exact wpAny_eqBool_str h
 «strs»:=fun k x t v h=>by
  rcases gb h with⟨i,u,rfl,e⟩|⟨y,u,rfl,e⟩
  ·exact nomatch e
  ·injection e with e1 _;subst e1;cases v<;>rfl
theorem vt(prog:a_)(w:bC)(i:Int)(t:Tok):(fZ prog w).is (.inl i) (.int i t)=true:=FW i t
theorem vv(prog:a_)(w:bC)(x:Str)(t:Tok):(fZ prog w).is (.inr x) (.str x t)=true:=FY x t
end L2
namespace L2
open PySem PySem.Spec PyProof.Rows
inductive V where
 |non|bl (b:Bool)|int (i:Int)|str (x:Str)|byt (b:Array UInt8)|flt (b:UInt64)|ref (a:Addr)|ty (n:String)
 deriving DecidableEq
def RelV:V->Value->Prop
|.non,u=>u=bg
|.bl b,u=>u=oB b
|.int i,u=>∃t,u=jW i t
|.str x,u=>∃t,u=nE x t
|.byt b,u=>∃t,u=C_ b t
|.flt b,u=>∃t,u=vV b t
|.ref a,u=>u=aN a
|.ty n,u=>u=Value.type n
abbrev bh:List V->List Value->Prop:=Paired RelV
theorem bh.length{xs:List V}{us:List Value}(r:bh xs us):xs.length=us.length:=Paired.length r
theorem bh.get:∀{xs:List V}{us:List Value}{i:Nat}{x:V},bh xs us->xs[i]?=some x->∃u,us[i]?=some u/\RelV x u
|_,_,_,_,.nil,e=>by simp at e
|_,_,0,_,.cons r _,e=>by simp at e;subst e;exact⟨_,rfl,r⟩
|_,_,i+1,x,.cons _ t,e=>by
 obtain⟨u,h1,h2⟩:=bh.get (i:=i) (x:=x) t (by simpa using e);exact⟨u,by simpa using h1,h2⟩
theorem bh.set{x:V}{u:Value}(r:RelV x u):∀{xs:List V}{us:List Value} (i:Nat),bh xs us->bh (xs.set i x) (us.set i u)
|_,_,_,.nil=>.nil
|_,_,0,.cons _ t=>.cons r t
|_,_,i+1,.cons q t=>.cons q (bh.set r i t)
theorem bh.append:∀{xs ys:List V}{us ws:List Value},bh xs us->bh ys ws->bh (xs++ys) (us++ws)
|_,_,_,_,.nil,s=>s
|_,_,_,_,.cons r t,s=>.cons r (bh.append t s)
theorem bh.take:∀{xs:List V}{us:List Value} (n:Nat),bh xs us->bh (xs.take n) (us.take n)
|_,_,0,_=>.nil
|_,_,_+1,.nil=>.nil
|_,_,n+1,.cons r t=>.cons r (bh.take n t)
theorem bh.drop:∀{xs:List V}{us:List Value} (n:Nat),bh xs us->bh (xs.drop n) (us.drop n)
|_,_,0,r=>r
|_,_,_+1,.nil=>.nil
|_,_,n+1,.cons _ t=>bh.drop n t
def jP:Option V->Option Value->Prop
|some v,some u=>RelV v u
|none,none=>True
|_,_=>False
def KV{κ:Type}:List (κ×V)->List (κ×Value)->Prop:=Paired fun(p:κ×V) (q:κ×Value)=>p.1=q.1/\RelV p.2 q.2
noncomputable def kV:Key->V
|.inl i=>.int i
|.inr x=>.str x
inductive HO where
|lst (xs:List V)
|tup (xs:List V)
|dK (kvs:List (Key×V))|dT (kvs:List (List Key×V))
|set (S:Int->Bool) (n:Nat)
|ins (C dx:Addr) (fs:List (Str×V))
|own (x:Addr)
|xd (fs:List (Str×V))
|met (f x:Addr)
|rng (lo hi:Int)
|bG (o:Obj) (u:HO)
|tbl (ps:Array Value)
|ext (φ:Heap->Prop)
noncomputable abbrev Hp:=Addr->Option HO
noncomputable def upd(H:Hp)(a:Addr)(o:HO):Hp:=fun b=>if b=a then some o else H b
variable{H:Hp}{a:Addr}{o:HO}
theorem bu:upd H a o a=some o:=by unfold upd;rw[if_pos rfl]
variable{b:Addr}
theorem aK(h:b≠a):upd H a o b=H b:=by unfold upd;rw[if_neg h]
variable{u:HO}
theorem QT(h:H a=some o)(h':H b=some u)(d:o≠u):a≠b:=by
 intro e;subst e;rw[h]at h';exact d (cC h')
theorem bQ(h:H a=some o)(h':H b=none):a≠b:=by
 intro e;subst e;rw[h]at h';cases h'
section
variable(P:a_) (w:bC)
def cU(H:Hp)(h:Heap)(a:Addr):HO->Prop
|.lst xs=>xs.length<=ai/\∃(its:List Value) (n:Nat),bh xs its/\h.get? a=some { cls:=.type "list",data:=.seq its.toArray n }
|.tup xs=>xs.length<=ai/\∃its:List Value,bh xs its/\IsTup h a its.toArray
|.dK kvs=>kvs.length<=ai/\(a==jo)=false/\∃vs,KV kvs vs/\h.DictOf (fZ P w) a vs
|.dT kvs=>kvs.length<=ai/\(a==jo)=false/\∃xs:List (List Key×Addr×Value),
  Paired (fun(p:List Key×V) (q:List Key×Addr×Value)=>p.1=q.1/\H q.2.1=some (.tup (p.1.map kV))/\RelV p.2 q.2.2) kvs xs /\
  ∃o es ep,h.get? a=some o/\o.ExactDict/\o.data=.dict es ep/\es.toList=xs.map (entryOfKey (qk (fZ P w)))/\(xs.map (·.1)).Nodup
|.set S n=>h.SetOf (intKind P w) a S n
|.ins C dx fs=>H dx=some (.own a)/\fs.length<=1000/\dx≠a/\h.get? a=some (PySem.W.instObj C dx) /\
  ∃mA,h.Ns1 dx mA/\(∀f,jP (fs.lookup f) (mA f))/\PySem.Within mA (fs.map (·.1))
|.own _=>∃o,h.get? a=some o
|.xd fs=>∃mA,h.Ns1 a mA/\∀f,jP (fs.lookup f) (mA f)
|.rng lo hi=>∃t u v,h.get? a=some { cls:=.type "range",data:=.fields #[.int lo t,.int hi u,.int 1 v] }
|.bG o u=>h.get? a=some o/\cU H h a u
|.tbl ps=>h.get? a=some { cls:=.none,data:=.fields ps }
|.met f x=>h.get? a=some (PySem.W.methodObj (.ref f) (.ref x))
|.ext φ=>φ h/\(∃o,h.get? a=some o)/\∀h1 h2:Heap,φ h1->(∀o,h1.get? a=some o->h2.get? a=some o)->φ h2
def d9(H:Hp)(h:Heap):Prop:=∀a o,H a=some o->cU P w H h a o
end
variable{α β:Type}
section
variable{P:a_}{w:bC}{H H':Hp}{h h':Heap}{a:Addr}{o:HO}
theorem cU.lt(x:cU P w H h a o):a<h.objs.size:=by
 cases o with
 |lst xs=>obtain⟨_,_,_,_,e⟩:=x;exact au e
 |tup xs=>obtain⟨_,_,_,p⟩:=x;exact p.lt
 |dK kvs=>obtain⟨_,_,_,_,o,_,_,e,_⟩:=x;exact au e
 |dT kvs=>obtain⟨_,_,_,_,o,_,_,e,_⟩:=x;exact au e
 |set S n=>obtain⟨o,_,_,_,e,_⟩:=x;exact au e
 |ins C dx fs=>obtain⟨_,_,_,e,_⟩:=x;exact au e
 |own y=>obtain⟨_,e⟩:=x;exact au e
 |xd fs=>obtain⟨_,⟨_,_,_,e,_⟩,_⟩:=x;exact au e
 |rng lo hi=>obtain⟨_,_,_,e⟩:=x;exact au e
 |bG ob u=>obtain⟨e,_⟩:=x;exact au e
 |tbl ps=>exact au (show h.get? a=some _ from x)
 |met f y=>exact au (show h.get? a=some _ from x)
 |ext φ=>obtain⟨_,⟨_,e⟩,_⟩:=x;exact au e
theorem Paired.Em{F G:α->β->Prop}:∀{T9:List α}{T_:List β},Paired F T9 T_->(∀a b,F a b->G a b)->Paired G T9 T_
|_,_,.nil,_=>.nil
|_,_,.cons r t,f=>.cons (f _ _ r) (Paired.Em t f)
theorem Paired.imp'{F G:α->β->Prop}(f:∀a b,F a b->G a b){T9:List α}{T_:List β}(r:Paired F T9 T_):Paired G T9 T_:=Paired.Em r f
theorem cU.stay(x:cU P w H h a o)(k:∀b u,(b=a\/H b=some (.own a))->h.get? b=some u->h'.get? b=some u)
  (ho:∀b,H b=some (.own a)->H' b=some (.own a)) (ht:∀b xs,H b=some (.tup xs)->H' b=some (.tup xs)):cU P w H' h' a o:=by
 induction o with
 |lst xs=>obtain⟨z,its,n,r,e⟩:=x;exact⟨z,its,n,r,k _ _ (.inl rfl) e⟩
 |tup xs=>obtain⟨z,its,r,ob,e,c⟩:=x;exact⟨z,its,r,ob,k _ _ (.inl rfl) e,c⟩
 |dK kvs=>obtain⟨z,y,vs,r,ob,es,ep,e,c⟩:=x;exact⟨z,y,vs,r,ob,es,ep,k _ _ (.inl rfl) e,c⟩
 |dT kvs=>
  obtain⟨z,y,xs,r,ob,es,ep,e,c⟩:=x;exact⟨z,y,xs,Paired.Em r fun p q z=>⟨z.1,ht _ _ z.2.1,z.2.2⟩,ob,es,ep,k _ _ (.inl rfl) e,c⟩
 |set S n=>obtain⟨ob,es,ep,t,e,c⟩:=x;exact⟨ob,es,ep,t,k _ _ (.inl rfl) e,c⟩
 |ins C dx fs=>
  obtain⟨d,z,ne,e,mA,⟨od,es,ep,e2,c⟩,r⟩:=x;exact⟨ho _ d,z,ne,k _ _ (.inl rfl) e,mA,⟨od,es,ep,k _ _ (.inr d) e2,c⟩,r⟩
 |own y=>obtain⟨ob,e⟩:=x;exact⟨ob,k _ _ (.inl rfl) e⟩
 |xd fs=>obtain⟨mA,⟨od,es,ep,e,c⟩,r⟩:=x;exact⟨mA,⟨od,es,ep,k _ _ (.inl rfl) e,c⟩,r⟩
 |rng lo hi=>obtain⟨t,u,v,e⟩:=x;exact⟨t,u,v,k _ _ (.inl rfl) e⟩
 |bG ob u ih=>obtain⟨e,q⟩:=x;exact⟨k _ _ (.inl rfl) e,ih q⟩
 |tbl ps=>
  have e:h.get? a=some { cls:=.none,data:=.fields ps }:=x;show h'.get? a=some { cls:=.none,data:=.fields ps };exact k a _ (.inl rfl) e
 |met f y=>
  have e:h.get? a=some (PySem.W.methodObj (.ref f) (.ref y)):=x;show h'.get? a=some (PySem.W.methodObj (.ref f) (.ref y));exact k a _ (.inl rfl) e
 |ext φ=>obtain⟨p,⟨o,e⟩,st⟩:=x;exact⟨st _ _ p fun o q=>k _ _ (.inl rfl) q,⟨o,k _ _ (.inl rfl) e⟩,st⟩
theorem d9.lt(x:d9 P w H h)(e:H a=some o):a<h.objs.size:=(x a o e).lt
theorem d9.fresh(x:d9 P w H h)(e:h.objs.size<=a):H a=none:=by
 cases q:H a with
 |none=>rfl
 |some u=>exact absurd (bw (x.lt q) e) (cV _)
theorem d9.kept(x:d9 P w H h)(k:∀b u,h.get? b=some u->h'.get? b=some u):d9 P w H h':=fun a o e=>
 (x a o e).stay (fun b u _ q=>k b u q) (fun _ q=>q) fun _ _ q=>q
theorem d9.laid(x:d9 P w H h)(k:∀b u,h.get? b=some u->h'.get? b=some u)(hp:h.objs.size<=a)(new:cU P w (upd H a o) h' a o):d9 P w (upd H a o) h':=fun b u e=>by
 have hn:=x.fresh hp;by_cases hb:b=a
 ·subst hb;rw[bu]at e;cases e;exact new
 ·rw[aK hb]at e;exact(x b u e).stay (fun c v _ q=>k c v q) (fun c q=>by rw[aK (bQ q hn)];exact q) fun c xs q=>by rw[aK (bQ q hn)];exact q
end
def Rd(H:Hp)(a:Addr)(u:HO):Prop:=H a=some u\/∃o,H a=some (.bG o u)
variable{h:Heap}
theorem Rd.ok{P:a_}{w:bC}(r:Rd H a u)(x:d9 P w H h):cU P w H h a u:=by
 rcases r with r|⟨o,r⟩
 ·exact x a u r
 ·obtain⟨_,q⟩:=x a _ r;exact q
def FZ:Option HO->Prop
|some (.lst _)=>True
|some (.dK _)=>True
|some (.dT _)=>True
|some (.set _ _)=>True
|some (.ins _ _ _)=>True
|some (.ext _)=>True
|_=>False
section
variable{P:a_}{w:bC}{H:Hp}{h h':Heap}{x e:Addr}{o':HO}
theorem d9.write(ok:d9 P w H h)(mu:FZ (H x))(he:e=x\/H e=some (.own x))(k:∀b u,b≠e->h.get? b=some u->h'.get? b=some u)(heo:∃u,h'.get? e=some u)
  (new:cU P w (upd H x o') h' x o'):d9 P w (upd H x o') h':=fun b u q=>by
 have nown:∀c y,H c=some (.own y)->c≠x:=fun c y r z=>by subst z;rw[r]at mu;exact mu
 have ntup:∀c xs,H c=some (.tup xs)->c≠x:=fun c xs r z=>by subst z;rw[r]at mu;exact mu
 by_cases hb:b=x
 ·subst hb;rw[bu]at q;cases q;exact new
 ·rw[aK hb]at q;by_cases hbe:b=e
  ·have q':H b=some (.own x):=by
    rcases he with z|z
    ·exact absurd (hbe.trans z) hb
    ·rw[hbe];exact z
   rw[q]at q';cases q';obtain⟨v,hv⟩:=heo;exact⟨v,by rw[hbe];exact hv⟩
  ·refine(ok b u q).stay (fun c v hc r=>k c v ?_ r) (fun c r=>by rw[aK (nown c b r)];exact r) fun c xs r=>by rw[aK (ntup c xs r)];exact r
   rcases hc with rfl|hc
   ·exact hbe
   ·rintro rfl;rcases he with z|z
    ·exact nown c b hc z
    ·rw[hc]at z;cases z;exact hb rfl
end
structure Un (fs ex:List Addr) (H H':Hp) (h h':Heap):Prop where
 keep:∀b o,h.get? b=some o->H b=none->b∉fs->b∉ex->h'.get? b=some o
 slot:∀b o,h.get? b=some o->H b=none->b∈fs->b∉ex->∃sl,h'.get? b=some { o with slots:=sl }
 free:∀b o,h.get? b=some o->H b=none->b∉ex->H' b=none
 there:∀b o,h.get? b=some o->b∉ex->∃o',h'.get? b=some o'
 tups:∀b xs,H b=some (.tup xs)->H' b=some (.tup xs)
 aB:∀b o u,H b=some (.bG o u)->H' b=some (.bG o u)
 tbls:∀b ps,H b=some (.tbl ps)->∃more,H' b=some (.tbl (ps++more))
section
variable{fs fs' ex ex':List Addr}{H H1 H2:Hp}{h h1 h2 h':Heap}{a x e:Addr}{o:HO}
theorem Un.any(u:Un fs ex H H1 h h1){ob:Obj}(q:h.get? b=some ob)(n:H b=none)(hx:b∉ex):∃sl,h1.get? b=some { ob with slots:=sl }:=by
 by_cases hb:b∈fs
 ·exact u.slot b ob q n hb hx
 ·exact⟨ob.slots,u.keep b ob q n hb hx⟩
theorem Un.kept(k:∀b u,h.get? b=some u->h'.get? b=some u):Un fs ex H H h h':=
 ⟨fun b ob q _ _ _=>k b ob q,fun b ob q _ _ _=>⟨ob.slots,k b ob q⟩,fun _ _ _ n _=>n,fun b ob q _=>⟨ob,k b ob q⟩,fun _ _ q=>q,fun _ _ _ q=>q,fun _ ps q=>⟨#[],by rw[q];simp⟩⟩
theorem Un.refl:Un fs ex H H h h:=Un.kept fun _ _ q=>q
theorem Un.laid(k:∀b u,h.get? b=some u->h'.get? b=some u)(hp:h.objs.size<=a)(hn:H a=none):Un fs ex H (upd H a o) h h' where
 keep:=fun b u q _ _ _=>k b u q
 slot:=fun b u q _ _ _=>⟨u.slots,k b u q⟩
 free:=fun b u q n _=>by rw[aK (be (bw (au q) hp))];exact n
 there:=fun b u q _=>⟨u,k b u q⟩
 tups:=fun b xs q=>by rw[aK (bQ q hn)];exact q
 aB:=fun b u xs q=>by rw[aK (bQ q hn)];exact q
 tbls:=fun b ps q=>⟨#[],by rw[aK (bQ q hn),q];simp⟩
theorem Un.write(mu:FZ (H x))(he:e=x\/H e=some (.own x))(k:∀b u,b≠e->h.get? b=some u->h'.get? b=some u)(heo:∃u,h'.get? e=some u):Un fs ex H (upd H x o) h h':=by
 have hx:∀b,H b=none->b≠x:=fun b n z=>by subst z;rw[n]at mu;exact mu
 have hb:∀b,H b=none->b≠e:=fun b n z=>by
  subst z;rcases he with r|r
  ·exact hx b n r
  ·rw[n]at r;cases r
 have hm:∀b u,H b=some u->¬FZ (some u)->b≠x:=fun b u q nm z=>by subst z;rw[q]at mu;exact nm mu
 refine⟨fun b u q n _ _=>k b u (hb b n) q,fun b u q n _ _=>⟨u.slots,k b u (hb b n) q⟩,fun b u q n _=>by rw[aK (hx b n)];exact n,fun b u q _=>?_,
  fun b xs q=>by rw[aK (hm b _ q fun z=>z)];exact q,fun b u xs q=>by rw[aK (hm b _ q fun z=>z)];exact q,fun b ps q=>⟨#[],by rw[aK (hm b _ q fun z=>z),q];simp⟩⟩
 by_cases hbe:b=e
 ·subst hbe;exact heo
 ·exact⟨u,k b u hbe q⟩
end
noncomputable def LK(h:Heap)(H:Hp):List Addr:=(bq h.objs.size).filter fun a=>(H a).isSome
noncomputable def rL(h:Heap)(H:Hp):Heap:=PySem.W.hideAll h (LK h H)
theorem F6(h:Heap)(H:Hp):(rL h H).objs.size=h.objs.size:=PySem.W.hideAll_size _ _
theorem Jc{o:Obj}(e:h.get? b=some o)(n:H b=none):(rL h H).get? b=some o:=
 PySem.W.hideAll_get _ e fun hm=>by
  have q:(H b).isSome=true:=(ql.mp hm).2;rw[n]at q;simp at q
theorem MA{o:Obj}(e:(rL h H).get? b=some o):h.get? b=some o/\H b=none:=by
 have e':h.get? b=some o:=PySem.W.of_hideAll (LK h H) e;refine⟨e',?_⟩;cases q:H b with
 |none=>rfl
 |some x=>
  have hm:b∈LK h H:=ql.mpr ⟨mZ.mpr (au e'),by simp[q]⟩;have z:(rL h H).get? b=none:=PySem.W.hideAll_none (LK h H) hm;rw[z]at e;cases e
noncomputable def MB(g h:Heap)(Tu:Addr):List (Addr×Obj):=(bq h.objs.size).filterMap fun a=>if a=Tu\/(g.get? a).isSome=true then none else(h.get? a).map fun o=>(a,o)
noncomputable def rest(g h:Heap)(Tu d:Addr):List (Addr×Obj):=(MB g h Tu).filter fun p=>decide (p.1≠d)
end L2
namespace L2
open PySem PySem.Spec PyProof.Rows
structure Mod (K:PySem.W.Frag) (mg:Str->Option Value) (base:Heap):Prop where
 kin:K.In base
 glob:base.Ns cL mg
 blt:∃mb,base.Ns x_ mb/\∀x:Str,x≠"__name__"->mb x=jX x
 nolimit:base.NoLimit
structure Cx where
 prog:a_
 w:bC
 K:PySem.W.Frag
 mg:Str->Option Value
 base:Heap
 A:bU
 N:List Str
 Tz:ah
 T6:Hp
 env:Env
 outer:List Env
 stack:List Env
 ex:List Addr
 fn:Str->Bool
 calm:Bool
 pn:List (Addr×Obj)
 xe:Value->ah->Prop
noncomputable def frs(l:List Env):List Addr:=l.filterMap (·.frame)
noncomputable abbrev Cx.fs(X:Cx):List Addr:=frs X.outer
def AY(sc:eU)(x:Str):Prop:=sc.names.lookup x=some .local\/sc.names.lookup x=some .cell\/sc.names.lookup x=some .free
def Loc(sc:eU)(x:Str):Prop:=sc.names.lookup x=some .local\/sc.names.lookup x=some .cell
def Look(env:Env)(h:Heap)(m:Str->Option Value)(x:Str)(u:Value):Prop:=
 (env.kindOf x=some .local/\m x=some u)\/((env.kindOf x=some .cell\/env.kindOf x=some .free)/\∃c,env.cells.lookup x=some c/\h.IsCell c (some u))
structure Cx.Ok (X:Cx):Prop where
 mod:Mod X.K X.mg X.base
 kind:X.env.scope.kind=.function
 glob:X.env.globals=cL
 blt:X.env.builtins=x_
 above:X.Tz.heap.objs.size<=X.env.locals
 inj:∀x y c,X.env.cells.lookup x=some c->X.env.cells.lookup y=some c->x=y
 has:∀x,(X.env.kindOf x=some .cell\/X.env.kindOf x=some .free)->∃c,X.env.cells.lookup x=some c
 cab:∀x c,X.fn x=true->X.env.cells.lookup x=some c->X.Tz.heap.objs.size<=c
 hd:X.calm=true->X.A.handled=none
 frames:X.A.frames=some X.stack
 stk:X.stack=X.outer\/(X.stack=X.env::X.outer/\X.env.frame=some X.env.locals)
 exf:∀b∈X.ex,b≠X.env.locals/\∀x c,X.env.cells.lookup x=some c->c≠b
 bs:∀b o,X.base.get? b=some o->X.Tz.heap.get? b=some o/\X.T6 b=none
 bsz:X.base.objs.size<=X.Tz.heap.objs.size
 noex:∀b o,X.base.get? b=some o->b∉X.ex
 exfs:∀b∈X.ex,b∉X.fs
 kG:X.Tz.heap.FunFrames X.base X.outer
 frf:∀b∈X.fs,X.T6 b=none
structure Inv (X:Cx) (pins:List (Addr×Obj)) (O:List (Option V)) (H:Hp) (s:ah):Prop where
 ok:X.Ok
 os:s.os=X.Tz.os
 bare:jy s.gens
 base:Un X.fs X.ex X.T6 H X.Tz.heap s.heap
 loc:∃m,s.heap.Ns X.env.locals m/\∀(i:Nat) (x:Str) (v:V),X.N[i]?=some x->O[i]?=some (some v)->AY X.env.scope x->∃u,RelV v u/\Look X.env s.heap m x u
 cell:∀x c,X.env.cells.lookup x=some c->∃v,s.heap.IsCell c v
 free:H X.env.locals=none
 freeC:∀x c,X.env.cells.lookup x=some c->H c=none
 pin:∀p∈X.pn++pins,s.heap.get? p.1=some p.2/\H p.1=none/\p.1≠X.env.locals/\p.1∉X.fs/\∀v,p.2.data≠.cell v
 hok:d9 X.prog X.w H s.heap
 len:O.length=X.N.length
variable{a:Addr}
variable{g':Array GenState}{t':Nat}{d':Drawn}{ch:List Addr}
variable{i:Nat}{x:Str}
variable{M:AX}{A:bU}{E:Value->ah->Prop}{u:Value}{Q:Unit->ah->Prop}
section
variable{X:Cx}{pins:List (Addr×Obj)}{O:List (Option V)}{H H':Hp}{s:ah}{h':Heap}
theorem Cx.Ok.R9(ok:X.Ok){b:Addr}{o:Obj}(e:X.base.get? b=some o):b∉X.fs:=fun hb=>by
 have:=(ok.kG.mem hb).1;rw[e]at this;cases this
theorem Inv.bs(I:Inv X pins O H s):∀b o,X.base.get? b=some o->s.heap.get? b=some o/\H b=none:=fun b o e=>
 ⟨I.base.keep b o (I.ok.bs b o e).1 (I.ok.bs b o e).2 (I.ok.R9 e) (I.ok.noex b o e),I.base.free b o (I.ok.bs b o e).1 (I.ok.bs b o e).2 (I.ok.noex b o e)⟩
theorem Inv.bk(I:Inv X pins O H s):∀b o,X.base.get? b=some o->s.heap.get? b=some o:=fun b o e=>(I.bs b o e).1
theorem Inv.mod(I:Inv X pins O H s):Mod X.K X.mg X.base:=I.ok.mod
theorem Inv.dR(I:Inv X pins O H s):X.K.In s.heap:=I.ok.mod.kin.keeps I.bk
theorem Inv.lt(I:Inv X pins O H s):X.env.locals<s.heap.objs.size:=let⟨_,hn,_⟩:=I.loc;hn.lt
theorem Inv.sz(I:Inv X pins O H s):X.Tz.heap.objs.size<=s.heap.objs.size:=c9 I.ok.above (gY I.lt)
theorem Inv.R_(I:Inv X pins O H s)(h:s.heap.objs.size<=a):a∉X.fs:=fun hb=>by
 obtain⟨_,o,ho,_⟩:=I.ok.kG.mem hb;exact absurd (bw (au ho) (c9 I.sz h)) (cV _)
theorem Inv.w9(I:Inv X pins O H s):∀x c,X.env.cells.lookup x=some c->c≠X.env.locals:=fun x c e z=>by
 obtain⟨v,o,ho,hd⟩:=I.cell x c e;obtain⟨m,⟨o',es,ep,ho',hd',_⟩,_⟩:=I.loc;rw[z,ho']at ho;cases ho;rw[hd']at hd;cases hd
theorem Inv.kG(I:Inv X pins O H s):s.heap.FunFrames X.base X.outer:=by
 have all:∀(l:List Env),(∀b∈frs l,b∈X.fs)->X.Tz.heap.FunFrames X.base l->s.heap.FunFrames X.base l:=by
  intro l;induction l with
  |nil=>intro _ _;trivial
  |cons env r ih=>
   intro hs hl;obtain⟨hk,⟨Tu,o,hf,hn,ho,hd⟩,hr⟩:=hl;have hL:Tu∈X.fs:=hs Tu (by unfold frs;rw[fW,hf];exact aG);obtain⟨sl,e⟩:=I.base.slot Tu o ho (I.ok.frf Tu hL) hL fun z=>I.ok.exfs Tu z hL;exact⟨hk,⟨Tu,_,hf,hn,e,hd⟩,ih (fun b hb=>hs b (by unfold frs;rw[fW,hf];exact ao _ hb)) hr⟩
 exact all X.outer (fun _ hb=>hb) I.ok.kG
theorem Inv.stack(I:Inv X pins O H s):s.heap.FunFrames X.base X.stack:=by
 rcases I.ok.stk with e|⟨e,hf⟩
 ·rw[e];exact I.kG
 ·rw[e];obtain⟨m,hn,_⟩:=I.loc;refine .cons (by rw[I.ok.kind];decide) hf hn ?_ I.kG;exact Heap.get?_none_of_le (c9 I.ok.bsz I.ok.above)
theorem Inv.nt(I:Inv X pins O H s):∀b∈frs X.stack,b∈X.env.locals::X.fs:=fun b hb=>by
 rcases I.ok.stk with e|⟨e,hf⟩
 ·rw[e]at hb;exact ao _ hb
 ·rw[e]at hb;unfold frs at hb;rw[fW,hf]at hb;exact hb
theorem Inv.uQ(I:Inv X pins O H s):∀b∈frs X.stack,H b=none:=fun b hb=>by
 rcases aQ.mp (I.nt b hb)with e|hb
 ·rw[e];exact I.free
 ·obtain⟨_,o,ho,_⟩:=I.ok.kG.mem hb;exact I.base.free b o ho (I.ok.frf b hb) fun z=>I.ok.exfs b z hb
theorem Inv.step(I:Inv X pins O H s)
  (hch:∀b∈ch,(b∈X.ex\/X.Tz.heap.objs.size<=b)/\b≠X.env.locals/\(∀x c,X.env.cells.lookup x=some c->c≠b)/\∀p∈X.pn++pins,p.1≠b)
  (keep:∀b o,b≠X.env.locals->b∉X.fs->b∉ch->s.heap.get? b=some o->H b=none->h'.get? b=some o)
  (slot:∀b o,b≠X.env.locals->b∈X.fs->b∉ch->s.heap.get? b=some o->H b=none->∃sl,h'.get? b=some { o with slots:=sl }) (free:∀b o,b∉ch->s.heap.get? b=some o->H b=none->H' b=none)
  (there:∀b o,b∉ch->s.heap.get? b=some o->∃o',h'.get? b=some o')
  (tups:∀b xs,H b=some (.tup xs)->H' b=some (.tup xs)) (aB:∀b o u,H b=some (.bG o u)->H' b=some (.bG o u)) (tbls:∀b ps,H b=some (.tbl ps)->∃more,H' b=some (.tbl (ps++more)))
  (ns:∀m,s.heap.Ns X.env.locals m->h'.Ns X.env.locals m) (hok:d9 X.prog X.w H' h') (hg:jy g') :
  Inv X pins O H' { s with heap:=h',gens:=g',drawn:=d',toks:=t' }:=by
 have neL:∀b o,X.Tz.heap.get? b=some o->b≠X.env.locals:=fun b o e=>be (bw (au e) I.ok.above);have neC:∀b o,X.Tz.heap.get? b=some o->b∉X.ex->b∉ch:=fun b o e hx hb=>by
  rcases(hch b hb).1 with z|z
  ·exact hx z
  ·exact absurd (bw (au e) z) (cV _)
 have cellK:∀x c,X.env.cells.lookup x=some c->∀v,s.heap.IsCell c v->h'.IsCell c v:=fun x c e v ⟨o,ho,hd⟩=>by
  have nch:c∉ch:=fun z=>(hch c z).2.2.1 x c e rfl;by_cases hc:c∈X.fs
  ·obtain⟨sl,q⟩:=slot c o (I.w9 x c e) hc nch ho (I.freeC x c e);exact⟨_,q,hd⟩
  ·exact⟨o,keep c o (I.w9 x c e) hc nch ho (I.freeC x c e),hd⟩
 refine⟨I.ok,I.os,hg,⟨fun b o e n hb hx=>?_,fun b o e n hb hx=>?_,fun b o e n hx=>?_,fun b o e hx=>?_,fun b xs e=>tups b xs (I.base.tups b xs e),fun b o xs e=>aB b o xs (I.base.aB b o xs e),fun b ps e=>?_⟩,?_,fun x c e=>?_,?_,fun x c e=>?_,fun p hp=>?_,hok,I.len⟩
 ·exact keep b o (neL b o e) hb (neC b o e hx) (I.base.keep b o e n hb hx) (I.base.free b o e n hx)
 ·obtain⟨sl,e1⟩:=I.base.slot b o e n hb hx;obtain⟨sl',e2⟩:=slot b _ (neL b o e) hb (neC b o e hx) e1 (I.base.free b o e n hx);exact⟨sl',e2⟩
 ·obtain⟨o',e1⟩:=I.base.there b o e hx;exact free b o' (neC b o e hx) e1 (I.base.free b o e n hx)
 ·obtain⟨o',e1⟩:=I.base.there b o e hx;exact there b o' (neC b o e hx) e1
 ·obtain⟨m1,e1⟩:=I.base.tbls b ps e;obtain⟨m2,e2⟩:=tbls b _ e1;exact⟨m1++m2,by rw[e2,Array.append_assoc]⟩
 ·obtain⟨m,hn,hl⟩:=I.loc;refine⟨m,ns m hn,fun i x v e1 e2 e3=>?_⟩;obtain⟨u,r,l⟩:=hl i x v e1 e2 e3;refine⟨u,r,?_⟩;rcases l with l|⟨k,c,e,z⟩
  ·exact .inl l
  ·exact .inr ⟨k,c,e,cellK x c e _ z⟩
 ·obtain⟨v,z⟩:=I.cell x c e;exact⟨v,cellK x c e v z⟩
 ·obtain⟨m,⟨o,_,_,ho,_⟩,_⟩:=I.loc;exact free _ o (fun z=>(hch _ z).2.1 rfl) ho I.free
 ·obtain⟨v,o,ho,hd⟩:=I.cell x c e;exact free c o (fun z=>(hch c z).2.2.1 x c e rfl) ho (I.freeC x c e)
 ·obtain⟨e,n,ne,nf,d⟩:=I.pin p hp;have nch:p.1∉ch:=fun z=>(hch p.1 z).2.2.2 p hp rfl;exact⟨keep p.1 p.2 ne nf nch e n,free p.1 p.2 nch e n,ne,nf,d⟩
theorem Inv.un(I:Inv X pins O H s)(u:Un X.fs [] H H' s.heap h')(hok:d9 X.prog X.w H' h'):Inv X pins O H' { s with heap:=h',toks:=t' }:=by
 obtain⟨m,⟨o,es,ep,ho,r⟩,_⟩:=id I.loc;obtain⟨sl,hL⟩:=u.any ho I.free (by simp);exact I.step (g':=s.gens) (d':=s.drawn) (ch:=[]) (fun _ z=>nomatch z) (fun b o _ hb _ e n=>u.keep b o e n hb (by simp)) (fun b o _ hb _ e n=>u.slot b o e n hb (by simp)) (fun b o _ e n=>u.free b o e n (by simp)) (fun b o _ e=>u.there b o e (by simp)) u.tups u.aB u.tbls (fun m' hm=>by
  obtain⟨o',es',ep',ho',r'⟩:=hm;rw[ho]at ho';cases ho';exact⟨_,es',ep',hL,r'⟩) hok I.bare
theorem Inv.call(I:Inv X pins O H s)(u:Un (frs X.stack) ch H H' s.heap h')(hok:d9 X.prog X.w H' h')(hg:jy g')
  (hch:∀b∈ch,(b∈X.ex\/X.Tz.heap.objs.size<=b)/\b≠X.env.locals/\(∀x c,X.env.cells.lookup x=some c->c≠b)/\∀p∈X.pn++pins,p.1≠b) :
  Inv X pins O H' { s with heap:=h',gens:=g',drawn:=d',toks:=t' }:=by
 obtain⟨m,⟨o,es,ep,ho,r⟩,_⟩:=id I.loc;obtain⟨sl,hL⟩:=u.any ho I.free fun z=>(hch _ z).2.1 rfl;exact I.step (ch:=ch) hch (fun b o hL hb hc e n=>u.keep b o e n (fun z=>(aQ.mp (I.nt b z)).elim hL hb) hc) (fun b o _ _ hc e n=>u.any e n hc) (fun b o hc e n=>u.free b o e n hc) (fun b o hc e=>u.there b o e hc) u.tups u.aB u.tbls (fun m' hm=>by
  obtain⟨o',es',ep',ho',r'⟩:=hm;rw[ho]at ho';cases ho';exact⟨_,es',ep',hL,r'⟩) hok hg
theorem Inv.turned{it:Addr}(I:Inv X pins O H s)(k:∀b o,b≠it->s.heap.get? b=some o->h'.get? b=some o)(hn:H it=none)(hL:it≠X.env.locals)
  (h1:it∈X.ex\/X.Tz.heap.objs.size<=it) (h2:∀x c,X.env.cells.lookup x=some c->c≠it) (h3:∀p∈X.pn++pins,p.1≠it):Inv X pins O H { s with heap:=h',toks:=t' }:=by
 have nit:∀b u,H b=some u->b≠it:=fun b u e z=>by rw[z,hn]at e;cases e
 refine I.step (g':=s.gens) (d':=s.drawn) (ch:=[it]) (fun b hb=>?_) (fun b o _ _ hc e _=>k b o (fun z=>hc (by simp[z])) e) (fun b o _ _ hc e _=>⟨o.slots,k b o (fun z=>hc (by simp[z])) e⟩) (fun _ _ _ _ n=>n)
  (fun b o hc e=>⟨o,k b o (fun z=>hc (by simp[z])) e⟩) (fun _ _ e=>e) (fun _ _ _ e=>e) (fun b ps e=>⟨#[],by rw[e];simp⟩) (fun m hm=>?_) (fun b u e=>?_) I.bare
 ·have e:b=it:=by simpa using hb
  subst e;exact⟨h1,hL,h2,h3⟩
 ·obtain⟨o,es,ep,ho,r⟩:=hm;exact⟨o,es,ep,k _ o (cP hL) ho,r⟩
 ·refine(I.hok b u e).stay (fun c v hc q=>k c v ?_ q) (fun _ q=>q) fun _ _ q=>q;rcases hc with z|z
  ·rw[z];exact nit b u e
  ·exact nit c _ z
theorem Inv.tok(I:Inv X pins O H s)(t:Nat):Inv X pins O H { s with toks:=t }:=I.un (h':=s.heap) (t':=t) Un.refl I.hok
theorem Inv.kept(I:Inv X pins O H s)(k:∀b u,s.heap.get? b=some u->h'.get? b=some u):Inv X pins O H { s with heap:=h',toks:=t' }:=I.un (Un.kept k) (I.hok.kept k)
theorem Inv.laid{o:HO}(I:Inv X pins O H s)(k:∀b u,s.heap.get? b=some u->h'.get? b=some u)(hp:s.heap.objs.size<=a)(new:cU X.prog X.w (upd H a o) h' a o) :
  Inv X pins O (upd H a o) { s with heap:=h',toks:=t' }:=I.un (Un.laid k hp (I.hok.fresh hp)) (I.hok.laid k hp new)
theorem Inv.write{x e:Addr}{o:HO}{t':Nat}(I:Inv X pins O H s)(mu:FZ (H x))(he:e=x\/H e=some (.own x))(k:∀b u,b≠e->s.heap.get? b=some u->h'.get? b=some u)(heo:∃u,h'.get? e=some u)
  (new:cU X.prog X.w (upd H x o) h' x o):Inv X pins O (upd H x o) { s with heap:=h',toks:=t' }:=I.un (Un.write mu he k heo) (I.hok.write mu he k heo new)
theorem Inv.uR{pins':List (Addr×Obj)}(I:Inv X pins O H s)(h:∀p∈pins',s.heap.get? p.1=some p.2/\H p.1=none/\p.1≠X.env.locals/\p.1∉X.fs/\∀v,p.2.data≠.cell v):Inv X pins' O H s:=
 ⟨I.ok,I.os,I.bare,I.base,I.loc,I.cell,I.free,I.freeC,fun p hp=>(bL.mp hp).elim (fun z=>I.pin p (aM _ z)) (h p),I.hok,I.len⟩
theorem vZ{N:List Str}(hN:N.Nodup){j:Nat}(a:N[i]?=some x)(b:N[j]?=some x):i=j:=by
 obtain⟨h1,e1⟩:=bB.mp a;obtain⟨h2,e2⟩:=bB.mp b;exact(List.getElem_inj hN).mp (e1.trans e2.symm)
theorem zg{v:V}(I:Inv X pins O H s)(hN:X.N.Nodup)(hi:X.N[i]?=some x)(hx:Loc X.env.scope x)(r:RelV v u)
  (h:∀s',Inv X pins (O.set i (some v)) H s'->(∃a,gZ a s.heap s'.heap/\(a=X.env.locals\/X.env.cells.lookup x=some a))->Q () s') (hf:X.fn x=true\/X.env.scope.names.lookup x=some .local:=by first|exact .inl rfl|exact .inr rfl|assumption):aq M A (storeName X.env x u) Q E s:=by
 obtain⟨m,hn,hl⟩:=id I.loc;have hcls:(X.env.scope.kind==.class||(X.env.scope.kind==.module&&X.env.locals != X.env.globals))=false:=by rw[I.ok.kind];rfl
 have Uj:i<O.length:=by rw[I.len];exact(bB.mp hi).1
 have w9:=I.w9;have tracked:∀{a:Addr}{h':Heap},(∃o,s.heap.get? a=some o/\H a=none)->gZ a s.heap h'->d9 X.prog X.w H h':=fun{a h'} ha hs b ob e=>by
  obtain⟨_,_,hfree⟩:=ha;refine(I.hok b ob e).stay (fun c w' hc q=>(hs.2 c ?_).trans q) (fun _ q=>q) fun _ _ q=>q;rintro rfl;rcases hc with rfl|hc
  ·rw[hfree]at e;cases e
  ·rw[hfree]at hc;cases hc
 rcases hx with hk|hk
 ·refine wpAny_storeName_local hk hn (fun h' hn' hs=>?_) hcls;obtain⟨oL,_,_,hoL,_⟩:=id hn;refine h _ ⟨I.ok,I.os,I.bare,⟨fun b o e n hb hx=>?_,fun b o e n hb hx=>?_,I.base.free,fun b o e hx=>?_,I.base.tups,I.base.aB,I.base.tbls⟩,⟨_,hn',fun j y v' e1 e2 e3=>?_⟩,fun y c e=>?_,I.free,I.freeC,fun p hp=>?_,tracked ⟨oL,hoL,I.free⟩ hs,by simpa using I.len⟩ ⟨_,hs,.inl rfl⟩
  ·exact(hs.2 b (be (bw (au e) I.ok.above))).trans (I.base.keep b o e n hb hx)
  ·obtain⟨sl,e1⟩:=I.base.slot b o e n hb hx;exact⟨sl,(hs.2 b (be (bw (au e) I.ok.above))).trans e1⟩
  ·obtain⟨o',e1⟩:=I.base.there b o e hx;exact⟨o',(hs.2 b (be (bw (au e) I.ok.above))).trans e1⟩
  ·by_cases hj:j=i
   ·subst hj;rw[hi]at e1;cases e1;rw[qN Uj]at e2;cases e2;exact⟨u,r,.inl ⟨hk,by simp⟩⟩
   ·rw[ck (cP hj)]at e2;obtain⟨u',r',q⟩:=hl j y v' e1 e2 e3;refine⟨u',r',?_⟩;rcases q with⟨k,e⟩|⟨k,c,e,z⟩
    ·refine .inl ⟨k,?_⟩;have:y≠x:=fun e=>hj (vZ hN e1 (e▸hi));simp[this,e]
    ·exact .inr ⟨k,c,e,z.sameBut hs (w9 y c e)⟩
  ·obtain⟨w',z⟩:=I.cell y c e;exact⟨w',z.sameBut hs (w9 y c e)⟩
  ·obtain⟨e,n,ne,nf,d⟩:=I.pin p hp;exact⟨(hs.2 p.1 ne).trans e,n,ne,nf,d⟩
 ·have hfn:X.fn x=true:=by
   rcases hf with z|z
   ·exact z
   ·rw[z]at hk;cases hk
  obtain⟨c,hc⟩:=I.ok.has x (.inl hk);obtain⟨w',z⟩:=I.cell x c hc;refine wpAny_storeName_cell I.ok.kind hk hc z (fun h' hc' hs=>?_);obtain⟨oc,hoc,hocd⟩:=id z;refine h { s with heap:=h' } ⟨I.ok,I.os,I.bare,⟨fun b o e n hb hx=>?_,fun b o e n hb hx=>?_,I.base.free,fun b o e hx=>?_,I.base.tups,I.base.aB,I.base.tbls⟩,⟨m,hn.sameBut hs (cP (w9 x c hc)),fun j y v' e1 e2 e3=>?_⟩,fun y c' e=>?_,I.free,I.freeC,fun p hp=>?_,tracked ⟨oc,hoc,I.freeC x c hc⟩ hs,by simpa using I.len⟩ ⟨c,hs,.inr hc⟩
  ·exact(hs.2 b (be (bw (au e) (I.ok.cab x c hfn hc)))).trans (I.base.keep b o e n hb hx)
  ·obtain⟨sl,e1⟩:=I.base.slot b o e n hb hx;exact⟨sl,(hs.2 b (be (bw (au e) (I.ok.cab x c hfn hc)))).trans e1⟩
  ·obtain⟨o',e1⟩:=I.base.there b o e hx;exact⟨o',(hs.2 b (be (bw (au e) (I.ok.cab x c hfn hc)))).trans e1⟩
  ·by_cases hj:j=i
   ·subst hj;rw[hi]at e1;cases e1;rw[qN Uj]at e2;cases e2;exact⟨u,r,.inr ⟨.inl hk,c,hc,hc'⟩⟩
   ·rw[ck (cP hj)]at e2;obtain⟨u',r',q⟩:=hl j y v' e1 e2 e3;refine⟨u',r',?_⟩;rcases q with q|⟨k,c',e,z'⟩
    ·exact .inl q
    ·refine .inr ⟨k,c',e,z'.sameBut hs ?_⟩;rintro rfl;exact hj (vZ hN e1 (I.ok.inj _ _ _ e hc▸hi))
  ·by_cases hcc:c'=c
   ·subst hcc;exact⟨_,hc'⟩
   ·obtain⟨w2,z2⟩:=I.cell y c' e;exact⟨w2,z2.sameBut hs hcc⟩
  ·obtain⟨e,n,ne,nf,d⟩:=I.pin p hp;refine⟨(hs.2 p.1 ?_).trans e,n,ne,nf,d⟩;intro q;rw[q,hoc]at e;have q':oc=p.2:=cC e;exact d w' (by rw[<-q'];exact hocd)
theorem v5{v:V}(I:Inv X pins O H s)(hN:X.N.Nodup)(hi:X.N[i]?=some x)(hx:Loc X.env.scope x)(r:RelV v u)
  (h:∀s',Inv X pins (O.set i (some v)) H s'->Q () s') (hf:X.fn x=true\/X.env.scope.names.lookup x=some .local:=by first|exact .inl rfl|exact .inr rfl|assumption):aq M A (storeName X.env x u) Q E s:=
 zg I hN hi hx r (fun s' I' _=>h s' I') hf
theorem Inv.call'{s':ah}(I:Inv X pins O H s)(ho:s'.os=s.os)(u:Un (frs X.stack) ch H H' s.heap s'.heap)(hok:d9 X.prog X.w H' s'.heap)(hg:jy s'.gens)
  (hch:∀b∈ch,(b∈X.ex\/X.Tz.heap.objs.size<=b)/\b≠X.env.locals/\(∀x c,X.env.cells.lookup x=some c->c≠b)/\∀p∈X.pn++pins,p.1≠b):Inv X pins O H' s':=by
 obtain⟨h',g',d',t',o'⟩:=s';have e:o'=s.os:=ho;subst e;exact I.call (g':=g') (t':=t') (d':=d') u hok hg hch
end
noncomputable abbrev XK:=Value->Option Addr->Hp->Prop
noncomputable abbrev St:=List (Option V)
noncomputable abbrev VK:=V->Hp->Prop
noncomputable abbrev TE:=St->Hp->VK->Prop
noncomputable abbrev TT:=St->Hp->(Bool->Hp->Prop)->Prop
noncomputable abbrev TA:=St->Hp->(List V->Hp->Prop)->Prop
structure Ends where
 nx:St->Hp->Prop
 rt:VK
 bk:St->Hp->Prop:=fun _ _=>False
 ct:St->Hp->Prop:=fun _ _=>False
noncomputable abbrev TS:=Ends->St->Hp->Prop
def EP(X:Cx)(pins:List (Addr×Obj))(O:St)(Q:VK)(u:Value)(s':ah):Prop:=∃v H',Inv X pins O H' s'/\RelV v u/\Q v H'
def TP(X:Cx)(pins:List (Addr×Obj))(O:St)(Q:Bool->Hp->Prop)(b:Bool)(s':ah):Prop:=∃H',Inv X pins O H' s'/\Q b H'
def AP(X:Cx)(pins:List (Addr×Obj))(O:St)(Q:List V->Hp->Prop)(us:List Value)(s':ah):Prop:=∃vs H',Inv X pins O H' s'/\bh vs us/\Q vs H'
def SP(X:Cx)(pins:List (Addr×Obj))(D:Ends)(f:Flow)(s':ah):Prop:=
 match f with
 |.next=>∃TF H',Inv X pins TF H' s'/\D.nx TF H'
 |.brk=>∃TF H',Inv X pins TF H' s'/\D.bk TF H'
 |.cont=>∃TF H',Inv X pins TF H' s'/\D.ct TF H'
 |.ret u=>∃v TF H',Inv X pins TF H' s'/\RelV v u/\D.rt v H'
def PE(X:Cx)(e:Expr)(t:TE):Prop:=
 ∀(pins:List (Addr×Obj)) (s:ah) (O:St) (H:Hp) (Q:VK),Inv X pins O H s->t O H Q->aq (az X.prog X.w) X.A (eval e X.env) (EP X pins O Q) X.xe s
def PT(X:Cx)(e:Expr)(t:TT):Prop:=
 ∀(pins:List (Addr×Obj)) (s:ah) (O:St) (H:Hp) (Q:Bool->Hp->Prop),Inv X pins O H s->t O H Q->aq (az X.prog X.w) X.A (pH e X.env (eval e X.env)) (TP X pins O Q) X.xe s
def PW(X:Cx)(e:Expr)(t:TT):Prop:=
 ∀(whole:Sem Value) (pins:List (Addr×Obj)) (s:ah) (O:St) (H:Hp) (Q:Bool->Hp->Prop),Inv X pins O H s->t O H Q->aq (az X.prog X.w) X.A (pH e X.env whole) (TP X pins O Q) X.xe s
theorem PW.pt{X:Cx}{e:Expr}{t:TT}(h:PW X e t):PT X e t:=h _
def PA(X:Cx)(es:List Expr)(t:TA):Prop:=
 ∀(pos:Pos) (pins:List (Addr×Obj)) (s:ah) (O:St) (H:Hp) (Q:List V->Hp->Prop),Inv X pins O H s->t O H Q->aq (az X.prog X.w) X.A (oO (kO pos (cy es X.env))) (AP X pins O Q) X.xe s
def PS(X:Cx)(st:Stmt)(t:TS):Prop:=
 ∀(pins:List (Addr×Obj)) (s:ah) (O:St) (H:Hp) (D:Ends),Inv X pins O H s->t D O H->aq (az X.prog X.w) X.A (exec st X.env) (SP X pins D) X.xe s
def lR(X:Cx)(st:List Stmt)(t:TS):Prop:=
 ∀(pins:List (Addr×Obj)) (s:ah) (O:St) (H:Hp) (D:Ends),Inv X pins O H s->t D O H->aq (az X.prog X.w) X.A (execs st X.env) (SP X pins D) X.xe s
theorem aY{α:Type}{t:Sem α}{Q Q':α->ah->Prop}{s:ah}(h:aq M A t Q E s)(hQ:∀a s,Q a s->Q' a s):aq M A t Q' E s:=cj h hQ fun _ _ x=>x
end L2
namespace L2
open PySem PySem.Spec PyProof.Rows
variable{pins:List (Addr×Obj)}{s:ah}{O:St}{H:Hp}
variable{x:Str}
variable{E Q:Value->ah->Prop}{u:Value}
section
variable{X:Cx}
theorem bin(ha:PE X a ta)(hb:PE X b tb){R:V->V->Hp->Prop}(I:Inv X pins O H s)(h:ta O H fun x H1=>tb O H1 fun y H2=>R x y H2)
  {α:Type}{Q:α->ah->Prop}{f:Value->Value->Sem α}
  (hf:∀v u s2 x y H2,Inv X pins O H2 s2->RelV x v->RelV y u->R x y H2->aq (az X.prog X.w) X.A (f v u) Q X.xe s2) :
  aq (az X.prog X.w) X.A (eval a X.env) (fun v TJ=>aq (az X.prog X.w) X.A (eval b X.env) (fun u TL=>aq (az X.prog X.w) X.A (f v u) Q X.xe TL) X.xe TJ) X.xe s:=by
 refine aY (ha pins s O H _ I h) fun v s1 ⟨x,H1,I1,r1,q1⟩=>?_;refine aY (hb pins s1 O H1 _ I1 q1) fun u s2 ⟨y,H2,I2,r2,q2⟩=>?_;exact hf v u s2 x y H2 I2 r1 r2 q2
def Jd(i:Nat):TE:=fun O H Q=>∃v,O[i]?=some (some v)/\Q v H
def tC(v:V):TE:=fun _ H Q=>Q v H
theorem AZ{i:Nat}(hN:X.N[i]?=some x)(hv:AY X.env.scope x)(hd:(x==("__debug__":Str))=false:=by decide)(hcd:(x==("__classdict__":Str))=false:=by decide):PE X (.Name x pos) (Jd i):=by
 intro pins s O H Q I h;obtain⟨v,e,h⟩:=h;obtain⟨m,hn,hl⟩:=I.loc;obtain⟨u,r,l⟩:=hl i x v hN e hv;have fin:EP X pins O Q u s:=⟨v,H,I,r,h⟩;rcases l with⟨hk,hm⟩|⟨hk,c,hc,hcell⟩
 ·exact ya (wpAny_loadName_local I.ok.kind hk hn hm fin) hd
 ·rcases hk with hk|hk
  ·exact ya (wpAny_loadName_cell I.ok.kind hk hc hcell fin) hd
  ·exact ya (wpAny_loadName_free I.ok.kind hk hc hcell fin hcd) hd
theorem Om{i j pos}:PE X (.Constant (.int i) j pos) (tC (.int i)):=fun _ _ _ H _ I h=>wpAny_Constant_int ⟨.int i,H,I.tok _,⟨_,rfl⟩,h⟩
theorem QU{b j pos}:PE X (.Constant (.bool b) j pos) (tC (.bl b)):=fun _ _ _ H _ I h=>Constant_bool ⟨.bl b,H,I,rfl,h⟩
theorem Oo{j pos}:PE X (.Constant .none j pos) (tC .non):=fun _ _ _ H _ I h=>Constant_none ⟨.non,H,I,rfl,h⟩
theorem Oq{x j pos}:PE X (.Constant (.str x) j pos) (tC (.str x)):=fun _ _ _ H _ I h=>Calls.Constant_str ⟨.str x,H,I.tok _,⟨_,rfl⟩,h⟩
def Gl(X:Cx)(x:Str):Prop:=X.env.kindOf x=some .globalImplicit
theorem lI(I:Inv X pins O H s)(hg:Gl X x)(hm:X.mg x=some u)(h:Q u s)
  (hd:(x==("__debug__":Str))=false:=by decide):aq (az X.prog X.w) X.A (eval (.Name x pos) X.env) Q E s:=
 nM I.ok.kind hg (Calls.loadGlobal_global (by rw[I.ok.glob];exact I.mod.glob.keeps I.bk) hm h) hd
theorem iW(I:Inv X pins O H s)(hg:Gl X x)(hm:X.mg x=none)(hv:jX x=some u)(h:Q u s)
  (hn:x≠"__name__":=by decide) (hd:(x==("__debug__":Str))=false:=by decide):aq (az X.prog X.w) X.A (eval (.Name x pos) X.env) Q E s:=by
 obtain⟨mb,h1,h2⟩:=I.mod.blt;exact nM I.ok.kind hg (Calls.loadGlobal_builtin (by rw[I.ok.glob];exact I.mod.glob.keeps I.bk) hm (by rw[I.ok.blt];exact h1.keeps I.bk) ((h2 x hn).trans hv) h) hd
theorem yl{v:V}(hg:Gl X x)(hm:X.mg x=some u)(r:RelV v u)(hd:(x==("__debug__":Str))=false:=by decide):PE X (.Name x pos) (tC v):=
 fun _ _ _ H _ I h=>lI I hg hm ⟨v,H,I,r,h⟩ hd
variable{a b:Expr}{ta tb:TE}{pos:Pos}
variable{tA tB':TT}{rest:List Expr}
def Sa(t u:TT):TT:=fun O H Q=>t O H fun c H1=>if c=true then u O H1 Q else Q false H1
def tOr(t u:TT):TT:=fun O H Q=>t O H fun c H1=>if c=true then Q true H1 else u O H1 Q
def Sb(t:TT):TT:=fun O H Q=>t O H fun c H1=>Q (!c) H1
theorem pw_and1(ha:PT X a tA):PW X (.BoolOp .And [a] pos) tA:=by
 intro wh pins s O H Q I h;refine FA (aY (ha pins s O H Q I h) fun c s1 e=>?_);cases c with
 |true=>exact isTrue_and_nil e
 |false=>exact e
theorem pw_or1(ha:PT X a tA):PW X (.BoolOp .Or [a] pos) tA:=by
 intro wh pins s O H Q I h;refine isTrue_or (aY (ha pins s O H Q I h) fun c s1 e=>?_);cases c with
 |false=>exact isTrue_or_nil e
 |true=>exact e
theorem pw_and(ha:PT X a tA)(hb:PW X (.BoolOp .And (b::rest) pos) tB'):PW X (.BoolOp .And (a::b::rest) pos) (Sa tA tB'):=by
 intro wh pins s O H Q I h;refine FA (aY (ha pins s O H _ I h) fun c s1 ⟨H1,I1,q1⟩=>?_);cases c with
 |true=>exact hb wh pins s1 O H1 Q I1 q1
 |false=>exact⟨H1,I1,q1⟩
theorem pw_or(ha:PT X a tA)(hb:PW X (.BoolOp .Or (b::rest) pos) tB'):PW X (.BoolOp .Or (a::b::rest) pos) (tOr tA tB'):=by
 intro wh pins s O H Q I h;refine isTrue_or (aY (ha pins s O H _ I h) fun c s1 ⟨H1,I1,q1⟩=>?_);cases c with
 |true=>exact⟨H1,I1,q1⟩
 |false=>exact hb wh pins s1 O H1 Q I1 q1
theorem Ot(ha:PT X a tA):PT X (.UnaryOp .Not a pos) (Sb tA):=by
 intro pins s O H Q I h;exact isTrue_not (ha pins s O H (fun c H1=>Q (!c) H1) I h)
theorem F7{op}{t:TE}(h:PE X a t):PE X (.BoolOp op [a] pos) t:=fun pins s O H Q I hw=>BoolOp_one (h pins s O H Q I hw)
def tIf(t:TT)(ta tb:TE):TE:=fun O H Q=>t O H fun c H1=>if c=true then ta O H1 Q else tb O H1 Q
theorem Je{c:Expr}(hc:PT X c tA)(ha:PE X a ta)(hb:PE X b tb):PE X (.IfExp c a b pos) (tIf tA ta tb):=by
 intro pins s O H Q I h;refine wpAny_IfExp (aY (hc pins s O H _ I h) fun d s1 ⟨H1,I1,q1⟩=>?_);cases d with
 |true=>exact ha pins s1 O H1 Q I1 q1
 |false=>exact hb pins s1 O H1 Q I1 q1
end
end L2
namespace L2
open PySem PySem.Spec PyProof.Rows
def fy(K:PySem.W.Frag)(H:Hp)(a:Addr)(xs:List V):Prop:=
 Rd H a (.lst xs) \/
  ∃(o:Obj) (its:Array Value) (n:Nat),K.lookup a=some o/\o.cls=.type "list"/\o.dict=none/\o.data=.seq its n/\its.size<=ai/\bh xs its.toList
def jF(K:PySem.W.Frag)(H:Hp)(a:Addr)(xs:List V):Prop:=
 Rd H a (.tup xs) \/
  ∃(o:Obj) (its:Array Value) (n:Nat),K.lookup a=some o/\o.cls=.type "tuple"/\o.data=.seq its n/\its.size<=ai/\bh xs its.toList
noncomputable def Sd:Value->Option V
|.none=>some .non
|.bool b=>some (.bl b)
|.int i _=>some (.int i)
|.str x _=>some (.str x)
|.bytes b _=>some (.byt b)
|.float b _=>some (.flt b)
|.ref a=>some (.ref a)
|.type n=>some (.ty n)
|_=>none
variable{u:Value}
theorem RelV.abs{x:V}(r:RelV x u):Sd u=some x:=by
 cases x with
 |non=>cases r;rfl
 |bl _=>cases r;rfl
 |int _=>obtain⟨t,rfl⟩:=r;rfl
 |str _=>obtain⟨t,rfl⟩:=r;rfl
 |byt _=>obtain⟨t,rfl⟩:=r;rfl
 |flt _=>obtain⟨t,rfl⟩:=r;rfl
 |ref _=>cases r;rfl
 |ty _=>cases r;rfl
theorem RelV.inj{x y:V}(r:RelV x u)(q:RelV y u):x=y:=cC (r.abs.symm.trans q.abs)
theorem bh.inj:∀{xs ys:List V}{us:List Value},bh xs us->bh ys us->xs=ys
|_,_,_,.nil,.nil=>rfl
|_,_,_,.cons r t,.cons r' t'=>by rw[r.inj r',bh.inj t t']
section
variable{X:Cx}{pins:List (Addr×Obj)}{O:St}{H:Hp}{s:ah}{a:Addr}{xs ys:List V}
theorem Inv.list(I:Inv X pins O H s)(h:fy X.K H a xs):∃its:List Value,bh xs its/\PlainL s.heap a its.toArray/\xs.length<=ai:=by
 rcases h with h|⟨o,its,n,hk,hc,hd,hs,hz,r⟩
 ·obtain⟨z,its,n,r,e⟩:=h.ok I.hok;exact⟨its,r,⟨_,n,e,rfl,rfl,rfl⟩,z⟩
 ·refine⟨its.toList,r,⟨o,n,I.dR a o hk,hc,hd,by simpa using hs⟩,?_⟩;have e:=r.length;simp only[jB]at e;omega
theorem Inv.tuple(I:Inv X pins O H s)(h:jF X.K H a xs):∃its:List Value,bh xs its/\IsTup s.heap a its.toArray/\xs.length<=ai:=by
 rcases h with h|⟨o,its,n,hk,hc,hs,hz,r⟩
 ·obtain⟨z,its,r,p⟩:=h.ok I.hok;exact⟨its,r,p,z⟩
 ·refine⟨its.toList,r,⟨o,I.dR a o hk,hc,n,by simpa using hs⟩,?_⟩;have e:=r.length;simp only[jB]at e;omega
theorem Inv.oS(I:Inv X pins O H s)(h:fy X.K H a xs)(h':fy X.K H a ys):xs=ys:=by
 obtain⟨its,r,⟨o,n,e,_,_,d⟩,_⟩:=I.list h;obtain⟨its',r',⟨o',n',e',_,_,d'⟩,_⟩:=I.list h';rw[e]at e';cases e';rw[d]at d';injection d' with d1 _;have:its=its':=by simpa using congrArg Cr d1
 subst this;exact r.inj r'
theorem Inv.pU(I:Inv X pins O H s)(h:jF X.K H a xs)(h':jF X.K H a ys):xs=ys:=by
 obtain⟨its,r,⟨o,e,_,n,d⟩,_⟩:=I.tuple h;obtain⟨its',r',⟨o',e',_,n',d'⟩,_⟩:=I.tuple h';rw[e]at e';cases e';rw[d]at d';injection d' with d1 _;have:its=its':=by simpa using congrArg Cr d1
 subst this;exact r.inj r'
end
noncomputable abbrev Cx.iL(X:Cx)(E:Value->ah->Prop):Cx:={ X with xe:=E }
noncomputable abbrev Cx.tE(X:Cx):Cx:=X.iL fun _ _=>False
variable{X:Cx}
theorem Cx.Ok.iL(ok:X.Ok)(E:Value->ah->Prop):(X.iL E).Ok:=
 ⟨ok.mod,ok.kind,ok.glob,ok.blt,ok.above,ok.inj,ok.has,ok.cab,ok.hd,ok.frames,ok.stk,ok.exf,ok.bs,ok.bsz,ok.noex,ok.exfs,ok.kG,ok.frf⟩
variable{E:Value->ah->Prop}
theorem Cx.Ok.gR(ok:(X.iL E).Ok):X.Ok:=
 ⟨ok.mod,ok.kind,ok.glob,ok.blt,ok.above,ok.inj,ok.has,ok.cab,ok.hd,ok.frames,ok.stk,ok.exf,ok.bs,ok.bsz,ok.noex,ok.exfs,ok.kG,ok.frf⟩
section
variable{X:Cx}{pins:List (Addr×Obj)}{O:St}{H:Hp}{s:ah}{E:Value->ah->Prop}
theorem Inv.iL(I:Inv X pins O H s)(E:Value->ah->Prop):Inv (X.iL E) pins O H s:=⟨I.ok.iL E,I.os,I.bare,I.base,I.loc,I.cell,I.free,I.freeC,I.pin,I.hok,I.len⟩
theorem Inv.gR(I:Inv (X.iL E) pins O H s):Inv X pins O H s:=⟨I.ok.gR,I.os,I.bare,I.base,I.loc,I.cell,I.free,I.freeC,I.pin,I.hok,I.len⟩
theorem SP.gR{D:Ends}{f:Flow}{s':ah}(h:SP (X.iL E) pins D f s'):SP X pins D f s':=by
 cases f with
 |next=>obtain⟨TF,H',I,q⟩:=h;exact⟨TF,H',I.gR,q⟩
 |brk=>obtain⟨TF,H',I,q⟩:=h;exact⟨TF,H',I.gR,q⟩
 |cont=>obtain⟨TF,H',I,q⟩:=h;exact⟨TF,H',I.gR,q⟩
 |ret u=>obtain⟨v,TF,H',I,r,q⟩:=h;exact⟨v,TF,H',I.gR,r,q⟩
theorem lR.tE{st:List Stmt}{t:TS}(h:lR X.tE st t):lR X st t:=fun pins s O H D I hw=>
 cj (h pins s O H D (I.iL _) hw) (fun _ _ q=>q.gR) fun _ _ z=>ay z
end
variable{pins:List (Addr×Obj)}{O:St}{H:Hp}{s:ah}
section
variable{X:Cx}{st:Stmt}{rest:List Stmt}{t u:TS}{e:Expr}{te:TE}{pos:Pos}
def QV:TS:=fun D O H=>D.nx O H
def Se(t u:TS):TS:=fun D O H=>t { D with nx:=u D } O H
theorem Dq:lR X [] QV:=fun _ _ O H _ I h=>jK ⟨O,H,I,h⟩
theorem A0(h1:PS X st t)(h2:lR X rest u):lR X (st::rest) (Se t u):=by
 intro pins s O H D I h;refine pJ (aY (h1 pins s O H { D with nx:=u D } I h) fun f s1 q=>?_);cases f with
 |next=>
  obtain⟨TF,H',I',q⟩:=q;exact h2 pins s1 TF H' D I' q
 |ret v=>exact q
 |brk=>exact q
 |cont=>exact q
def Ou:TS:=fun D O H=>D.bk O H
def QW:TS:=fun D O H=>D.ct O H
theorem Jf:PS X (.Break pos) Ou:=fun _ _ O H _ I h=>wpAny_Break ⟨O,H,I,h⟩
theorem CU:PS X (.Continue pos) QW:=fun _ _ O H _ I h=>wpAny_Continue ⟨O,H,I,h⟩
theorem Inv.quiet(I:Inv X pins O H s):Dc X.env=false:=by simp[Dc,I.ok.kind]
def QX(te:TE):TS:=fun D O H=>te O H fun _ H1=>D.nx O H1
theorem MC(he:PE X e te)(hs:lP e none pos.line X.env=pure false:=by rfl):PS X (.Expr e pos) (QX te):=by
 intro pins s O H D I h;exact y9 (aY (he pins s O H _ I h) fun v s1 ⟨x,H1,I1,r1,q1⟩=>⟨O,H1,I1,q1⟩) I.quiet hs
def Sf(te:TE):TS:=fun D O H=>te O H D.rt
theorem Ov(he:PE X e te):PS X (.Return (some e) pos) (Sf te):=by
 intro pins s O H D I h;exact wpAny_Return_some (aY (he pins s O H _ I h) fun v s1 ⟨x,H1,I1,r1,q1⟩=>⟨x,O,H1,I1,r1,q1⟩)
def Sg(c:TT)(t u:TS):TS:=fun D O H=>c O H fun b H1=>if b=true then t D O H1 else u D O H1
theorem QY{c:Expr}{a b:List Stmt}{tc:TT}(hc:PT X c tc)(ha:lR X a t)(hb:lR X b u):PS X (.If c a b pos) (Sg tc t u):=by
 intro pins s O H D I h;refine wpAny_If (aY (hc pins s O H _ I h) fun d s1 ⟨H1,I1,q1⟩=>?_);cases d with
 |true=>exact ha pins s1 O H1 D I1 q1
 |false=>exact hb pins s1 O H1 D I1 q1
def Ow:TS:=fun _ _ _=>False
theorem Jg:PS X st Ow:=fun _ _ _ _ _ _ h=>h.elim
end
noncomputable abbrev TG:=V->St->Hp->(St->Hp->Prop)->Prop
noncomputable abbrev tF:=List V->St->Hp->(St->Hp->Prop)->Prop
def PG(X:Cx)(target:Expr)(t:TG):Prop:=
 ∀(pins:List (Addr×Obj)) (s:ah) (O:St) (H:Hp) (v:V) (u:Value) (Q:St->Hp->Prop),Inv X pins O H s->RelV v u->t v O H Q->
  aq (az X.prog X.w) X.A (l8 target X.env u) (fun _ s'=>∃TF H',Inv X pins TF H' s'/\Q TF H') X.xe s
def vz(X:Cx)(ts:List Expr)(t:tF):Prop:=
 ∀(pins:List (Addr×Obj)) (s:ah) (O:St) (H:Hp) (vs:List V) (us:List Value) (Q:St->Hp->Prop),Inv X pins O H s->bh vs us->t vs O H Q->
  aq (az X.prog X.w) X.A (Av ((dZ ts X.env).map (·.2)) us) (fun _ s'=>∃TF H',Inv X pins TF H' s'/\Q TF H') X.xe s
noncomputable abbrev Jh:=V->V->V->Hp->(Hp->Prop)->Prop
def Ji(X:Cx)(t:Jh):Prop:=
 ∀(pins:List (Addr×Obj)) (s:ah) (O:St) (H:Hp) (o i v:V) (ov iv u:Value) (Q:Hp->Prop),Inv X pins O H s->RelV o ov->RelV i iv->RelV v u->t o i v H Q->
  aq (az X.prog X.w) X.A (Eg ov iv u) (fun _ s'=>∃H',Inv X pins O H' s'/\Q H') X.xe s
variable{e:Expr}{es:List Expr}
variable{tg:Expr}
section
variable{X:Cx}{pos:Pos}
def QZ(i:Nat):TG:=fun v O H Q=>Q (O.set i (some v)) H
theorem Dr{i:Nat}{x:Str}(hN:X.N.Nodup)(hi:X.N[i]?=some x)(hx:Loc X.env.scope x)(hf:X.fn x=true\/X.env.scope.names.lookup x=some .local:=by first|exact .inl rfl|exact .inr rfl|assumption):PG X (.Name x pos) (QZ i):=by
 intro pins s O H v u Q I r h;exact vg (v5 I hN hi hx r (fun s' I'=>⟨_,H,I',h⟩) hf)
def Sh:tF:=fun vs O H Q=>vs=[]/\Q O H
def Q0(t:TG)(u:tF):tF:=fun vs O H Q=>∃v r,vs=v::r/\t v O H fun TF H'=>u r TF H' Q
theorem MD:vz X [] Sh:=by
 intro pins s O H vs us Q I r h;obtain⟨e,h⟩:=h;subst e;cases r;exact assignInOrder_nil ⟨O,H,I,h⟩
theorem Jj{t:TG}{u:tF}(h1:PG X e t)(h2:vz X es u)
  (hs:(dZ (e::es) X.env).map (·.2)=l8 e X.env::(dZ es X.env).map (·.2):=by rfl):vz X (e::es) (Q0 t u):=by
 intro pins s O H vs us Q I r h;obtain⟨v,vr,e1,h⟩:=h;subst e1;cases r with
 |cons r rr=>
  rw[hs];refine assignInOrder_cons (aY (h1 pins s O H _ _ _ I r h) fun _ s1 ⟨TU,H1,I1,q1⟩=>?_);exact h2 pins s1 TU H1 _ _ Q I1 rr q1
def Ox(K:PySem.W.Frag)(n:Nat)(t:tF):TG:=fun v O H Q=>∃a xs,v=.ref a/\jF K H a xs/\xs.length=n/\t xs O H Q
theorem Oz{k:Nat}{t:tF}{n:Nat}(hc:X.calm=true)(h:vz X es t)
  (hn:(dZ es X.env).length=n:=by rfl) (hst:(dZ es X.env).findIdx? (·.1)=none:=by rfl):PG X (.Tuple es k pos) (Ox X.K n t):=by
 intro pins s O H v u Q I r hw;obtain⟨a,xs,e1,hq,hl,hw⟩:=hw;subst e1;cases r;obtain⟨its,rv,ht,hz⟩:=I.tuple hq;refine assign_Tuple_tuple (I.ok.hd hc) ht (by simp[hn,<-hl,rv.length]) hst fun h' hx=>?_;have I1:Inv X pins O H { s with heap:=h' }:=I.kept (t':=s.toks) fun b o e=>hx b o (be (au e)) e;exact h pins _ O H xs _ Q I1 (by simpa using rv) hw
def Si(to ti:TE)(t:Jh):TG:=fun v O H Q=>to O H fun o H1=>ti O H1 fun i H2=>t o i v H2 fun H3=>Q O H3
theorem OA{o i:Expr}{to ti:TE}{t:Jh}(ho:PE X o to)(hi:PE X i ti)(hs:Ji X t)
  (ha:∀v,l8 (.Subscript o i pos) X.env v=(do
   let ov <-lQ [v] (eval o X.env)
   let iv <-lQ [v,ov] (eval i X.env)
   rq pos
   lQ [v,ov,iv] (Eg ov iv v)
   release [v,ov,iv] []):=by intro _;rfl):PG X (.Subscript o i pos) (Si to ti t):=by
 intro pins s O H v u Q I r h;rw[ha];refine aa (cW (aY (ho pins s O H _ I h) fun ov s1 ⟨x,H1,I1,r1,q1⟩=>?_));refine aa (cW (aY (hi pins s1 O H1 _ I1 q1) fun iv s2 ⟨y,H2,I2,r2,q2⟩=>?_));refine aa (ju (aa (cW (aY (hs pins s2 O H2 x y v ov iv u _ I2 r1 r2 r q2) fun _ s3 ⟨H3,I3,q3⟩=>?_))));exact wpAny_release ⟨O,H3,I3,q3⟩
def Sj(te:TE)(g:TG):TS:=fun D O H=>te O H fun x H1=>g x O H1 D.nx
theorem A1{te:TE}{g:TG}(he:PE X e te)(hg:PG X tg g)(hs:sW [tg] e pos.line X.env=pure false:=by rfl)(hw:sX [tg] e X.env=pure none:=by rfl)
  (h1:(dZ [tg] X.env).map (·.2)=[l8 tg X.env]:=by rfl):PS X (.Assign [tg] e pos) (Sj te g):=by
 intro pins s O H D I h;refine wpAny_Assign_stores (aY (he pins s O H _ I h) fun v s1 ⟨x,H1,I1,r1,q1⟩=>?_) hs hw;rw[h1];exact aY (hg pins s1 O H1 x v _ I1 r1 q1) fun _ s2 q=>q
end
structure It where
 go:Nat->Hp->Prop
 yld:Nat->Hp->V->Hp->Prop
 stop:Nat->Hp->Prop
def gS(X:Cx)(pins:List (Addr×Obj))(H:Hp)(b:Addr):Prop:=
 H b=none/\b≠X.env.locals/\b∉X.fs/\(b∈X.ex\/X.Tz.heap.objs.size<=b)/\(∀x c,X.env.cells.lookup x=some c->c≠b)/\∀p∈X.pn++pins,p.1≠b
theorem Inv.k9{H':Hp}{b:Addr}(I:Inv X pins O H s)(hb:s.heap.objs.size<=b)(hn:H' b=none):gS X pins H' b:=by
 refine⟨hn,jb (bw I.lt hb),I.R_ hb,.inr (c9 I.sz hb),fun x c e z=>?_,fun p hp z=>?_⟩
 ·obtain⟨v,q⟩:=I.cell x c e;exact absurd (bw q.lt (by rw[z];exact hb)) (cV _)
 ·exact absurd (bw (au (I.pin p hp).1) (by rw[z];exact hb)) (cV _)
structure Turn (P:a_) (w:bC) (K:PySem.W.Frag) (tg:Expr) (J:It) (fp:List Addr) (it:Addr) (tn:Nat->Heap->Prop):Prop where
 mem:it∈fp
 obj:∀i h,tn i h->∀b∈fp,∃o,h.get? b=some o/\∀v,o.data≠.cell v
 keep:∀i h h',tn i h->(∀b∈fp,∀o,h.get? b=some o->h'.get? b=some o)->tn i h'
 item:∀(X:Cx),X.prog=P->X.w=w->X.K=K->X.calm=true->∀(i:Nat) (pins:List (Addr×Obj)) (s:ah) (O:St) (H:Hp) (E:Value->ah->Prop),Inv X pins O H s->(∀b∈fp,gS X pins H b)->tn i s.heap->J.go i H->
  aq (az P w) X.A (gk (.ref it)) (fun r s1=>∃u,r=some u /\
   aq (az P w) X.A (jL tg (.ref it) u) (fun _ s2=>∃x H',Inv X pins O H' s2/\RelV x u/\J.yld i H x H'/\tn (i+1) s2.heap/\∀b∈fp,H' b=none) E s1) E s
 done:∀(X:Cx),X.prog=P->X.w=w->X.K=K->X.calm=true->∀(i:Nat) (pins:List (Addr×Obj)) (s:ah) (O:St) (H:Hp) (E:Value->ah->Prop),Inv X pins O H s->(∀b∈fp,gS X pins H b)->tn i s.heap->J.stop i H->
  aq (az P w) X.A (gk (.ref it)) (fun r s1=>r=none/\Inv X pins O H s1) E s
 self:∀(A:bU) (i:Nat) (s:ah) (Q:Value->ah->Prop) (E:Value->ah->Prop),tn i s.heap->Q (.ref it) s->aq (az P w) A (pK (.ref it)) Q E s
noncomputable abbrev TI:=St->Hp->(It->Hp->Prop)->Prop
def RT(X:Cx)(pins:List (Addr×Obj))(O:St)(tg:Expr)(R:It->Hp->Prop)(itv:Value)(s2:ah):Prop:=
 ∃(it:Addr) (fp:List Addr) (tn:Nat->Heap->Prop) (J:It) (H':Hp),itv=.ref it/\Inv X pins O H' s2/\Turn X.prog X.w X.K tg J fp it tn/\tn 0 s2.heap/\(∀b∈fp,gS X pins H' b)/\R J H'
def PI(X:Cx)(tg iter:Expr)(wi:TI):Prop:=
 ∀(pins:List (Addr×Obj)) (s:ah) (O:St) (H:Hp) (R:It->Hp->Prop),Inv X pins O H s->wi O H R->
  aq (az X.prog X.w) X.A (eval iter X.env) (fun v s1=>aq (az X.prog X.w) X.A (pK v) (RT X pins O tg R) X.xe s1) X.xe s
theorem AG{M:AX}{A:bU}{it:Addr}{o:Obj}{n:String}{vs:Array Value}{Q:Unit->ah->Prop}(ho:s.heap.get? it=some o)(hc:o.cls=.type n)(hd:o.data=.fields vs)
  (hn:["enumerate","zip","dict_itemiterator","dict_reverseitemiterator","odict_iterator","itertools.zip_longest","itertools.pairwise"].contains n=false) (hQ:Q () s):aq M A (jL tg (.ref it) u) Q E s:=by
 unfold jL;cases tg<;>first
  |exact aD hQ
  |(cases u<;>first
    |exact aD hQ
    |(refine aa (wpAny_load ho ?_)
      rw[hc,hd];show aq M A (if(["enumerate","zip","dict_itemiterator","dict_reverseitemiterator","odict_iterator","itertools.zip_longest","itertools.pairwise"].contains n&&vs[0]?==some (gm _))=true then _ else _) Q E s;rw[if_neg (by intro h;rw[hn,y_]at h;cases h)];exact aD hQ))
noncomputable def RU(K:PySem.W.Frag)(a:Addr):It:=
 ⟨fun i H=>∃xs x,fy K H a xs/\xs[i]?=some x,fun i H x H'=>H'=H/\∀xs,fy K H a xs->xs[i]?=some x,fun i H=>∃xs,fy K H a xs/\xs.length<=i⟩
noncomputable def RV(K:PySem.W.Frag)(a:Addr):It:=
 ⟨fun i H=>∃xs x,jF K H a xs/\xs[i]?=some x,fun i H x H'=>H'=H/\∀xs,jF K H a xs->xs[i]?=some x,fun i H=>∃xs,jF K H a xs/\xs.length<=i⟩
noncomputable def LL(lo:Int)(n:Nat):It:=⟨fun i _=>i<n,fun i H x H'=>H'=H/\x=.int (lo+i),fun i _=>n<=i⟩
variable{P:a_}{w:bC}{K:PySem.W.Frag}
theorem F8(a it:Addr):Turn P w K tg (RU K a) [it] it (fun i h=>h.IsListIter it a i) where
 mem:=by simp
 obj:=fun i h st b hb=>by
  have e:b=it:=by simpa using hb
  subst e;obtain⟨o,e,c,d⟩:=st;exact⟨o,e,fun v z=>by rw[d]at z;cases z⟩
 keep:=fun i h h' st k=>st.at fun o e=>k it (by simp) o e
 item:=by
  intro X hP hw hK hc i pins s O H E I hf st hg;subst hP hw hK;obtain⟨xs,x,hq,hx⟩:=hg;obtain⟨its,rv,p,hz⟩:=I.list hq;obtain⟨u,hu,ru⟩:=rv.get hx;obtain⟨f0,f1,f2,f3,f4,f5⟩:=hf it (by simp);refine qO st p.isList (x:=u) (by simpa using hu) fun h' st' sb=>?_;have I1:Inv X pins O H { s with heap:=h' }:=I.turned (t':=s.toks) (fun b o hb e=>(sb.2 b hb).trans e) f0 f1 f3 f4 f5;obtain⟨o,e,c,d⟩:=id st';exact⟨u,rfl,AG (s:={ s with heap:=h' }) e c d (by decide) ⟨x,H,I1,ru,⟨rfl,fun ys hy=>by rw[I.oS hy hq];exact hx⟩,st',fun b hb=>(hf b hb).1⟩⟩
 done:=by
  intro X hP hw hK hc i pins s O H E I hf st hg;subst hP hw hK;obtain⟨xs,hq,hx⟩:=hg;obtain⟨its,rv,p,hz⟩:=I.list hq;obtain⟨f0,f1,f2,f3,f4,f5⟩:=hf it (by simp);have hl:=rv.length;exact wpAny_pyNext_list_end (I.ok.hd hc) st p.isList (by simp;omega) fun h' eb=>⟨rfl,I.turned (t':=s.toks) (fun b o hb e=>eb b o hb e) f0 f1 f3 f4 f5⟩
 self:=fun _ _ _ _ _ st h=>rA st h
theorem En(a it:Addr):Turn P w K tg (RV K a) [it] it (fun i h=>h.IsTupleIter it a i) where
 mem:=by simp
 obj:=fun i h st b hb=>by
  have e:b=it:=by simpa using hb
  subst e;obtain⟨o,e,c,d⟩:=st;exact⟨o,e,fun v z=>by rw[d]at z;cases z⟩
 keep:=fun i h h' st k=>st.at fun o e=>k it (by simp) o e
 item:=by
  intro X hP hw hK hc i pins s O H E I hf st hg;subst hP hw hK;obtain⟨xs,x,hq,hx⟩:=hg;obtain⟨its,rv,p,hz⟩:=I.tuple hq;obtain⟨u,hu,ru⟩:=rv.get hx;obtain⟨f0,f1,f2,f3,f4,f5⟩:=hf it (by simp);refine wpAny_pyNext_tuple_item st (show s.heap.IsTuple a its.toArray from p) (x:=u) (by simpa using hu) fun h' st' sb=>?_;have I1:Inv X pins O H { s with heap:=h' }:=I.turned (t':=s.toks) (fun b o hb e=>(sb.2 b hb).trans e) f0 f1 f3 f4 f5;obtain⟨o,e,c,d⟩:=id st';exact⟨u,rfl,AG (s:={ s with heap:=h' }) e c d (by decide) ⟨x,H,I1,ru,⟨rfl,fun ys hy=>by rw[I.pU hy hq];exact hx⟩,st',fun b hb=>(hf b hb).1⟩⟩
 done:=by
  intro X hP hw hK hc i pins s O H E I hf st hg;subst hP hw hK;obtain⟨xs,hq,hx⟩:=hg;obtain⟨its,rv,p,hz⟩:=I.tuple hq;obtain⟨f0,f1,f2,f3,f4,f5⟩:=hf it (by simp);have hl:=rv.length;exact wpAny_pyNext_tuple_end (I.ok.hd hc) st (show s.heap.IsTuple a its.toArray from p) (by simp;omega) fun h' eb=>⟨rfl,I.turned (t':=s.toks) (fun b o hb e=>eb b o hb e) f0 f1 f3 f4 f5⟩
 self:=fun _ _ _ _ _ st h=>wpAny_pyIter_tupleiter st h
theorem Eo(it:Addr)(lo:Int)(n:Nat):Turn P w K tg (LL lo n) [it] it (fun i h=>Dd h it (lo+(i:Nat)*1) ((n:Int)-(i:Nat)) 1) where
 mem:=by simp
 obj:=fun i h st b hb=>by
  have e:b=it:=by simpa using hb
  subst e;exact⟨_,st,fun v z=>by
   have z':Data.fields _=Data.cell v:=z;cases z'⟩
 keep:=fun i h h' st k=>k it (by simp) _ st
 item:=by
  intro X hP hw hK hc i pins s O H E I hf st hg;subst hP hw hK;obtain⟨f0,f1,f2,f3,f4,f5⟩:=hf it (by simp);have W:=Walks.range (prog:=X.prog) (w:=X.w) (I.ok.hd hc) it lo 1 n;refine W.item i s _ _ hg st fun v h' tk hv st' kk=>?_;obtain⟨t,rfl⟩:=hv;have I1:Inv X pins O H { s with heap:=h',toks:=tk }:=I.turned (fun b o hb e=>kk b o (by simpa using hb) e) f0 f1 f3 f4 f5;refine⟨_,rfl,AG (s:={ s with heap:=h',toks:=tk }) (n:="range_iterator") st' rfl rfl (by decide) ⟨.int (lo+i),H,I1,⟨t,?_⟩,⟨rfl,rfl⟩,st',fun b hb=>(hf b hb).1⟩⟩;rw[Int.mul_one]
 done:=by
  intro X hP hw hK hc i pins s O H E I hf st hg;subst hP hw hK;obtain⟨f0,f1,f2,f3,f4,f5⟩:=hf it (by simp);exact wpAny_pyNext_range_end (I.ok.hd hc) st (by have:n<=i:=hg;omega) fun h' eb=>⟨rfl,I.turned (t':=s.toks) (fun b o hb e=>eb b o hb e) f0 f1 f3 f4 f5⟩
 self:=fun _ _ _ _ _ st h=>wpAny_pyIter_rangeiter st h
end L2
namespace L2
open PySem PySem.Spec PyProof.Rows
variable{pins:List (Addr×Obj)}{O:St}{H:Hp}{s:ah}
variable{fp:List Addr}{h:Heap}
section
variable{X:Cx}{tg:Expr}
theorem Jk{R:It->Hp->Prop}{E:Value->ah->Prop}{lo hi:Int}{t u v:Tok}{tk:Nat}(I:Inv X pins O H s)(h1:-(2 ^ 62)<=lo)(h2:lo<2 ^ 62)(h3:-(2 ^ 62)<=hi)(h4:hi<2 ^ 62)
  (q:R (LL lo (hi-lo).toNat) H):aq (az X.prog X.w) X.A (pK (.ref s.heap.objs.size)) (RT X pins O tg R) E { s with heap:=s.heap.push { cls:=.type "range",data:=.fields #[.int lo t,.int hi u,.int 1 v] },toks:=tk }:=by
 refine wpAny_pyIter_range (QO ..) (small_one h1 h2 h3 h4) ?_;have I1:Inv X pins O H { s with heap:=s.heap.push { cls:=.type "range",data:=.fields #[.int lo t,.int hi u,.int 1 v] },toks:=tk }:=I.kept fun b o e=>aj _ e;refine⟨(s.heap.push { cls:=.type "range",data:=.fields #[.int lo t,.int hi u,.int 1 v] }).objs.size,[(s.heap.push { cls:=.type "range",data:=.fields #[.int lo t,.int hi u,.int 1 v] }).objs.size],_,_,H,rfl,
  I1.kept (t':=tk) fun b o e=>aj _ e,Eo _ lo (hi-lo).toNat,?_,fun b hb=>?_,q⟩
 ·have e1:lo+((0:Nat):Int)*1=lo:=by simp
  have e2:(((hi-lo).toNat:Nat):Int)-((0:Nat):Int)=CQ lo hi 1:=by rw[rangeSize_one];split<;>omega
  show Dd _ _ (lo+((0:Nat):Int)*1) ((((hi-lo).toNat:Nat):Int)-((0:Nat):Int)) 1;rw[e1,e2];exact aO _ rfl
 ·have e:b=(s.heap.push { cls:=.type "range",data:=.fields #[.int lo t,.int hi u,.int 1 v] }).objs.size:=by simpa using hb
  subst e;exact I1.k9 (aT _) (I1.hok.fresh (aT _))
def Sk(wi:TI)(g:TG)(tb:TS):TS:=fun D O H=>wi O H fun J H1=>∃W:Nat->Nat->St->Hp->Prop,(∃m,W 0 m O H1)/\∀i m O H,W i m O H->
 (J.stop i H/\D.nx O H)\/(J.go i H/\∃N:St->Hp->Prop,(∀TF H',N TF H'->∃m',m'<m/\W (i+1) m' TF H')/\∀x H',J.yld i H x H'->g x O H' fun TH H2=>tb { D with nx:=N,ct:=N,bk:=D.nx } TH H2)
noncomputable def tG(fp:List Addr)(h:Heap):List (Addr×Obj):=fp.filterMap fun b=>(h.get? b).map fun o=>(b,o)
theorem oi{b:Addr}{o:Obj}(hb:b∈fp)(e:h.get? b=some o):(b,o)∈tG fp h:=uB.mpr ⟨b,hb,by rw[e];rfl⟩
theorem F9{p:Addr×Obj}(hp:p∈tG fp h):p.1∈fp/\h.get? p.1=some p.2:=by
 obtain⟨b,hb,e⟩:=uB.mp hp;cases q:h.get? b with
 |none=>rw[q]at e;cases e
 |some o=>
  rw[q]at e;have e':(b,o)=p:=cC e;subst e';exact⟨hb,q⟩
theorem Inv.pinned(I:Inv X pins O H s)(hf:∀b∈fp,gS X pins H b)(ho:∀b∈fp,∃o,s.heap.get? b=some o/\∀v,o.data≠.cell v):Inv X (pins++tG fp s.heap) O H s:=
 I.uR fun p hp=>(bL.mp hp).elim (fun z=>I.pin p (aA _ z)) fun z=>by
  obtain⟨hb,e⟩:=F9 z;obtain⟨f0,f1,f2,_⟩:=hf p.1 hb;obtain⟨o,e',d⟩:=ho p.1 hb;rw[e]at e';cases e';exact⟨e,f0,f1,f2,d⟩
theorem Inv.rM{pl:List (Addr×Obj)}(I:Inv X (pins++pl) O H s):Inv X pins O H s:=I.uR fun p hp=>I.pin p (aA _ (aM _ hp))
theorem OB{iter:Expr}{body:List Stmt}{wi:TI}{g:TG}{tb:TS}{pos:Pos}(hp:uC (az X.prog X.w) X.A X.env X.xe)(hc:X.calm=true)(hi:PI X tg iter wi)(hg:PG X tg g)(hb:lR X body tb)
  (hs:∀x,gz iter X.env x=pure x:=by intro _;rfl):PS X (.For tg iter body [] pos) (Sk wi g tb):=by
 intro pins s O H D I h;refine wpAny_For (aY (hi pins s O H _ I h) fun v s1 h1=>aY h1 fun itv s2 h2=>?_) hs;obtain⟨it,fp,tn,J,H2,e,I2,T,st2,f2,W,⟨m0,w0⟩,turn⟩:=h2;subst e;have stat:∀{H':Hp},(∀b∈fp,H' b=none)->∀b∈fp,gS X pins H' b:=fun hn b hb=>⟨hn b hb,(f2 b hb).2⟩;refine codeAny_forLoop_any (fun n s'=>∃i TF H',Inv X pins TF H' s'/\tn i s'.heap/\(∀b∈fp,H' b=none)/\W i n TF H') ?_ m0 ⟨0,O,H2,I2,st2,fun b hb=>(f2 b hb).1,w0⟩;rintro n s3 ⟨i,TQ,H3,I3,st3,fr3,w3⟩;rcases turn i n TQ H3 w3 with⟨stop,qn⟩|⟨go,N,hN,step⟩
 ·refine jM hp (aY (T.done X rfl rfl rfl hc i pins s3 TQ H3 X.xe I3 (stat fr3) st3 stop) fun r s4 ⟨hr,I4⟩=>?_);subst hr;exact jK ⟨TQ,H3,I4,qn⟩
 ·refine jM hp (aY (T.item X rfl rfl rfl hc i pins s3 TQ H3 X.xe I3 (stat fr3) st3 go) fun r s4 ⟨u,hr,h4⟩=>?_);subst hr;refine jM hp (aY h4 fun _ s5 ⟨x,H5,I5,r5,y5,st5,fr5⟩=>?_);have I5':=I5.pinned (stat fr5) (T.obj _ _ st5);refine jM hp (aY (hg _ s5 TQ H5 x u _ I5' r5 (step x H5 y5)) fun _ s6 ⟨T3,H6,I6,q6⟩=>?_);refine jM hp (aY (hb _ s6 T3 H6 _ I6 q6) fun f s7 q7=>?_);have again:∀{TX:St}{H7:Hp},Inv X (pins++tG fp s5.heap) TX H7 s7->N TX H7->∃m,m<n/\∃i TF H',Inv X pins TF H' s7/\tn i s7.heap/\(∀b∈fp,H' b=none)/\W i m TF H':=fun{TX H7} I7 n7=>by
   obtain⟨m',hm,w7⟩:=hN TX H7 n7;refine⟨m',hm,i+1,TX,H7,I7.rM,T.keep _ _ _ st5 fun b hb o e=>(I7.pin (b,o) (aA _ (aA _ (oi hb e)))).1,fun b hb=>?_,w7⟩;obtain⟨o,e,d⟩:=T.obj _ _ st5 b hb;exact(I7.pin (b,o) (aA _ (aA _ (oi hb e)))).2.1
  cases f with
  |next=>obtain⟨TX,H7,I7,n7⟩:=q7;exact again I7 n7
  |cont=>obtain⟨TX,H7,I7,n7⟩:=q7;exact again I7 n7
  |brk=>obtain⟨TX,H7,I7,q7⟩:=q7;exact⟨TX,H7,I7.rM,q7⟩
  |ret v=>obtain⟨x7,TX,H7,I7,r7,q7⟩:=q7;exact⟨x7,TX,H7,I7.rM,r7,q7⟩
end
end L2
namespace L2
open PySem PySem.Spec PyProof.Rows
noncomputable abbrev R2:=V->V->Hp->VK->Prop
def iB(X:Cx)(f:Value->Value->Sem Value)(r:R2):Prop:=
 ∀(pins:List (Addr×Obj)) (s:ah) (O:St) (H:Hp) (x y:V) (v u:Value) (Q:VK),Inv X pins O H s->RelV x v->RelV y u->r x y H Q->
  aq (az X.prog X.w) X.A (f v u) (EP X pins O Q) X.xe s
def RW(X:Cx)(f:Value->Sem Value)(r:V->Hp->VK->Prop):Prop:=
 ∀(pins:List (Addr×Obj)) (s:ah) (O:St) (H:Hp) (x:V) (v:Value) (Q:VK),Inv X pins O H s->RelV x v->r x H Q->
  aq (az X.prog X.w) X.A (f v) (EP X pins O Q) X.xe s
def jG(X:Cx)(f:Value)(r:List V->Hp->VK->Prop):Prop:=
 ∀(pins:List (Addr×Obj)) (s:ah) (O:St) (H:Hp) (xs:List V) (us:List Value) (Q:VK),Inv X pins O H s->bh xs us->r xs H Q->
  aq (az X.prog X.w) X.A (call f us) (EP X pins O Q) X.xe s
def OC(X:Cx)(r:V->Hp->(Bool->Hp->Prop)->Prop):Prop:=
 ∀(pins:List (Addr×Obj)) (s:ah) (O:St) (H:Hp) (x:V) (v:Value) (Q:Bool->Hp->Prop),Inv X pins O H s->RelV x v->r x H Q->
  aq (az X.prog X.w) X.A (yb v) (TP X pins O Q) X.xe s
def OD(r:R2)(ta tb:TE):TE:=fun O H Q=>ta O H fun x H1=>tb O H1 fun y H2=>r x y H2 Q
noncomputable def rI(C:Int->Int->Prop)(g:Int->Int->V):R2:=fun x y H Q=>∃i j,x=.int i/\y=.int j/\C i j/\Q (g i j) H
noncomputable def zh(g:Int->Int->V):R2:=fun x y H Q=>∃i j,x=.int i/\y=.int j/\Q (g i j) H
def rU(g:Int->V):V->Hp->VK->Prop:=fun x H Q=>∃i,x=.int i/\Q (g i) H
variable{pins:List (Addr×Obj)}{s:ah}{O:St}{H:Hp}
variable{r:R2}
variable{f:Value->Value->Sem Value}{g:Int->Int->Int}
section
variable{X:Cx}{a b c:Expr}{ta tb tc:TE}{pos:Pos}
theorem Jl(ha:PE X a ta)(hb:PE X b tb){R:V->V->Hp->Prop}(I:Inv X pins O H s)
  (h:ta O H fun x H1=>tb O H1 fun y H2=>R x y H2) {Q:Value->ah->Prop}{f:Value->Value->Sem Value}
  (hf:∀v u s2 x y H2,Inv X pins O H2 s2->RelV x v->RelV y u->R x y H2->aq (az X.prog X.w) X.A (f v u) Q X.xe s2) :
  aq (az X.prog X.w) X.A (eval a X.env) (fun v TJ=>aq (az X.prog X.w) X.A (eval b X.env) (fun u TL=>aq (az X.prog X.w) X.A (f v u) Q X.xe TL) X.xe TJ) X.xe s:=by
 refine aY (ha pins s O H _ I h) fun v s1 ⟨x,H1,I1,r1,q1⟩=>?_;refine aY (hb pins s1 O H1 _ I1 q1) fun u s2 ⟨y,H2,I2,r2,q2⟩=>?_;exact hf v u s2 x y H2 I2 r1 r2 q2
theorem Q2{op:lF}(ho:iB X (fO op) r)(ha:PE X a ta)(hb:PE X b tb):PE X (.BinOp a op b pos) (OD r ta tb):=by
 intro pins s O H Q I h;exact wpAny_BinOp (Jl ha hb I h fun v u s2 x y H2 I2 rx ry q=>ho pins s2 O H2 x y v u Q I2 rx ry q)
theorem F_{C:Int->Int->Prop}
  (rule:∀(i j:Int) (t u:Tok) (s:ah) (Q:Value->ah->Prop) (E:Value->ah->Prop),C i j->Q (.int (g i j) s.toks) { s with toks:=s.toks+1 }->aq (az X.prog X.w) X.A (f (.int i t) (.int j u)) Q E s) :
  iB X f (rI C fun i j=>.int (g i j)):=by
 intro pins s O H x y v u Q I rx ry h;obtain⟨i,j,rfl,rfl,hc,q⟩:=h;obtain⟨t,rfl⟩:=rx;obtain⟨t',rfl⟩:=ry;exact rule i j t t' s _ _ hc ⟨.int (g i j),H,I.tok _,⟨_,rfl⟩,q⟩
theorem OE
  (rule:∀(i j:Int) (t u:Tok) (s:ah) (Q:Value->ah->Prop) (E:Value->ah->Prop),Q (.int (g i j) s.toks) { s with toks:=s.toks+1 }->aq (az X.prog X.w) X.A (f (.int i t) (.int j u)) Q E s) :
  iB X f (zh fun i j=>.int (g i j)):=by
 intro pins s O H x y v u Q I rx ry h;obtain⟨i,j,rfl,rfl,q⟩:=h;obtain⟨t,rfl⟩:=rx;obtain⟨t',rfl⟩:=ry;exact rule i j t t' s _ _ ⟨.int (g i j),H,I.tok _,⟨_,rfl⟩,q⟩
theorem Ep{g:Int->Int->Bool}
  (rule:∀(i j:Int) (t u:Tok) (s:ah) (Q:Value->ah->Prop) (E:Value->ah->Prop),Q (.bool (g i j)) s->aq (az X.prog X.w) X.A (f (.int i t) (.int j u)) Q E s) :
  iB X f (zh fun i j=>.bl (g i j)):=by
 intro pins s O H x y v u Q I rx ry h;obtain⟨i,j,rfl,rfl,q⟩:=h;obtain⟨t,rfl⟩:=rx;obtain⟨t',rfl⟩:=ry;exact rule i j t t' s _ _ ⟨.bl (g i j),H,I,rfl,q⟩
def tH(i j:Int):Prop:=0<j/\j<1073741824
def A2(i j:Int):Prop:=0<=j/\j<=1000000/\i.natAbs<2 ^ 64
def qz(i j:Int):Prop:=(-(2 ^ 64)<i/\i<2 ^ 64)\/(-(2 ^ 64)<j/\j<2 ^ 64)
theorem qz.ok{i j:Int}(h:qz i j):IntMulOk i j:=by
 rcases h with⟨h1,h2⟩|⟨h1,h2⟩
 ·exact .of_left (Aw h1 h2)
 ·exact .of_right (Aw h1 h2)
theorem Er(k:Nat):(0:Int)<=2 ^ k:=by
 rw[two_pow_cast];exact Int.natCast_nonneg _
theorem OF:iB X (fO .Add) (zh fun i j=>.int (i+j)):=OE fun _ _ _ _ _ _ _ q=>add_int q
theorem OG:iB X (fO .Sub) (zh fun i j=>.int (i-j)):=OE fun _ _ _ _ _ _ _ q=>sub_int q
theorem OH:iB X (fO .Mult) (rI qz fun i j=>.int (i*j)):=F_ fun _ _ _ _ _ _ _ hc q=>mul_int q hc.ok
theorem ME:iB X (fO .FloorDiv) (rI tH fun i j=>.int (i / j)):=F_ fun i j _ _ _ _ _ hc q=>by
 have h1:(0:Int)<j:=hc.1;have h2:j<1073741824:=hc.2;exact floordiv_int (by omega) (by rw[nN i (by omega)];exact q) (.inl (De (by omega)))
theorem OI:iB X (fO .Mod) (rI (fun _ j=>0<j) fun i j=>.int (i%j)):=F_ fun i j _ _ _ _ _ hc q=>by
 have h1:(0:Int)<j:=hc;exact mod_int' (by omega) (by rw[Int.fmod_eq_emod_of_nonneg i (by omega)];exact q)
theorem OJ:iB X (fO .Pow) (rI A2 fun i j=>.int (i ^ j.toNat)):=F_ fun _ _ _ _ _ _ _ hc q=>pow_int_small hc.1 hc.2.1 hc.2.2 q
theorem OL:iB X (fO .RShift) (rI (fun _ j=>0<=j) fun i j=>.int (i / 2 ^ j.toNat)):=F_ fun i j _ _ _ _ _ hc q=>
 rshift_int hc (by rw[nN i (Er _)];exact q)
theorem unI{f:Value->Sem Value}{g:Int->Int}
  (rule:∀(i:Int) (t:Tok) (s:ah) (Q:Value->ah->Prop) (E:Value->ah->Prop),Q (.int (g i) s.toks) { s with toks:=s.toks+1 }->aq (az X.prog X.w) X.A (f (.int i t)) Q E s) :
  RW X f (rU fun i=>.int (g i)):=by
 intro pins s O H x v Q I rx h;obtain⟨i,rfl,q⟩:=h;obtain⟨t,rfl⟩:=rx;exact rule i t s _ _ ⟨.int (g i),H,I.tok _,⟨_,rfl⟩,q⟩
theorem OM:RW X (unaryOp .USub) (rU fun i=>.int (-i)):=unI fun _ _ _ _ _ q=>neg_int q
end
variable{us:List Value}
section
variable{X:Cx}{a b c:Expr}{ta tb tc:TE}{pos:Pos}
theorem w_{Q:VK}{k k':Bool}(I:Inv X pins O H s)(q:Q (.bl k) H)(e:k=k'):EP X pins O Q (.bool k') s:=by
 subst e;exact⟨.bl k,H,I,rfl,q⟩
theorem Q3:iB X (fj .Lt) (zh fun i j=>.bl (decide (i<j))):=Ep fun _ _ _ _ _ _ _ q=>lt_int q
theorem Q4:iB X (fj .LtE) (zh fun i j=>.bl (decide (i<=j))):=Ep fun _ _ _ _ _ _ _ q=>le_int q
theorem Q5:iB X (fj .Gt) (zh fun i j=>.bl (decide (j<i))):=Ep fun _ _ _ _ _ _ _ q=>gt_int q
theorem Q6:iB X (fj .GtE) (zh fun i j=>.bl (decide (j<=i))):=Ep fun _ _ _ _ _ _ _ q=>ge_int q
theorem Ga:iB X (fj .Lt) (fun x y H Q=>∃i j,x=.str i/\y=.str j/\Q (.bl (decide (i.cps.toList<j.cps.toList))) H):=by
 intro pins s O H x y v u Q I rx ry h;obtain⟨i,j,rfl,rfl,q⟩:=h;obtain⟨t,rfl⟩:=rx;obtain⟨t',rfl⟩:=ry;exact lt_str (w_ I q rfl)
theorem ON:iB X (fj .Is) (fun x y H Q=>y=.non/\Q (.bl (decide (x=.non))) H):=by
 intro pins s O H x y v u Q I rx ry h;obtain⟨rfl,q⟩:=h;cases ry;refine is_none_gen (w_ I q ?_);cases x<;>first
  |(cases rx;rfl)
  |(obtain⟨t,rfl⟩:=rx;rfl)
theorem MF:iB X (fj .IsNot) (fun x y H Q=>y=.non/\Q (.bl (!decide (x=.non))) H):=by
 intro pins s O H x y v u Q I rx ry h;obtain⟨rfl,q⟩:=h;cases ry;refine isnot_none_gen (w_ I q ?_);cases x<;>first
  |(cases rx;rfl)
  |(obtain⟨t,rfl⟩:=rx;rfl)
theorem MG{op:qo}(ho:iB X (fj op) r)(ha:PE X a ta)(hb:PE X b tb)(hm:sY op b=false):PE X (.Compare a [op] [b] pos) (OD r ta tb):=by
 intro pins s O H Q I h;exact wpAny_Compare1 (Jl ha hb I h fun v u s2 x y H2 I2 rx ry q=>ho pins s2 O H2 x y v u Q I2 rx ry q) hm
def Sl(K:PySem.W.Frag)(x:V)(H:Hp)(k:Bool):Prop:=
 match x with
 |.non=>k=false
 |.bl b=>k=b
 |.int i=>k=(i != 0)
 |.str y=>y.length<=ai/\k=((y.length:Int) != 0)
 |.byt y=>y.size<=ai/\k=((y.size:Int) != 0)
 |.ref p=>(∃xs,fy K H p xs/\k=!xs.isEmpty)\/(∃xs,jF K H p xs/\k=!xs.isEmpty)\/∃kvs,H p=some (.dK kvs)/\k=!kvs.isEmpty
 |_=>False
theorem Es{κ:Type}{kvs:List (κ×V)}{vs:List (κ×Value)}(r:KV kvs vs):(!vs.isEmpty)=!kvs.isEmpty:=by
 cases r<;>rfl
theorem xg{xs:List V}{its:List Value}(r:bh xs its):(!its.toArray.isEmpty)=!xs.isEmpty:=by
 cases r<;>simp
theorem oU:(ai:Nat)<2 ^ 63:=by rw[cD];decide
theorem OO:OC X (fun x H Q=>∃k,Sl X.K x H k/\Q k H):=by
 intro pins s O H x v Q I rx h;obtain⟨k,e,q⟩:=h;have hl:=oU;have hs:ai=16777216:=cD;cases x with
 |non=>
  cases rx;have e':k=false:=e;subst e';exact truthy_none ⟨H,I,q⟩
 |bl b=>
  cases rx;have e':k=b:=e;subst e';exact dX ⟨H,I,q⟩
 |int i=>
  obtain⟨t,rfl⟩:=rx;have e':k=(i != 0):=e;subst e';exact PySem.P.truthy_int ⟨H,I,q⟩
 |str y=>
  obtain⟨t,rfl⟩:=rx;obtain⟨hy,e'⟩:y.length<=ai/\k=((y.length:Int) != 0):=e;subst e';exact PySem.P.truthy_str (by omega) ⟨H,I.tok _,q⟩
 |byt y=>
  obtain⟨t,rfl⟩:=rx;obtain⟨hy,e'⟩:y.size<=ai/\k=((y.size:Int) != 0):=e;subst e';exact PySem.W.truthy_bytes (by omega) ⟨H,I.tok _,q⟩
 |ref p=>
  cases rx;have e':(∃xs,fy X.K H p xs/\k=!xs.isEmpty)\/(∃xs,jF X.K H p xs/\k=!xs.isEmpty)\/∃kvs,H p=some (.dK kvs)/\k=!kvs.isEmpty:=e;rcases e' with⟨xs,hx,e'⟩|⟨xs,hx,e'⟩|⟨kvs,hx,e'⟩
  ·subst e';obtain⟨its,r,pl,hz⟩:=I.list hx;have hlen:=r.length;exact wpAny_truthy_list pl.isList (by simp only[aL];omega) ⟨H,I.tok _,by rw[xg r];exact q⟩
  ·subst e';obtain⟨its,r,pl,hz⟩:=I.tuple hx;have hlen:=r.length;exact truthy_tuple pl (by simp only[aL];omega) ⟨H,I.tok _,by rw[xg r];exact q⟩
  ·subst e';obtain⟨hz,hS,vs,r,m⟩:kvs.length<=ai/\(p==jo)=false/\∃vs,KV kvs vs/\s.heap.DictOf (fZ X.prog X.w) p vs:=I.hok p _ hx;have hlen:kvs.length=vs.length:=Paired.length r;exact wpAny_truthy_dict hS m (by omega) ⟨H,I.tok _,by rw[Es r];exact q⟩
 |_=>exact(show False from e).elim
theorem Et:iB X (fO .Add) (fun x y H Q=>∃i j,x=.str i/\y=.str j/\i.length+j.length<=ai/\Q (.str (i++j)) H):=by
 intro pins s O H x y v u Q I rx ry h;obtain⟨i,j,rfl,rfl,hz,q⟩:=h;obtain⟨t,rfl⟩:=rx;obtain⟨t',rfl⟩:=ry;exact add_str (fun t' tk=>⟨.str (i++j),H,I.tok _,⟨_,rfl⟩,q⟩) hz
theorem vals1{x:V}(r:bh [x] us):∃u,us=[u]/\RelV x u:=by
 cases r with
 |cons r1 r2=>cases r2;exact⟨_,rfl,r1⟩
theorem vals2{x y:V}(r:bh [x,y] us):∃u w',us=[u,w']/\RelV x u/\RelV y w':=by
 cases r with
 |cons r1 r2=>
  cases r2 with
  |cons r3 r4=>cases r4;exact⟨_,_,rfl,r1,r3⟩
theorem Gb(hc:X.calm=true):jG X (.builtin "max") (fun xs H Q=>∃i j,xs=[.int i,.int j]/\Q (.int (if j>i then j else i)) H):=by
 intro pins s O H xs us Q I r h;obtain⟨i,j,rfl,q⟩:=h;obtain⟨u,w',rfl,⟨t,rfl⟩,⟨t',rfl⟩⟩:=vals2 r;refine max_two_ints (I.ok.hd hc) fun h' tk k=>⟨_,H,I.kept k,?_,q⟩;by_cases hj:j>i
 ·rw[if_pos hj,if_pos hj];exact⟨_,rfl⟩
 ·rw[if_neg hj,if_neg hj];exact⟨_,rfl⟩
theorem zj:jG X (.type "int") (fun xs H Q=>(∃i,xs=[.int i]/\Q (.int i) H)\/∃k,xs=[.bl k]/\Q (.int (if k then 1 else 0)) H):=by
 intro pins s O H xs us Q I r h;rcases h with⟨i,rfl,q⟩|⟨k,rfl,q⟩
 ·obtain⟨u,rfl,t,rfl⟩:=vals1 r;exact call_int_int ⟨.int i,H,I,⟨_,rfl⟩,q⟩
 ·obtain⟨u,rfl,r1⟩:=vals1 r;cases r1;exact call_int_bool ⟨.int (if k then 1 else 0),H,I.tok _,⟨_,rfl⟩,q⟩
theorem A3:jG X (.type "str") (fun xs H Q=>∃i,xs=[.int i]/\i.natAbs.log2<1920/\Q (.str (toString i)) H):=by
 intro pins s O H xs us Q I r h;obtain⟨i,rfl,hz,q⟩:=h;obtain⟨u,rfl,t,rfl⟩:=vals1 r;exact PySem.P.str_of_int hz ⟨.str _,H,I.tok _,⟨_,rfl⟩,q⟩
end
end L2
namespace L2
open PySem PySem.Spec PyProof.Rows
structure Eu (h:Heap) (x dx C:Addr) (mA:Str->Option Value):Prop where
 obj:h.get? x=some (PySem.W.instObj C dx)
 ns:h.Ns1 dx mA
 ne:dx≠x
variable{h:Heap}{dx:Addr}{mA:Str->Option Value}
theorem nu(n:h.Ns1 dx mA):∃od,h.get? dx=some od/\∀name,PySem.W.lookIn name od=some (mA name):=by
 obtain⟨o,es,ep,ho,hd,hk,_,hm⟩:=n;refine⟨o,ho,fun name=>?_⟩;have e:=hm name;unfold yc findBy at e;rw[<-Array.find?_toList]at e;unfold PySem.W.lookIn;rw[hd];dsimp only;split
 ·rename_i y q;rw[q]at e;exact congrArg some e
 ·rename_i q;rw[q]at e;have a:es.toList.any (·.refKey)=false:=by
   rw[vh];intro y hy;obtain⟨z,t,hkey⟩:=hk y (Array.mem_toList_iff.mp hy);simp[LI,hkey]
  have a':¬es.toList.any (·.refKey)=true:=by rw[a];exact aE
  rw[if_neg a'];exact congrArg some e
variable{C:Addr}
theorem Eu.look{x:Addr}(I:Eu h x dx C mA):∃od,PySem.W.InstAt h x (PySem.W.instObj C dx) C (some od)/\∀name,PySem.W.lookIn name od=some (mA name):=
 let⟨od,ho,hl⟩:=nu I.ns
 ⟨od,⟨I.obj,rfl,rfl,ho⟩,hl⟩
variable{Q:Value->ah->Prop}
section
variable{prog:a_}{w:bC}{A:bU}{E:Value->ah->Prop}{s:ah}{K:PySem.W.Frag}{x dx C f:Addr}{mA:Str->Option Value}{name:Str}{v:Value}
theorem Gc{expr:Bool}{a:Value}(X:K.In s.heap)(I:Eu s.heap x dx C mA)(hg:PySem.W.plainGet K C name=true)(hh:PySem.W.hasDictIn K C=true)
  (ha:PySem.W.findIn K (.ref C) name=some (some a)) (hn:PySem.W.specialIn K a "__get__"=some none) (hc:PySem.W.copiedNames.contains name=false) (hv:mA name=none) (hv':PySem.W.handedIn a=true)
  (h:Q a { s with toks:=s.toks+1 }):aq (az prog w) A (rB (.ref x) name expr) Q E s:=by
 obtain⟨od,J,hl⟩:=I.look;exact PySem.W.get_value X J (PySem.W.plainGet_of hg).1 (PySem.W.findObj_cls hh ha hn hv' hc (by rw[hl,hv])) hv' h
end
noncomputable def gu(f:Str)(v:V):List (Str×V)->List (Str×V)
|[]=>[(f,v)]
|(g,x)::r=>if g=f then(g,v)::r else(g,x)::gu f v r
theorem m9(f g:Str)(v:V):∀fs:List (Str×V),(gu f v fs).lookup g=if g=f then some v else fs.lookup g
|[]=>by
 show iR g [(f,v)]=_;by_cases h:g=f
 ·have hb:(g==f)=true:=beq_iff_eq.mpr h;simp only[iR,hb,if_pos h]
 ·have hb:(g==f)=false:=beq_eq_false_iff_ne.mpr h;simp only[iR,hb,if_neg h]
|(k,x)::r=>by
 have ih:=m9 f g v r;rw[show gu f v ((k,x)::r)=(if k=f then(k,v)::r else(k,x)::gu f v r)from rfl];by_cases hk:k=f
 ·rw[if_pos hk];by_cases h:g=k
  ·have hb:(g==k)=true:=beq_iff_eq.mpr h;simp only[iR,hb,if_pos (h.trans hk)]
  ·have hb:(g==k)=false:=beq_eq_false_iff_ne.mpr h;simp only[iR,hb,if_neg (fun e:g=f=>h (e.trans hk.symm))]
 ·rw[if_neg hk];by_cases h:g=k
  ·have hb:(g==k)=true:=beq_iff_eq.mpr h;simp only[iR,hb,if_neg (fun e:g=f=>hk (h.symm.trans e))]
  ·have hb:(g==k)=false:=beq_eq_false_iff_ne.mpr h;simp only[iR,hb];exact ih
theorem qB(f:Str)(v:V):∀fs:List (Str×V),(gu f v fs).length<=fs.length+1
|[]=>by simp[gu]
|(k,x)::r=>by
 have ih:=qB f v r;rw[show gu f v ((k,x)::r)=(if k=f then(k,v)::r else(k,x)::gu f v r)from rfl];by_cases hk:k=f
 ·rw[if_pos hk,bP,bP];omega
 ·rw[if_neg hk,bP,bP];omega
variable{o:Option Value}
theorem jP.some_of{v:V}(r:jP (some v) o):∃u,o=some u/\RelV v u:=by
 cases o with
 |none=>exact(show False from r).elim
 |some u=>exact⟨u,rfl,r⟩
theorem jP.none_of(r:jP none o):o=none:=by
 cases o with
 |none=>rfl
 |some u=>exact(show False from r).elim
variable{u:Value}
theorem zl{v:V}(r:RelV v u):PySem.W.handedIn u=true:=by
 cases v with
 |non=>cases(show u=bg from r);rfl
 |bl b=>cases(show u=oB b from r);rfl
 |int i=>obtain⟨t,e⟩:=(show ∃t,u=jW i t from r);cases e;rfl
 |str x=>obtain⟨t,e⟩:=(show ∃t,u=nE x t from r);cases e;rfl
 |byt b=>obtain⟨t,e⟩:=(show ∃t,u=C_ b t from r);cases e;rfl
 |flt b=>obtain⟨t,e⟩:=(show ∃t,u=vV b t from r);cases e;rfl
 |ref a=>cases(show u=aN a from r);rfl
 |ty n=>cases(show u=Value.type n from r);rfl
section
variable{P:a_}{w:bC}{H H':Hp}{h h':Heap}{a C dx:Addr}{fs fs':List (Str×V)}
theorem Dt(hok:d9 P w H h)(e:H a=some (.ins C dx fs)):∃mA,Eu h a dx C mA/\(∀f,jP (fs.lookup f) (mA f))/\PySem.Within mA (fs.map (·.1))/\fs.length<=1000/\H dx=some (.own a):=by
 obtain⟨d,z,ne,ob,mA,n,r,q⟩:=(show cU P w H h a (.ins C dx fs)from hok a _ e);exact⟨mA,⟨ob,n,ne⟩,r,q,z,d⟩
end
structure Gd (K:PySem.W.Frag) (C:Addr):Prop where
 pg:PySem.W.plainGet K C Ah=true
 hd:PySem.W.hasDictIn K C=true
 po:PySem.W.plainOver K C=true
 sa:PySem.W.findIn K (.ref C) "__setattr__"=some (some (.builtin "object.__setattr__"))
theorem Gd.get{K:PySem.W.Frag}(c:Gd K C)(f:Str):PySem.W.plainGet K C f=true:=c.pg
def iC(K:PySem.W.Frag)(C:Addr)(f:Str):Prop:=PySem.W.findIn K (.ref C) f=some none
structure RX (K:PySem.W.Frag) (C:Addr) (f:Str) (v:V) (u:Value):Prop where
 at_:PySem.W.findIn K (.ref C) f=some (some u)
 rel:RelV v u
 get:PySem.W.specialIn K u "__get__"=some none
 cp:PySem.W.copiedNames.contains f=false
section
variable{X:Cx}{pins:List (Addr×Obj)}{O:St}{H:Hp}{s:ah}{a C dx:Addr}{fs:List (Str×V)}{f:Str}{v:V}{A:bU}{E:Value->ah->Prop}
theorem Ge{b:Bool}(I:Inv X pins O H s)(e:H a=some (.ins C dx fs))(c:Gd X.K C)(k:RX X.K C f v u)(l:fs.lookup f=none)
  (h:∀s',Inv X pins O H s'->Q u s'):aq (az X.prog X.w) A (rB (.ref a) f b) Q E s:=by
 obtain⟨mA,Tq,r,_,_,_⟩:=Dt I.hok e;have hn:mA f=none:=jP.none_of (by rw[<-l];exact r f);exact Gc I.dR Tq (c.get f) c.hd k.at_ k.get k.cp hn (zl k.rel) (h _ (I.tok _))
theorem Dv{prog:a_}{w:bC}{env:Env}{e:Expr}{pos:Pos}(hb:nO e f env (eval e env)=eval e env)
  (h:aq (az prog w) A (eval e env) (fun o TJ=>aq (az prog w) A (rB o f true) Q E TJ) E s):aq (az prog w) A (eval (.Attribute e f pos) env) Q E s:=
 Attribute_any_ h (by rw[arm_eval_Attribute,hb])
end
def Sm(K:PySem.W.Frag)(ta:TE)(f:Str):TE:=fun O H Q=>ta O H fun x H1=>∃a C dx fs v u,x=.ref a/\H1 a=some (.ins C dx fs)/\Gd K C/\RX K C f v u/\fs.lookup f=none/\Q v H1
section
variable{X:Cx}{o e value:Expr}{f:Str}{pos pos' tpos:Pos}{ta tv:TE}
theorem Gf(he:PE X e ta)(hb:nO e f X.env (eval e X.env)=eval e X.env):PE X (.Attribute e f pos) (Sm X.K ta f):=by
 intro pins s O H Q I h;refine Dv hb (aY (he pins s O H _ I h) fun u s1 ⟨x,H1,I1,rx,a,C,dx,fs,v,u0,ex,ea,c,k,l,q⟩=>?_);subst ex;obtain rfl:u=aN a:=rx;exact Ge I1 ea c k l fun s2 I2=>⟨v,H1,I2,k.rel,q⟩
end
section
variable{X:Cx}{pins:List (Addr×Obj)}{O:St}{H:Hp}{s:ah}{A:bU}{E:Value->ah->Prop}{Q:Value->ah->Prop}{c:Value}{b:Bool}
inductive mQ (K:PySem.W.Frag) (H:Hp):V->Value->Prop where
|non:mQ K H .non (.type "NoneType")
|bl (x:Bool):mQ K H (.bl x) (.type "bool")
|int (i:Int):mQ K H (.int i) (.type "int")
|str (x:Str):mQ K H (.str x) (.type "str")
|flt (x:UInt64):mQ K H (.flt x) (.type "float")
|lst {a:Addr}{xs:List V} (e:H a=some (.lst xs)):mQ K H (.ref a) (.type "list")
|bG {a:Addr}{o:Obj}{xs:List V} (e:H a=some (.bG o (.lst xs))):mQ K H (.ref a) (.type "list")
|tup {a:Addr}{xs:List V} (e:H a=some (.tup xs)):mQ K H (.ref a) (.type "tuple")
|dK {a:Addr}{kvs:List (Key×V)} (e:H a=some (.dK kvs)):mQ K H (.ref a) (.type "dict")
|dT {a:Addr}{kvs:List (List Key×V)} (e:H a=some (.dT kvs)):mQ K H (.ref a) (.type "dict")
|ins {a C dx:Addr}{fs:List (Str×V)} (e:H a=some (.ins C dx fs)) (cl:Gd K C) (ha:PySem.W.findIn K (.ref C) "__class__"=some (some (.builtin "object.__class__")))
  (hn:PySem.W.specialIn K (.builtin "object.__class__") "__get__"=some (some (.builtin "getset_descriptor.__get__"))) (htk:PySem.W.takesIn K (.builtin "object.__class__")=some true)
  (hm:PySem.W.mroIn K C (.type "object")=some true):mQ K H (.ref a) (.ref C)
theorem Gg{x:V}{t:Value}(I:Inv X pins O H s)(rx:RelV x u)(ty:mQ X.K H x t)(e:PySem.W.kitOne X.K t c=some b)(h:∀tk,Q (.bool b) { s with toks:=tk }) :
  aq (az X.prog X.w) A (call (.builtin "isinstance") [u,c]) Q E s:=by
 cases ty with
 |non=>cases(show u=bg from rx);exact PySem.W.kia_one PySem.W.kitx_none I.dR cu e (fun z=>nomatch z) h
 |bl y=>cases(show u=oB y from rx);exact PySem.W.kia_one PySem.W.kitx_bool I.dR cu e (fun z=>nomatch z) h
 |int i=>obtain⟨t,q⟩:=(show ∃t,u=jW i t from rx);cases q;exact PySem.W.kia_one PySem.W.kitx_int I.dR cu e (fun z=>nomatch z) h
 |str y=>obtain⟨t,q⟩:=(show ∃t,u=nE y t from rx);cases q;exact PySem.W.kia_one PySem.W.kitx_str I.dR cu e (fun z=>nomatch z) h
 |flt y=>obtain⟨t,q⟩:=(show ∃t,u=vV y t from rx);cases q;exact PySem.W.kia_one PySem.W.kitx_float I.dR cu e (fun z=>nomatch z) h
 |@lst a xs ea=>
  cases(show u=aN a from rx);obtain⟨_,_,n,_,h1⟩:=(show cU X.prog X.w H s.heap a (.lst xs)from I.hok a _ ea);exact PySem.W.kia_one PySem.W.kitx_list I.dR ⟨_,h1,rfl⟩ e (fun z=>nomatch z) h
 |@bG a ob xs ea=>
  cases(show u=aN a from rx);obtain⟨_,_,_,n,_,h1⟩:=(show cU X.prog X.w H s.heap a (.bG ob (.lst xs))from I.hok a _ ea);exact PySem.W.kia_one PySem.W.kitx_list I.dR ⟨_,h1,rfl⟩ e (fun z=>nomatch z) h
 |@tup a xs ea=>
  cases(show u=aN a from rx);obtain⟨_,_,_,p⟩:=(show cU X.prog X.w H s.heap a (.tup xs)from I.hok a _ ea);obtain⟨o,h1,h2,_⟩:=p;exact PySem.W.kia_one PySem.W.kitx_tuple I.dR ⟨o,h1,h2⟩ e (fun z=>nomatch z) h
 |@dK a kvs ea=>
  cases(show u=aN a from rx);obtain⟨_,_,vs,_,p⟩:=(show cU X.prog X.w H s.heap a (.dK kvs)from I.hok a _ ea);obtain⟨o,es,ep,h1,h2,_⟩:=p;exact PySem.W.kia_one PySem.W.kitx_dict I.dR ⟨o,h1,h2.1⟩ e (fun z=>nomatch z) h
 |@dT a kvs ea=>
  cases(show u=aN a from rx);obtain⟨_,_,xs,_,o,es,ep,h1,h2,_⟩:=(show cU X.prog X.w H s.heap a (.dT kvs)from I.hok a _ ea);exact PySem.W.kia_one PySem.W.kitx_dict I.dR ⟨o,h1,h2.1⟩ e (fun z=>nomatch z) h
 |@ins a C dx fs ea cl ha hn htk hm=>
  cases(show u=aN a from rx);obtain⟨mA,Tq,_⟩:=Dt I.hok ea;obtain⟨od,J,_⟩:=Tq.look;exact PySem.W.kia_one (PySem.W.kitx_own (cl.get _) cl.hd ha hn htk hm) I.dR J e (fun z=>nomatch z) h
end
end L2
namespace L2
open PySem PySem.Spec PyProof.Rows
structure eW (k:Nat) (A:bU):Prop where
 hd:A.handled=none
 dp:A.depth+3*k+5<za
 un:A.units+16*k+200<c_
variable{j k:Nat}{A:bU}
theorem eW.mono(r:eW k A)(h:j<=k):eW j A:=⟨r.hd,by have:=r.dp;omega,by have:=r.un;omega⟩
theorem eW.deeper(r:eW (k+1) A)(env:Env):eW k (A.deeper env):=
 ⟨r.hd,by have:=r.dp;show A.depth+1+3*k+5<_;omega,by have:=r.un;show A.units+3+16*k+200<_;omega⟩
variable{C:Addr}{us:List Value}{kw:List (Str×Value)}
theorem Ew:(A.under (.builtin "type.__call__" ⟨.ref C::us,kw⟩)).depth=A.depth+1:=by
 first|rfl|simp[uD,Code.weight,Code.isCreation,Code.isGuard,Code.isCaller,Df,uE,guardIds]
theorem Ey:(A.under (.builtin "type.__call__" ⟨.ref C::us,kw⟩)).units=A.units+1:=by
 first|rfl|simp[uD,Code.cUnits,Df,uE]
theorem eW.make(r:eW (k+1) A)(C:Addr)(us:List Value)(kw:List (Str×Value)):eW k (A.under (.builtin "type.__call__" ⟨.ref C::us,kw⟩)):=
 ⟨r.hd,by have:=r.dp;rw[Ew];omega,by have:=r.un;rw[Ey];omega⟩
theorem eW.depth(r:eW k A):A.depth<za:=by have:=r.dp;omega
def OP:TA:=fun _ H Q=>Q [] H
def Q7(ta:TE)(tr:TA):TA:=fun O H Q=>ta O H fun x H1=>tr O H1 fun xs H2=>Q (x::xs) H2
section
variable{X:Cx}{e:Expr}{es:List Expr}{te:TE}{t:TA}{pos:Pos}
theorem A4:PA X [] OP:=fun _ _ _ _ H Q I h=>fS ⟨[],H,I,.nil,h⟩
theorem ym(ha:PE X e te)(hr:PA X es t)(hs:cy (e::es) X.env=(false,eval e X.env)::cy es X.env:=by rfl):PA X (e::es) (Q7 te t):=by
 intro pos pins s O H Q I h;rw[hs];show aq _ _ (oO ((false,eval e X.env)::kO pos (cy es X.env))) _ _ s;refine cz (aY (ha pins s O H _ I h) fun u s1 ⟨x,H1,I1,r1,q1⟩=>?_);exact aY (hr pos pins s1 O H1 _ I1 q1) fun us s2 ⟨xs,H2,I2,r2,q2⟩=>⟨x::xs,H2,I2,.cons r1 r2,q2⟩
def Sn(t:TA):TE:=fun O H Q=>t O H fun xs H1=>xs.length<=ai/\∀p,H1 p=none->Q (.ref p) (upd H1 p (.tup xs))
def So(t:TA):TE:=fun O H Q=>t O H fun xs H1=>xs.length<=ai/\∀p,H1 p=none->Q (.ref p) (upd H1 p (.lst xs))
theorem OQ{x1}(h:PA X es t):PE X (.Tuple es x1 pos) (Sn t):=by
 intro pins s O H Q I hq;refine mL (aY (h pos pins s O H _ I hq) fun us s1 ⟨xs,H1,I1,r,z,q⟩=>⟨by rw[<-r.length];exact z,?_⟩);have hf:H1 s1.heap.objs.size=none:=I1.hok.fresh (aT _);refine⟨.ref s1.heap.objs.size,upd H1 s1.heap.objs.size (.tup xs),I1.laid (t':=s1.toks) (fun b u e=>aj _ e) (aT _) ?_,rfl,q _ hf⟩;exact⟨z,us,r,⟨_,aO _ rfl,rfl,_,rfl⟩⟩
theorem OR(h:PA X es t):PE X (.List es pos) (So t):=by
 intro pins s O H Q I hq;refine wpAny_List_spliced (aY (h pos pins s O H _ I hq) fun us s1 ⟨xs,H1,I1,r,z,q⟩=>⟨by rw[<-r.length];exact z,?_⟩);have hf:H1 s1.heap.objs.size=none:=I1.hok.fresh (aT _);refine⟨.ref s1.heap.objs.size,upd H1 s1.heap.objs.size (.lst xs),I1.laid (t':=s1.toks) (fun b u e=>aj _ e) (aT _) ?_,rfl,q _ hf⟩;exact⟨z,us,0,r,aO _ rfl⟩
end
noncomputable abbrev Sp:=List V->Hp->VK->XK->Prop
noncomputable abbrev vA:=List Env->Hp->ah->XK->Value->ah->Prop
structure tK (P:a_) (w:bC) (K:PySem.W.Frag) (mg:Str->Option Value) (base:Heap) (A:bU) (outer:List Env) (s:ah) (H:Hp):Prop where
 frames:A.frames=some outer
 mod:Mod K mg base
 bs:∀b o,base.get? b=some o->s.heap.get? b=some o/\H b=none
 bsz:base.objs.size<=s.heap.objs.size
 kG:s.heap.FunFrames base outer
 frf:∀b∈frs outer,H b=none
 hok:d9 P w H s.heap
 bare:jy s.gens
def CE(outer:List Env)(P:a_)(w:bC)(H:Hp)(s:ah)(Q:VK)(u:Value)(s':ah):Prop:=
 ∃v H',s'.os=s.os/\jy s'.gens/\Un (frs outer) [] H H' s.heap s'.heap/\d9 P w H' s'.heap/\RelV v u/\Q v H'
def CR(CX:vA)(outer:List Env)(P:a_)(w:bC)(H:Hp)(s:ah)(Q:VK)(E:XK)(r:Ct)(s':ah):Prop:=
 match r with
 |.ok (.ret u)=>CE outer P w H s Q u s'
 |.ok _=>False
 |.error e=>CX outer H s E e s'
structure eO (P:a_) (w:bC) (K:PySem.W.Frag) (mg:Str->Option Value) (base:Heap) (CX:vA) (k:Nat) (f:Addr) (fd:dD) (ps:List Str) (sp:Sp):Prop where
 len:∀vs H Q E,sp vs H Q E->vs.length=ps.length
 run:∀(A:bU) (outer:List Env) (s:ah) (H:Hp) (args:Args) (us:List Value) (vs:List V) (Q:VK) (E:XK),eW k A->tK P w K mg base A outer s H->u_ s fd args (ps.zip us)->bh vs us->sp vs H Q E->
  jc (az P w) A (.call (.ref f) args) (CR CX outer P w H s Q E) s
variable{P:a_}{w:bC}{K:PySem.W.Frag}{mg:Str->Option Value}{base:Heap}{CX:vA}{f:Addr}{fd:dD}{ps:List Str}{sp:Sp}
theorem eO.mono(F:eO P w K mg base CX j f fd ps sp)(h:j<=k) :
  eO P w K mg base CX k f fd ps sp:=⟨F.len,fun A outer s H args us vs Q E hr=>F.run A outer s H args us vs Q E (hr.mono h)⟩
theorem eO.imp{sp':Sp}(F:eO P w K mg base CX k f fd ps sp)
  (h:∀vs H Q E,sp' vs H Q E->sp vs H Q E):eO P w K mg base CX k f fd ps sp':=
 ⟨fun vs H Q E q=>F.len vs H Q E (h _ _ _ _ q),fun A outer s H args us vs Q E hr he hb hv hs=>F.run A outer s H args us vs Q E hr he hb hv (h _ _ _ _ hs)⟩
variable{outer:List Env}{s:ah}{H:Hp}
theorem tK.make(e:tK P w K mg base A outer s H)(C:Addr)(us:List Value)(kw:List (Str×Value)) :
  tK P w K mg base (A.under (.builtin "type.__call__" ⟨.ref C::us,kw⟩)) outer s H:=⟨by first|exact e.frames|(simpa[uD,Code.envs,uE,pushEnvs]using e.frames),e.mod,e.bs,e.bsz,e.kG,e.frf,e.hok,e.bare⟩
variable{Q:VK}
section
variable{X:Cx}{pins:List (Addr×Obj)}{O:St}{H:Hp}{s s':ah}
theorem Inv.Ez(I:Inv X pins O H s):tK X.prog X.w X.K X.mg X.base X.A X.stack s H:=
 ⟨I.ok.frames,I.ok.mod,I.bs,c9 I.ok.bsz I.sz,I.stack,I.uQ,I.hok,I.bare⟩
theorem Inv.after{u:Value}(I:Inv X pins O H s)(h:CE X.stack X.prog X.w H s Q u s'):EP X pins O Q u s':=by
 obtain⟨v,H',os,bare,un,hok,r,q⟩:=h;obtain⟨hh,g,d,t,os'⟩:=s';obtain rfl:os'=s.os:=os;exact⟨v,H',I.call (h':=hh) (g':=g) (d':=d) (t':=t) (ch:=[]) un hok bare (fun b z=>absurd z (by simp)),r,q⟩
end
def LM(sp:Sp)(dvs:List V)(E:XK)(t:TA):TE:=fun O H Q=>t O H fun vs H1=>sp (vs++dvs) H1 Q E
def Binds(K:PySem.W.Frag)(fd:dD)(ps:List Str)(ds:List Value):Prop:=
 ∀(s:ah) (us:List Value),K.In s.heap->(us++ds).length=ps.length->u_ s fd ⟨us,[]⟩ (ps.zip (us++ds))
theorem Binds.all(h:∀us:List Value,us.length=ps.length->sE fd ⟨us,[]⟩=pure (ps.zip us)):Binds K fd ps []:=fun s us _ hl=>by
 rw[dM]at hl ⊢;exact .of_eq (h us hl)
def tL(CX:vA)(X:Cx)(E:XK):Prop:=∀(pins:List (Addr×Obj)) (O:St) (H:Hp) (s:ah) (e:Value) (s':ah),Inv X pins O H s->CX X.stack H s E e s'->X.xe e s'
variable{vs:List V}
section
variable{X:Cx}{CX:vA}{k:Nat}{f C:Addr}{fd:dD}{ps:List Str}{sp:Sp}{dvs:List V}{ds:List Value}{E:XK}{x m:Str}{p pos apos:Pos}{e o:Expr}{es:List Expr}{ta:TE}{t:TA}
theorem Gh{pins:List (Addr×Obj)}{O:St}(F:eO X.prog X.w X.K X.mg X.base CX k f fd ps sp)(hr:eW k X.A)(hb:Binds X.K fd ps ds)(hd:bh dvs ds)(hx:tL CX X E)
  (I:Inv X pins O H s) (r:bh vs us) (h:sp (vs++dvs) H Q E):aq (az X.prog X.w) X.A (call (.ref f) us) (EP X pins O Q) X.xe s:=by
 have r2:bh (vs++dvs) (us++ds):=r.append hd;have hl:(us++ds).length=ps.length:=by rw[<-r2.length];exact F.len _ _ _ _ h
 refine kq (jd (F.run X.A X.stack s H ⟨us,[]⟩ (us++ds) (vs++dvs) Q E hr I.Ez (hb s us I.dR hl) r2 h) fun r s' hq=>?_);cases r with
 |error e=>exact hx pins O H s e s' I hq
 |ok fl=>
  cases fl with
  |ret u=>exact I.after hq
  |next=>exact ay hq
  |brk=>exact ay hq
  |cont=>exact ay hq
theorem MH(F:eO X.prog X.w X.K X.mg X.base CX k f fd ps sp)(hr:eW k X.A)(hg:Gl X x)(hm:X.mg x=some (.ref f))(hk:PySem.W.keepIn X.K (.ref f)=true)(hb:Binds X.K fd ps ds)(hd:bh dvs ds)(hx:tL CX X E)
  (ha:PA X (e::es) t) (hdb:(x==("__debug__":Str))=false:=by decide) (he:cy (e::es) X.env=(false,eval e X.env)::cy es X.env:=by rfl) (hpl:(kO pos (cy es X.env)).any (·.1)=false:=by rfl) :
  PE X (.Call (.Name x p) (e::es) [] pos) (LM sp dvs E t):=by
 intro pins s O H Q I h;refine dc (lI I hg hm ?_ hdb);refine PySem.W.callWith_K (h₀:=X.base) I.ok.mod.kin hk (aY (ha pos pins s O H _ I h) fun us s1 ⟨vs,H1,I1,r,q⟩=>⟨I1.dR,?_⟩) he hpl;exact Gh F hr hb hd hx I1 r q
theorem Jm(F:eO X.prog X.w X.K X.mg X.base CX k f fd ps sp)(hr:eW k X.A)(hg:Gl X x)(hm:X.mg x=some (.ref f))(hk:PySem.W.keepIn X.K (.ref f)=true)(hb:Binds X.K fd ps ds)(hd:bh dvs ds)(hx:tL CX X E)
  (hdb:(x==("__debug__":Str))=false:=by decide):PE X (.Call (.Name x p) [] [] pos) (LM sp dvs E OP):=by
 intro pins s O H Q I h;refine dc (lI I hg hm ?_ hdb);exact PySem.W.callWith_K0 I.dR hk (Gh (us:=[]) F hr hb hd hx I .nil h)
end
structure iw (N P:List Str) (sc:eU):Prop where
 kind:sc.kind=.function
 co:sc.isCoroutine=false
 gen:sc.isGenerator=false
 nd:N.Nodup
 pre:N.take P.length=P
 par:∀x∈P,sc.names.lookup x=some .local\/sc.names.lookup x=some .cell
 nofree:∀y∈sc.names,y.2≠.free
variable{kindOf:Str->Option g9}{x:Str}
theorem zm:∀{binds:List (Str×Value)}{m:Str->Option Value},(∀v,(x,v)∉binds)->sG kindOf binds m x=m x
|[],_,_=>rfl
|(n,v)::r,m,h=>by
 unfold sG;rw[zm fun w hw=>h w (ao _ hw)];split
 ·have:x≠n:=by rintro rfl;exact h v aG
  simp[this]
 ·rfl
theorem zp:∀{binds:List (Str×Value)}{m:Str->Option Value},(∀v,(x,v)∉binds)->sI kindOf binds m x=m x
|[],_,_=>rfl
|(n,v)::r,m,h=>by
 unfold sI;rw[zp fun w hw=>h w (ao _ hw)];split
 ·rfl
 ·have:x≠n:=by rintro rfl;exact h v aG
  simp[this]
variable{v:Value}
theorem zq:∀{P:List Str}{vs:List Value}{i:Nat}{m:Str->Option Value},P.Nodup->P[i]?=some x->vs[i]?=some v->kindOf x=some .local->
 sG kindOf (P.zip vs) m x=some v
|[],_,_,_,_,h,_,_=>by simp at h
|_::_,[],_,_,_,_,h,_=>by simp at h
|p::P,w::vs,0,m,nd,h1,h2,hk=>by
 simp at h1 h2;subst h1;subst h2;show sG kindOf ((p,w)::P.zip vs) m p=_;unfold sG;rw[zm fun v hv=>(b9.mp nd).1 (l9 hv).1,if_pos hk];simp
|p::P,w::vs,i+1,m,nd,h1,h2,hk=>by
 show sG kindOf ((p,w)::P.zip vs) m x=_;unfold sG;exact zq (i:=i) (b9.mp nd).2 (by simpa using h1) (by simpa using h2) hk
theorem zu:∀{P:List Str}{vs:List Value}{i:Nat}{m:Str->Option Value},P.Nodup->P[i]?=some x->vs[i]?=some v->kindOf x≠some .local->
 sI kindOf (P.zip vs) m x=some v
|[],_,_,_,_,h,_,_=>by simp at h
|_::_,[],_,_,_,_,h,_=>by simp at h
|p::P,w::vs,0,m,nd,h1,h2,hk=>by
 simp at h1 h2;subst h1;subst h2;show sI kindOf ((p,w)::P.zip vs) m p=_;unfold sI;rw[zp fun v hv=>(b9.mp nd).1 (l9 hv).1,if_neg hk];simp
|p::P,w::vs,i+1,m,nd,h1,h2,hk=>by
 show sI kindOf ((p,w)::P.zip vs) m x=_;unfold sI;exact zu (i:=i) (b9.mp nd).2 (by simpa using h1) (by simpa using h2) hk
noncomputable def start(N:List Str)(vs:List V):St:=vs.map some++aW (N.length-vs.length) none
noncomputable def gT(CX:vA)(P:a_)(w:bC)(K:PySem.W.Frag)(mg:Str->Option Value)(base:Heap)(N:List Str)(qual:Str)(scope:eU)(f:Addr)(cd:Value)(A:bU)(outer:List Env)(s:ah)(H:Hp)(E:XK):Cx where
 prog:=P
 w:=w
 K:=K
 mg:=mg
 base:=base
 A:=A.deeper (jv qual scope s.heap.objs.size f cd)
 N:=N
 Tz:=s
 T6:=H
 env:=jv qual scope s.heap.objs.size f cd
 outer:=outer
 stack:=jv qual scope s.heap.objs.size f cd::outer
 ex:=[]
 calm:=true
 fn:=fun _=>true
 pn:=[]
 xe:=fun e s'=>aq (az P w) (A.deeper (jv qual scope s.heap.objs.size f cd)) (Eh (jv qual scope s.heap.objs.size f cd) e) (fun _ s''=>CX outer H s E e s'') (fun e' s''=>CX outer H s E e' s'') s'
theorem A5{sc:eU}{n:Nat}(h:sc.names.lookup x=some .cell):∃c,(dj n sc.names []).lookup x=some c:=by
 have q:=PySem.W.cellsFrom_some sc.names n [] (.inl h);exact Option.isSome_iff_exists.mp q
variable{qual:Str}{scope:eU}
theorem zv{N:List Str}{cd:Value}{s1:ah}{E:XK}
  (S:iw N ps scope) (hd:A.handled=none) (e0:tK P w K mg base A outer s H) (hl:vs.length=ps.length) (r:bh vs us)
  (x:InCallC s s.heap.objs.size (sG (jv qual scope s.heap.objs.size f cd).kindOf (ps.zip us) fun _=>none) (dj (s.heap.objs.size+1) scope.names []) (sI (jv qual scope s.heap.objs.size f cd).kindOf (ps.zip us) fun _=>none) s1) :
  Inv (gT CX P w K mg base N qual scope f cd A outer s H E) [] (start N vs) H s1:=by
 have hpl:ps.length<=N.length:=by have:=congrArg vW S.pre;rw[eB]at this;omega
 obtain⟨h1,tk,rfl,hk⟩:=x.done;have noA:∀b:Addr,b∉(gT CX P w K mg base N qual scope f cd A outer s H E).ex:=fun b z=>absurd (show b∈([]:List Addr)from z) (by simp);refine⟨⟨e0.mod,S.kind,rfl,rfl,aT _,fun y z c h1 h2=>?_,fun y hy=>?_,fun y c _ h=>?_,fun _=>hd,Around.frames_deeper e0.frames,.inr ⟨rfl,rfl⟩,fun b z=>absurd z (noA b),e0.bs,e0.bsz,fun b _ _=>noA b,fun b z=>absurd z (noA b),e0.kG,e0.frf⟩,
  rfl,e0.bare,Un.kept hk,⟨_,x.toInCall.ns,fun i y v h1 h2 h3=>?_⟩,fun y c h=>⟨_,x.cell y c h⟩,e0.hok.fresh (aT _),fun y c h=>?_,fun p hp=>absurd (show p∈([]:List (Addr×Obj))from hp) (by simp),e0.hok.kept hk,?_⟩
 ·exact name_of_addr x.apart (PySem.mem_of_lookup h1) (PySem.mem_of_lookup h2)
 ·have hy:scope.names.lookup y=some .cell\/scope.names.lookup y=some .free:=hy;rcases hy with hy|hy
  ·exact A5 hy
  ·exact absurd rfl (S.nofree _ (PySem.mem_of_lookup hy))
 ·exact gY (x.above y c (PySem.mem_of_lookup h))
 ·have hi:i<vs.length:=by
   unfold start at h2;by_cases hi:i<vs.length
   ·exact hi
   ·rw[cG (by simpa using hi)]at h2;rw[pR]at h2;split at h2<;>cases h2
  have ha:vs[i]?=some v:=by
   unfold start at h2;rw[bW (by simpa using hi),aU]at h2;cases e:vs[i]? with
   |none=>rw[e]at h2;cases h2
   |some a=>rw[e]at h2;cases h2;rfl
  obtain⟨u,hu,rv⟩:=r.get ha;have hp:ps[i]?=some y:=by
   rw[<-S.pre,List.getElem?_take_of_lt (by omega)];exact h1
  have ndP:ps.Nodup:=by rw[<-S.pre];exact S.nd.sublist (List.take_sublist _ _)
  refine⟨u,rv,?_⟩;rcases S.par y (eG hp)with k|k
  ·exact .inl ⟨k,zq ndP hp hu k⟩
  ·obtain⟨c,e⟩:=A5 (n:=s.heap.objs.size+1) k;refine .inr ⟨.inl k,c,e,?_⟩;have q:=x.cell y c e;rw[zu ndP hp hu (by show scope.names.lookup y≠_;rw[k];decide)]at q;exact q
 ·exact e0.hok.fresh (gY (x.above y c (PySem.mem_of_lookup h)))
 ·unfold start;show _=N.length;rw[aR,aC,List.length_replicate];omega
theorem LN{name:Str}{params:Ai}{body:List Stmt}{dV kV doc pm cdv ct oc:Value}{an od:Option Addr}
  {osl:Array (Option Value)}{N ps:List Str}{sp:Sp} (lk:K.lookup f=some ⟨oc,od,.func (PySem.W.fnOf name qual params body scope dV kV doc pm an cdv ct),osl⟩) (hcd:PySem.W.codeIn K cdv qual=true) (S:iw N ps scope)
  (len:∀vs H Q E,sp vs H Q E->vs.length=ps.length)
  (hbody:∀(A:bU) (outer:List Env) (s:ah) (H:Hp) (vs:List V) (Q:VK) (E:XK),eW k (A.deeper (jv qual scope s.heap.objs.size f cdv))->sp vs H Q E->
   ∃t,lR (gT CX P w K mg base N qual scope f cdv A outer s H E) body t/\t { nx:=fun _ H'=>Q .non H',rt:=Q } (start N vs) H) :
  eO P w K mg base CX (k+1) f (PySem.W.fnOf name qual params body scope dV kV doc pm an cdv ct) ps sp:=by
 refine⟨len,fun A outer s H args us vs Q E hr e0 hb r hsp=>?_⟩;have hl:=len _ _ _ _ hsp;have KX:K.In s.heap:=e0.mod.kin.keeps fun b o e=>(e0.bs b o e).1;have lim:s.heap.NoLimit:=e0.mod.nolimit.keeps fun b o e=>(e0.bs b o e).1;have hkind:∀y∈ps.zip us,scope.names.lookup y.1=some .local\/(scope.names.lookup y.1=some .cell/\((dj (s.heap.objs.size+1) scope.names []).lookup y.1).isSome=true):=fun⟨n,v⟩ hy=>by
  rcases S.par n (l9 hy).1 with q|q
  ·exact .inl q
  ·exact .inr ⟨q,PySem.W.cellsFrom_some _ _ _ (.inl q)⟩
 refine rC hr.depth (KX _ _ lk) rfl S.co S.gen rfl (PySem.W.codeRec_of KX hcd) (hb _ _ _ _ ?_);refine nP S.kind hkind fun env he s1 x=>?_;subst he;refine⟨lim.keeps x.toInCall.keep,Cu ?_⟩;obtain⟨t,ht,hq⟩:=hbody A outer s H vs Q E (hr.deeper _) hsp;have I:Inv (gT CX P w K mg base N qual scope f cdv A outer s H E) [] (start N vs) H s1:=zv S hr.hd e0 hl r x;refine cj (ht [] s1 (start N vs) H _ I hq) (fun fl s' hs=>?_) fun e s' hs=>hs;have fin:∀{TF:St}{H':Hp}{v:V}{u:Value},Inv (gT CX P w K mg base N qual scope f cdv A outer s H E) [] TF H' s'->RelV v u->Q v H'->CE outer P w H s Q u s':=
  fun{TF H' v u} J rv q=>⟨v,H',J.os,J.bare,J.base,J.hok,rv,q⟩
 cases fl with
 |ret u=>
  obtain⟨v,TF,H',J,rv,q⟩:=hs;exact fin J rv q
 |next=>
  obtain⟨TF,H',J,q⟩:=hs;exact fin (v:=V.non) (u:=bg) J rfl q
 |brk=>
  obtain⟨_,_,_,q⟩:=hs;exact ay q
 |cont=>
  obtain⟨_,_,_,q⟩:=hs;exact ay q
end L2
end
section
namespace HT
open PySem PyProof.Rows
section
variable{prog:a_}{w:bC}{A:bU}{E:Value->ah->Prop}{s:ah}
theorem MI{t b:Addr}{vs ws:List Value}{Q:Value->ah->Prop}(ht:IsTup s.heap t vs.toArray)(hb:IsTup s.heap b ws.toArray)(hv:vs≠[])
  (h1:ws=[]->Q (.ref t) s) (h2:ws≠[]->Q (.ref s.heap.objs.size) { s with heap:=s.heap.push { cls:=.type "tuple",data:=.seq (vs++ws).toArray } })
  (hsz:vs.length+ws.length<=ai):aq (az prog w) A (fO .Add (.ref t) (.ref b)) Q E s:=by
 obtain⟨⟨cls,dd,data,sl⟩,ho,hc,n,hd⟩:=id ht;obtain⟨⟨cls2,dd2,data2,sl2⟩,ho2,hc2,n2,hd2⟩:=id hb;simp only at hc hd hc2 hd2;subst hc hd hc2 hd2;have e:vs.toArray++ws.toArray=(vs++ws).toArray:=by simp
 by_cases hw:ws=[]
 ·exact Cv ⟨_,ho,rfl⟩ ⟨_,ho2,rfl⟩ wR Ax PySem.F.slot_tuple_add PySem.F.entry_tuple_add (PySem.F.args_tuple_add_2 _ _)
   (tuple_addW1 t b vs.toArray ws.toArray n n2 dd dd2 sl sl2 (by simpa using hv) (by simp[hw])) ⟨ho,ho2,h1 hw⟩
 ·refine Cv ⟨_,ho,rfl⟩ ⟨_,ho2,rfl⟩ wR Ax PySem.F.slot_tuple_add PySem.F.entry_tuple_add (PySem.F.args_tuple_add_2 _ _)
   (tuple_addW2 t b vs.toArray ws.toArray n n2 dd dd2 sl sl2 (by simpa using hv) (by simpa using hw) (by rw[aL,aL];exact hsz)) ⟨ho,ho2,?_⟩
  rw[e];exact h2 hw
noncomputable def iX(n d:Nat):Option Int->Nat
|none=>d
|some v=>if v<0 then(v+(n:Int)).toNat else min v.toNat n
theorem MJ(n d k:Nat):iX n d (some (k:Int))=min k n:=by
 show(if(k:Int)<0 then((k:Int)+(n:Int)).toNat else min (k:Int).toNat n)=min k n;rw[if_neg (by omega),iU]
theorem OS(n d:Nat)(hd:d<=n)(o:Option Int):iX n d o<=n:=by
 cases o with
 |none=>exact hd
 |some v=>
  show(if v<0 then(v+(n:Int)).toNat else min v.toNat n)<=n;by_cases hv:v<0
  ·rw[if_pos hv];omega
  ·rw[if_neg hv];exact Nat.min_le_right _ _
end
end HT
namespace L2
open PySem PySem.Spec PyProof.Rows
noncomputable abbrev TO:=St->Hp->(Option Int->Hp->Prop)->Prop
def PO(X:Cx)(e:Option Expr)(t:TO):Prop:=
 ∀(pins:List (Addr×Obj)) (s:ah) (O:St) (H:Hp) (Q:Option Int->Hp->Prop),Inv X pins O H s->t O H Q->
  aq (az X.prog X.w) X.A (evalPart e X.env) (fun u s'=>∃o H',Inv X pins O H' s'/\IS u o/\Q o H') X.xe s
noncomputable def MK:TO:=fun _ H Q=>Q none H
section
variable{X:Cx}{e:Expr}{te:TE}{lo hi:Option Expr}{tl th:TO}{pos p2:Pos}
theorem ML:PO X none MK:=by
 intro pins s O H Q I h;rw[Ay];exact aD ⟨none,H,I,.none,h⟩
def OT(X:Cx)(r:V->Option Int->Option Int->Hp->VK->Prop):Prop:=
 ∀(pins:List (Addr×Obj)) (s:ah) (O:St) (H:Hp) (x:V) (v vl vu:Value) (lo hi:Option Int) (sl:Addr) (Q:VK),Inv X pins O H s->RelV x v->s.heap.IsSliceOf sl vl vu .none->IS vl lo->IS vu hi->r x lo hi H Q->
  ∃T id,FE (.type T) "__getitem__"=pure (some (.builtin id))/\s.TypeIs v T/\aq (az X.prog X.w) X.A (vc v (.ref sl)) (EP X pins O Q) X.xe s
def tSl(r:V->Option Int->Option Int->Hp->VK->Prop)(te:TE)(tl th:TO):TE:=fun O H Q=>te O H fun x H1=>tl O H1 fun l H2=>th O H2 fun u H3=>r x l u H3 Q
theorem Jo{r:V->Option Int->Option Int->Hp->VK->Prop}(hr:OT X r)(he:PE X e te)(hl:PO X lo tl)(hu:PO X hi th):PE X (.Subscript e (.Slice lo hi none p2) pos) (tSl r te tl th):=by
 intro pins s O H Q I h;refine FF (aY (he pins s O H _ I h) fun v s1 ⟨x,H1,I1,r1,q1⟩=>?_);refine wpAny_Slice (aY (hl pins s1 O H1 _ I1 q1) fun vl s2 ⟨l,H2,I2,pl,q2⟩=>aY (hu pins s2 O H2 _ I2 q2) fun vu s3 ⟨u,H3,I3,pu,q3⟩=>?_);rw[Ay];refine aD ?_;have I4:Inv X pins O H3 { s3 with heap:=s3.heap.push { cls:=.type "slice",data:=.fields #[vl,vu,.none] } }:=I3.kept (t':=s3.toks) fun b ob q=>aj _ q;obtain⟨T,id,hT,ht,hg⟩:=hr pins { s3 with heap:=s3.heap.push { cls:=.type "slice",data:=.fields #[vl,vu,.none] } } O H3 x v vl vu l u s3.heap.objs.size Q I4 r1 (IT ..) pl pu q3;show aq (az X.prog X.w) X.A (nQ e (.Slice lo hi none p2) v (.ref s3.heap.objs.size)) (EP X pins O Q) X.xe { s3 with heap:=s3.heap.push { cls:=.type "slice",data:=.fields #[vl,vu,.none] } };exact tail_any (ops:=[.ref s3.heap.objs.size,v]) ht hT hg (by with_unfolding_all rfl)
noncomputable def EA(xs:List V)(lo hi:Option Int):List V:=(xs.drop (HT.iX xs.length 0 lo)).take (HT.iX xs.length xs.length hi-HT.iX xs.length 0 lo)
theorem CV(xs:List V)(lo hi:Option Int):(EA xs lo hi).length<=xs.length:=by
 unfold EA;rw[eB,f6];omega
noncomputable def Q8(K:PySem.W.Frag):R2:=fun x y H Q=>∃a b xs ys,x=.ref a/\y=.ref b/\jF K H a xs/\jF K H b ys/\xs≠[]/\xs.length+ys.length<=ai /\
 (ys=[]->Q (.ref a) H)/\(ys≠[]->∀p,H p=none->Q (.ref p) (upd H p (.tup (xs++ys))))
theorem bh.yo{xs:List V}{us:List Value}(r:bh xs us):us=[]↔xs=[]:=by
 cases r with
 |nil=>simp
 |cons _ _=>simp
theorem MM:iB X (fO .Add) (Q8 X.K):=by
 intro pins s O H x y v u Q I rx ry h;obtain⟨a,b,xs,ys,rfl,rfl,ha,hb,hx,hz,q1,q2⟩:=h;cases rx;cases ry;obtain⟨its,r1,p1,_⟩:=I.tuple ha;obtain⟨its2,r2,p2,_⟩:=I.tuple hb;refine HT.MI p1 p2 (fun z=>hx (r1.yo.mp z)) (fun z=>⟨.ref a,H,I,rfl,q1 (r2.yo.mp z)⟩) (fun z=>?_) (by rw[<-r1.length,<-r2.length];exact hz);refine⟨.ref s.heap.objs.size,_,I.laid (t':=s.toks) (o:=.tup (xs++ys)) (fun b ob q=>aj _ q) (aT _) ?_,rfl,q2 (fun w=>z (r2.yo.mpr w)) _ (I.hok.fresh (aT _))⟩;exact⟨by rw[aR];exact hz,_,r1.append r2,IsTup.new _ _⟩
end
end L2
namespace L2
open PySem PySem.Spec PyProof.Rows
noncomputable def gh(n:Nat)(i:Int):Option Nat:=if 0<=i then(if i<n then some i.toNat else none)else if -(n:Int)<=i then some (i+n).toNat else none
noncomputable def gU{α:Type}(xs:List α)(i:Int):Option α:=(gh xs.length i).bind fun j=>xs[j]?
variable{n j:Nat}{i:Int}
theorem Dw(h:gh n i=some j):seqIndex? i n=some j/\j<n/\-(n:Int)<=i/\i<n:=by
 unfold gh at h;by_cases h0:0<=i
 ·rw[if_pos h0]at h;by_cases h1:i<n
  ·rw[if_pos h1]at h;have e:i.toNat=j:=cC h;exact⟨by rw[vX h0 h1,e],by omega,by omega,h1⟩
  ·rw[if_neg h1]at h;cases h
 ·rw[if_neg h0]at h;by_cases h1:-(n:Int)<=i
  ·rw[if_pos h1]at h;have e:(i+n).toNat=j:=cC h;exact⟨by rw[uF (by omega) h1,e],by omega,h1,by omega⟩
  ·rw[if_neg h1]at h;cases h
variable{α:Type}
theorem oG{xs:List α}{v:α}(h:gU xs i=some v):∃j,seqIndex? i xs.length=some j/\xs[j]?=some v/\j<xs.length/\-(xs.length:Int)<=i/\i<xs.length:=by
 unfold gU at h;cases e:gh xs.length i with
 |none=>rw[e]at h;cases h
 |some j=>
  rw[e]at h;obtain⟨h1,h2,h3,h4⟩:=Dw e;exact⟨j,h1,h,h2,h3,h4⟩
theorem yp{xs:List α}{v:α}(h:xs[j]?=some v):gU xs (j:Int)=some v:=by
 have hj:j<xs.length:=(bB.mp h).1;have e:gh xs.length (j:Int)=some j:=by
  unfold gh;rw[if_pos (by omega),if_pos (by omega)];simp
 unfold gU;rw[e];exact h
def Dy(b:Expr):Prop:=∀o i,qP b false o i=operate [o,i] (vc o i)
def A6(X:Cx)(r:R2):Prop:=
 ∀(value slice:Expr) (pins:List (Addr×Obj)) (s:ah) (O:St) (H:Hp) (x y:V) (v u:Value) (Q:VK),Inv X pins O H s->RelV x v->RelV y u->r x y H Q->
  qP slice false v u=operate [v,u] (vc v u)->aq (az X.prog X.w) X.A (nQ value slice v u) (EP X pins O Q) X.xe s
variable{pins:List (Addr×Obj)}{O:St}{H:Hp}{s:ah}
section
variable{X:Cx}{a b:Expr}{ta tb:TE}{pos:Pos}
theorem Q9{r:R2}(hr:A6 X r)(ha:PE X a ta)(hb:PE X b tb)(hs:Dy b):PE X (.Subscript a b pos) (OD r ta tb):=by
 intro pins s O H Q I h;exact FF (Jl ha hb I h fun v u s2 x y H2 I2 rx ry q=>hr a b pins s2 O H2 x y v u Q I2 rx ry q (hs _ _))
noncomputable def Sq(K:PySem.W.Frag):R2:=fun x y H Q=>∃p xs i v,x=.ref p/\y=.int i/\fy K H p xs/\gU xs i=some v/\Q v H
noncomputable def Ss(K:PySem.W.Frag):R2:=fun x y H Q=>∃p xs i v,x=.ref p/\y=.int i/\jF K H p xs/\gU xs i=some v/\Q v H
noncomputable def Su:R2:=fun x y H Q=>∃z i c,x=.str z/\y=.int i/\z.length<=ai/\gU z.cps.toList i=some c/\Q (.str ⟨#[c]⟩) H
theorem MN:A6 X (Sq X.K):=by
 intro value slice pins s O H x y v u Q I rx ry h hs;obtain⟨p,xs,i,z,rfl,rfl,hq,he,q⟩:=h;cases rx;obtain⟨t,rfl⟩:=ry;obtain⟨its,r,pl,hz⟩:=I.list hq;obtain⟨j,h1,h2,h3,h4,h5⟩:=oG he;obtain⟨w,ew,rw'⟩:=r.get h2;have hl:=r.length;have hn:=oU;have fin:EP X pins O Q w s:=⟨z,H,I,rw',q⟩;by_cases h0:0<=i
 ·have hj:i.toNat=j:=by
   rw[vX h0 h5]at h1;exact cC h1
  exact item_listR pl.isList h0 (by omega) (by rw[hj];simpa using ew) fin hs
 ·have hj:(i+(its.toArray.size:Int)).toNat=j:=by
   rw[uF (by omega) h4]at h1;rw[aL,<-hl];exact cC h1
  exact qQ (x:=w) pl.isList.typeIs vj.lookup
   (wpAny_getItem_list_neg (Q:=fun r s'=>r=w/\EP X pins O Q r s') pl.isList (by omega) (by rw[aL]<;>omega) (by omega) (by rw[hj];simpa using ew) ⟨rfl,fin⟩) hs
theorem OU:A6 X (Ss X.K):=by
 intro value slice pins s O H x y v u Q I rx ry h hs;obtain⟨p,xs,i,z,rfl,rfl,hq,he,q⟩:=h;cases rx;obtain⟨t,rfl⟩:=ry;obtain⟨its,r,pl,hz⟩:=I.tuple hq;obtain⟨j,h1,h2,h3,h4,h5⟩:=oG he;obtain⟨w,ew,rw'⟩:=r.get h2;have hl:=r.length;have hn:=oU;have fin:EP X pins O Q w s:=⟨z,H,I,rw',q⟩;exact qQ (x:=w) pl.typeIs uG.lookup
  (getItem_tuple (j:=j) (Q:=fun r s'=>r=w/\EP X pins O Q r s') pl (by omega) (by omega) (by rw[aL,<-hl];exact h1) (by simpa using ew) ⟨rfl,fin⟩) hs
theorem OV:A6 X Su:=by
 intro value slice pins s O H x y v u Q I rx ry h hs;obtain⟨z,i,c,rfl,rfl,hz,he,q⟩:=h;obtain⟨t,rfl⟩:=rx;obtain⟨t',rfl⟩:=ry;obtain⟨j,h1,h2,h3,h4,h5⟩:=oG he;have hl:z.cps.toList.length=z.length:=by simp[gE]
 rw[hl]at h1 h4 h5;have hn:=oU;exact tail_any (yd s z t) wU.lookup (getItem_str (c:=c) (by
  have e1:decide (i < -(2 ^ 63:Int))=false:=decide_eq_false (by omega);have e2:decide (i≥2 ^ 63)=false:=decide_eq_false (by omega);rw[e1,e2,Bool.or_false]) (by rw[h1];simpa using h2) ⟨.str ⟨#[c]⟩,H,I.tok _,⟨_,rfl⟩,q⟩) hs
theorem EB(its:List Value)(n j:Nat)(u:Value):eK (·.setIfInBounds j u) { cls:=.type "list",data:=.seq its.toArray n }={ cls:=.type "list",data:=.seq (its.set j u).toArray n }:=by
 simp[eK]
theorem Inv.lst{pins:List (Addr×Obj)}{O:St}{H:Hp}{s:ah}{p:Addr}{xs:List V}(I:Inv X pins O H s)(h:H p=some (.lst xs)) :
  ∃(its:List Value) (n:Nat),bh xs its/\s.heap.get? p=some { cls:=.type "list",data:=.seq its.toArray n }/\xs.length<=ai:=by
 obtain⟨z,its,n,r,e⟩:=I.hok p _ h;exact⟨its,n,r,e,z⟩
theorem Inv.OW{p:Addr}{xs ys:List V}{its its':List Value}{n':Nat}{f:Obj->Obj}(I:Inv X pins O H s)(h:H p=some (.lst xs))
  (ho:s.heap.get? p=some { cls:=.type "list",data:=.seq its.toArray n }) (hf:f { cls:=.type "list",data:=.seq its.toArray n }={ cls:=.type "list",data:=.seq its'.toArray n' }) (r:bh ys its') (hz:ys.length<=ai) (t:Nat) :
  Inv X pins O (upd H p (.lst ys)) { s with heap:=s.heap.update p f,toks:=t }:=by
 have e:(s.heap.update p f).get? p=some { cls:=.type "list",data:=.seq its'.toArray n' }:=by
  rw[gq f ho (by rw[hf]<;>rfl),hf]
 refine I.write (x:=p) (e:=p) (by rw[h];trivial) (.inl rfl) (fun b u hb q=>(dh _ _ (cP hb)).trans q) ⟨_,e⟩ ?_;exact⟨hz,its',n',r,e⟩
def Q_:V->V->V->Hp->(Hp->Prop)->Prop:=fun o i v H Q=>∃p xs k j,o=.ref p/\i=.int k/\H p=some (.lst xs)/\gh xs.length k=some j/\Q (upd H p (.lst (xs.set j v)))
theorem set_list:Ji X Q_:=by
 intro pins s O H o i v ov iv u Q I ro ri rv h;obtain⟨p,xs,k,j,rfl,rfl,hp,hj,q⟩:=h;cases ro;obtain⟨t,rfl⟩:=ri;obtain⟨its,n,r,ho,hz⟩:=I.lst hp;obtain⟨h1,h2,h3,h4⟩:=Dw hj;have hl:=r.length;have hn:=oU;have I':Inv X pins O (upd H p (.lst (xs.set j v))) { s with heap:=s.heap.update p (eK (·.setIfInBounds j u)) }:=
  I.OW hp ho (EB its n j u) (r.set rv j) (by rw[qp];exact hz) s.toks
 by_cases h0:0<=k
 ·have hk:k.toNat=j:=by
   rw[vX h0 h4]at h1;exact cC h1
  exact PySem.W.ki_setAt ho h0 (by omega) (by rw[aL,<-hl];exact h4) (by rw[hk];exact⟨_,I',q⟩)
 ·have hk:(k+(its.toArray.size:Int)).toNat=j:=by
   rw[uF (by omega) h3]at h1;rw[aL,<-hl];exact cC h1
  exact PySem.W.ki_setBack ho (by omega) (by rw[aL,<-hl];exact h3) (by omega) (by rw[hk];exact⟨_,I',q⟩)
theorem A7(lo hi:Option Int)(n:Nat):(jz lo hi none n).1=((HT.iX n 0 lo:Nat):Int)/\(jz lo hi none n).2.1=((HT.iX n n hi:Nat):Int)/\(jz lo hi none n).2.2=1:=by
 refine⟨?_,?_,rfl⟩
 ·cases lo with
  |none=>simp[jz,HT.iX]
  |some i=>
   simp only[jz,HT.iX,wV,show(1:Int)>0 by decide,if_true];by_cases h:i<0
   ·simp only[h,if_true]<;>omega
   ·simp only[h,if_false]<;>omega
 ·cases hi with
  |none=>simp[jz,HT.iX]
  |some i=>
   simp only[jz,HT.iX,wV,show(1:Int)>0 by decide,if_true];by_cases h:i<0
   ·simp only[h,if_true]<;>omega
   ·simp only[h,if_false]<;>omega
theorem Am(its:List Value)(lo hi:Option Int):slicePick its.toArray lo hi none=((its.drop (HT.iX its.length 0 lo)).take (HT.iX its.length its.length hi-HT.iX its.length 0 lo)).toArray:=by
 obtain⟨h1,h2,h3⟩:=A7 lo hi its.toArray.size;unfold slicePick;rw[h1,h2,h3];simp only[sliceRange_one,pick_run,aL]<;>rfl
def Sv(K:PySem.W.Frag):V->Option Int->Option Int->Hp->VK->Prop:=fun x lo hi H Q=>∃a xs,x=.ref a/\fy K H a xs/\∀p,H p=none->Q (.ref p) (upd H p (.lst (EA xs lo hi)))
theorem MO:OT X (Sv X.K):=by
 intro pins s O H x v vl vu lo hi sl Q I rx hs pl pu h;obtain⟨a,xs,rfl,hx,q⟩:=h;cases rx;obtain⟨its,r,ht,hz⟩:=I.list hx;have hlen:=r.length;refine⟨"list",_,vj.lookup,ht.isList.typeIs,?_⟩;refine wpAny_getItem_list_slice ht.isList hs pl pu .none (by simp) ?_ (by rw[aL]<;>omega);rw[Am,<-hlen];refine⟨.ref s.heap.objs.size,_,I.laid (t':=s.toks) (o:=.lst (EA xs lo hi)) (fun b ob q=>aj _ q) (aT _) ?_,rfl,q _ (I.hok.fresh (aT _))⟩;exact⟨c9 (CV xs lo hi) hz,_,0,(r.drop (HT.iX xs.length 0 lo)).take (HT.iX xs.length xs.length hi-HT.iX xs.length 0 lo),aO _ rfl⟩
theorem tM:jG X (.builtin "len") (fun xs H Q=>∃p ys,xs=[.ref p]/\(fy X.K H p ys\/jF X.K H p ys)/\Q (.int ys.length) H):=by
 intro pins s O H xs us Q I r h;obtain⟨p,ys,rfl,hq,q⟩:=h;obtain⟨u,rfl,rx⟩:=vals1 r;cases rx;have hn:=oU;rcases hq with hq|hq
 ·obtain⟨its,r',pl,hz⟩:=I.list hq;have hlen:=r'.length;exact Calls.call_len_list pl.isList (by simp only[aL]<;>omega) ⟨.int ys.length,H,I.tok _,⟨s.toks+1,by rw[aL,hlen]⟩,q⟩
 ·obtain⟨its,r',pl,hz⟩:=I.tuple hq;have hlen:=r'.length;exact len_tuple pl (by simp only[aL]<;>omega) ⟨.int ys.length,H,I.tok _,⟨s.toks+1,by rw[aL,hlen]⟩,q⟩
theorem tN:jG X (.builtin "len") (fun xs H Q=>∃z,xs=[.str z]/\z.length<=ai/\Q (.int z.length) H):=by
 intro pins s O H xs us Q I r h;obtain⟨z,rfl,hz,q⟩:=h;obtain⟨u,rfl,t,rfl⟩:=vals1 r;have hn:=oU;exact len_str (by omega) ⟨.int z.length,H,I.tok _,⟨_,rfl⟩,q⟩
def pV(K:PySem.W.Frag)(T:String)(x:V)(H:Hp):Prop:=match x with
|.str _=>T="str"
|.int _=>T="int"
|.ref p=>(T="list"/\∃xs,fy K H p xs)\/(T="tuple"/\∃o,K.lookup p=some o/\o.cls=.type "tuple"/\o.dict=none) \/
  (T="dict"/\((∃kvs,H p=some (.dK kvs))\/∃kvs,H p=some (.dT kvs)))\/(T="set"/\∃S n,H p=some (.set S n))
|_=>False
theorem xh{x:V}{v:Value}(I:Inv X pins O H s)(r:RelV x v)(ty:pV X.K T x H) :
  s.TypeIs v T/\∀a,v=.ref a->∃ob,s.heap.get? a=some ob/\ob.dict=none:=by
 cases x with
 |str z=>
  obtain⟨t,rfl⟩:=r;cases(show T="str" from ty);exact⟨yd s z t,fun _ e=>nomatch e⟩
 |int i=>
  obtain⟨t,rfl⟩:=r;cases(show T="int" from ty);exact⟨ye s i t,fun _ e=>nomatch e⟩
 |ref p=>
  cases r;rcases ty with⟨rfl,xs,hq⟩|⟨rfl,o,hk,hc,hd⟩|⟨rfl,hk⟩|⟨rfl,S,n,hk⟩
  ·obtain⟨its,_,pl,_⟩:=I.list hq;refine⟨pl.isList.typeIs,fun a e=>?_⟩;cases e;obtain⟨o,n,e,c,hd,_⟩:=pl;exact⟨o,e,hd⟩
  ·refine⟨⟨o,I.dR p o hk,hc⟩,fun a e=>?_⟩;cases e;exact⟨o,I.dR _ o hk,hd⟩
  ·have z:∃o,s.heap.get? p=some o/\o.ExactDict:=by
    rcases hk with⟨kvs,hk⟩|⟨kvs,hk⟩
    ·obtain⟨_,_,_,_,o,_,_,e,ex,_⟩:=I.hok p _ hk;exact⟨o,e,ex⟩
    ·obtain⟨_,_,_,_,o,_,_,e,ex,_⟩:=I.hok p _ hk;exact⟨o,e,ex⟩
   obtain⟨o,e,ex⟩:=z;refine⟨⟨o,e,ex.1⟩,fun a e2=>?_⟩;cases e2;exact⟨o,e,ex.2.1⟩
  ·obtain⟨o,_,_,_,e,ex,_⟩:=I.hok p _ hk;refine⟨⟨o,e,ex.1⟩,fun a e2=>?_⟩;cases e2;exact⟨o,e,ex.2.1⟩
 |_=>exact ay ty
variable{o e:Expr}{es:List Expr}{to:TE}{t:TA}{name:Str}{apos cpos:Pos}{T id:String}{r:V->List V->Hp->VK->Prop}
end
end L2
namespace L2
open PySem PySem.Spec PyProof.Rows
def RY(X:Cx)(id:String)(r:V->List V->Hp->VK->Prop):Prop:=
 ∀(pins:List (Addr×Obj)) (s:ah) (O:St) (H:Hp) (x:V) (xs:List V) (v:Value) (us:List Value) (Q:VK),Inv X pins O H s->RelV x v->bh xs us->r x xs H Q->
  aq (az X.prog X.w) X.A (call (.builtin id) (v::us)) (EP X pins O Q) X.xe s
theorem bh.one:∀{x:V}{us:List Value},bh [x] us->∃u,us=[u]/\RelV x u
|_,_,.cons r .nil=>⟨_,rfl,r⟩
theorem bh.rep{xs:List V}{us:List Value}(h:bh xs us):∀k:Nat,bh (aW k xs).flatten (aW k us).flatten
|0=>.nil
|k+1=>by
 rw[bX,bX,cS,cS];exact bh.append h (bh.rep h k)
theorem foldl_rep(its:List Value):∀(k:Nat) (acc:List Value),
 yf (fun x1 x2=>x1++x2) acc.toArray (aW k its.toArray)=(acc++(aW k its).flatten).toArray
|0,acc=>by simp
|k+1,acc=>by
 have e:acc.toArray++its.toArray=(acc++its).toArray:=by simp
 have e2:(acc++its)++(aW k its).flatten=acc++(aW (k+1) its).flatten:=by
  rw[bX,cS,cJ]
 rw[<-e2,<-foldl_rep its k (acc++its),<-e,bX,yg]
variable{its:List Value}{n t':Nat}
section
variable{X:Cx}{pins:List (Addr×Obj)}{O:St}{H:Hp}{s:ah}{l b:Addr}{xs ys zs:List V}
theorem Inv.OX{its':List Value}{f:Array Value->Array Value}(I:Inv X pins O H s)(hH:H l=some (.lst xs))
  (e:s.heap.get? l=some { cls:=.type "list",data:=.seq its.toArray n }) (hf:f its.toArray=its'.toArray) (hv:bh ys its') (hz:ys.length<=ai) :
  Inv X pins O (upd H l (.lst ys)) { s with heap:=s.heap.update l (eK f),toks:=t' }:=by
 have q:=PySem.IsL.update e f;rw[hf]at q;refine I.write (x:=l) (e:=l) (by rw[hH];exact trivial) (.inl rfl) (fun b' u hb hu=>(dh s.heap (eK f) (cP hb)).trans hu) ⟨_,q⟩ ?_;exact⟨hz,its',_,hv,q⟩
theorem Inv.OY(I:Inv X pins O H s)(hv:bh ys its)(hz:ys.length<=ai) :
  Inv X pins O (upd H s.heap.objs.size (.lst ys)) { s with heap:=s.heap.push { cls:=.type "list",data:=.seq its.toArray },toks:=t' }:=
 I.laid (fun _ _ q=>aj _ q) (aT _) ⟨hz,its,0,hv,aO _ rfl⟩
theorem Inv.fresh(I:Inv X pins O H s):H s.heap.objs.size=none:=I.hok.fresh (aT _)
theorem Inv.Jp(I:Inv X pins O H s)(hH:H l=some (.lst xs)):xs.length<=ai/\∃(its:List Value) (n:Nat),bh xs its/\xs.length=its.length/\s.heap.get? l=some { cls:=.type "list",data:=.seq its.toArray n }:=by
 obtain⟨z,its,n,r,e⟩:=I.hok l _ hH;exact⟨z,its,n,r,r.length,e⟩
theorem A8(h:n<=ai):g_ n=false:=by
 unfold g_;exact decide_eq_false (by omega)
end
section
variable{X:Cx}
def MP:V->List V->Hp->VK->Prop:=fun x vs H Q=>∃l xs y,x=.ref l/\vs=[y]/\H l=some (.lst xs)/\xs.length<ai/\Q .non (upd H l (.lst (xs++[y])))
theorem Gi:RY X "list.append" MP:=by
 intro pins s O H x vs v us Q I rx rv h;obtain⟨l,xs,y,rfl,rfl,hH,hz,q⟩:=h;cases rx;obtain⟨u,rfl,ru⟩:=rv.one;obtain⟨z,its,n,r,hl,e⟩:=I.Jp hH;refine oE F.slot_list_append ⟨_,e,rfl⟩ F.entry_list_append (F.args_list_append_2 _ _) (PySem.list_append l its.toArray n u (by rw[aL];omega)) ⟨e,?_⟩;refine⟨.non,_,I.OX (its':=its++[u]) hH e (by simp) (r.append (.cons ru .nil)) ?_,rfl,q⟩;rw[aR,dF];omega
def MQ:V->List V->Hp->VK->Prop:=fun x vs H Q=>∃l b xs zs,x=.ref l/\vs=[.ref b]/\H l=some (.lst xs)/\H b=some (.lst zs)/\xs.length+zs.length<=ai/\Q .non (upd H l (.lst (xs++zs)))
theorem Gj:RY X "list.extend" MQ:=by
 intro pins s O H x vs v us Q I rx rv h;obtain⟨l,b,xs,zs,rfl,rfl,hH,hB,hz,q⟩:=h;cases rx;obtain⟨u,rfl,ru⟩:=rv.one;cases ru;obtain⟨z,its,n,r,hl,e⟩:=I.Jp hH;obtain⟨z2,its2,n2,r2,hl2,e2⟩:=I.Jp hB;have hsz:its.toArray.size+its2.toArray.size<=ai:=by rw[aL,aL];omega
 have hlong:¬(!its.toArray.isEmpty&&g_ (its.toArray.size+its2.toArray.size))=true:=by
  rw[A8 hsz,m5];exact aE
 refine oE F.slot_list_extend ⟨_,e,rfl⟩ F.entry_list_extend (F.args_list_extend_2 _ _)
  (wW l its.toArray n b its2.toArray n2 hlong (by rw[aL];omega) (by omega)) ⟨e,e2,?_⟩
 refine⟨.non,_,I.OX (its':=its++its2) hH e (by simp) (r.append r2) ?_,rfl,q⟩;rw[aR];omega
theorem len_rep{α:Type}(xs:List α)(k:Nat):(aW k xs).flatten.length=k*xs.length:=by
 induction k with
 |zero=>simp
 |succ k ih=>rw[bX,cS,aR,ih,Nat.succ_mul,uH]
end
end L2
end
section
namespace L2
open PySem PySem.Spec PyProof.Rows
variable{o:Option V}
variable{y:V}{u:Value}
section
variable{κ:Type} [DecidableEq κ]
noncomputable def jj(kvs:List (κ×V))(k:κ):Option V:=(kvs.find? fun kv=>decide (kv.1=k)).map (·.2)
noncomputable def putK(kvs:List (κ×V))(k:κ)(v:V):List (κ×V):=
 if(kvs.any fun kv=>decide (kv.1=k))=true then kvs.map (fun kv=>if kv.1=k then(kv.1,v)else kv)else kvs++[(k,v)]
theorem v7{p:κ×V}{r:List (κ×V)}{k:κ}(e:p.1=k):jj (p::r) k=some p.2:=by simp[jj,iH,e]
theorem v8{p:κ×V}{r:List (κ×V)}{k:κ}(e:¬p.1=k):jj (p::r) k=jj r k:=by simp[jj,iH,e]
theorem A9(k:κ):∀kvs:List (κ×V),(kvs.any fun kv=>decide (kv.1=k))=(jj kvs k).isSome
|[]=>rfl
|p::r=>by
 rw[kZ];by_cases e:p.1=k
 ·simp only[v7 e,decide_eq_true e,Cw,uJ]
 ·rw[v8 e,decide_eq_false e,Bool.false_or];exact A9 k r
theorem vB(kvs:List (κ×V))(k:κ)(v:V):(putK kvs k v).length<=kvs.length+1:=by
 unfold putK;split
 ·rw[aC];omega
 ·rw[aR,bP,qq];omega
theorem jP.nv{u:Option Value}(r:jP o u):o.isSome=u.isSome:=by
 cases o with
 |none=>cases u with
  |none=>rfl
  |some _=>exact(show False from r).elim
 |some _=>cases u with
  |none=>exact(show False from r).elim
  |some _=>rfl
theorem KV.val{kvs:List (κ×V)}{vs:List (κ×Value)}(r:KV kvs vs)(k:κ):jP (jj kvs k) (oQ vs k):=by
 unfold KV at r;induction r with
 |nil=>exact cu
 |@cons p q ps qs h t ih=>
  obtain⟨h1,h2⟩:=h;by_cases e:p.1=k
  ·have e':q.1=k:=h1.symm.trans e;have b:oQ (q::qs) k=some q.2:=by simp[oQ,iH,e']
   rw[v7 e,b];exact h2
  ·have e':¬q.1=k:=fun z=>e (h1.trans z);have b:oQ (q::qs) k=oQ qs k:=by simp[oQ,iH,e']
   rw[v8 e,b];exact ih
theorem KV.any{kvs:List (κ×V)}{vs:List (κ×Value)}(r:KV kvs vs)(k:κ):(kvs.any fun kv=>decide (kv.1=k))=vs.any fun kv=>decide (kv.1=k):=by
 unfold KV at r;induction r with
 |nil=>rfl
 |cons h t ih=>rw[kZ,kZ,ih,h.1]
theorem KV.repl{kvs:List (κ×V)}{vs:List (κ×Value)}(r:KV kvs vs)(k:κ)(ry:RelV y u) :
  KV (kvs.map fun kv=>if kv.1=k then(kv.1,y)else kv) (vs.map fun kv=>if kv.1=k then(kv.1,u)else kv):=by
 unfold KV at r ⊢;induction r with
 |nil=>exact .nil
 |@cons p q ps qs h t ih=>
  rw[cM,cM];refine .cons ?_ ih;obtain⟨h1,h2⟩:=h;by_cases e:p.1=k
  ·rw[if_pos e,if_pos (h1.symm.trans e)];exact⟨h1,ry⟩
  ·rw[if_neg e,if_neg (fun z=>e (h1.trans z))];exact⟨h1,h2⟩
theorem KV.put{kvs:List (κ×V)}{vs:List (κ×Value)}(r:KV kvs vs)(k:κ)(ry:RelV y u):KV (putK kvs k y) (stored vs k u):=by
 unfold putK stored;rw[r.any k];by_cases e:(vs.any fun kv=>decide (kv.1=k))=true
 ·rw[if_pos e,if_pos e];exact r.repl k ry
 ·rw[if_neg e,if_neg e];exact Paired.snoc r ⟨rfl,ry⟩
theorem KV.length{kvs:List (κ×V)}{vs:List (κ×Value)}(r:KV kvs vs):kvs.length=vs.length:=Paired.length r
end
variable{P:a_}{w:bC}
theorem uS{k:Key}(r:RelV (kV k) u):(fZ P w).is k u=true:=by
 cases k with
 |inl i=>obtain⟨t,e⟩:=(show ∃t,u=jW i t from r);subst e;exact vt P w i t
 |inr x=>obtain⟨t,e⟩:=(show ∃t,u=nE x t from r);subst e;exact vv P w x t
theorem zw:∀{ks:List Key}{us:List Value},bh (ks.map kV) us->ItemsAre (fZ P w) ks us
|[],_,r=>by rw[pL]at r;cases r;exact .nil
|k::ks,_,r=>by
 rw[cM]at r;cases r with
 |cons h t=>exact .cons (uS h) (zw t)
abbrev KT(H:Hp):List (List Key×V)->List (List Key×Addr×Value)->Prop:=Paired fun p q=>p.1=q.1/\H q.2.1=some (.tup (p.1.map kV))/\RelV p.2 q.2.2
variable{H:Hp}{kvs:List (List Key×V)}{xs:List (List Key×Addr×Value)}
theorem KT.val(r:KT H kvs xs)(k:List Key):jP (jj kvs k) ((qt xs k).map (·.2)):=by
 induction r with
 |nil=>exact cu
 |@cons p q ps qs h t ih=>
  obtain⟨h1,_,h2⟩:=h;by_cases e:p.1=k
  ·have e':q.1=k:=h1.symm.trans e;have b:qt (q::qs) k=some q.2:=by simp[qt,iH,e']
   rw[v7 e,b];exact h2
  ·have e':¬q.1=k:=fun z=>e (h1.trans z);have b:qt (q::qs) k=qt qs k:=by simp[qt,iH,e']
   rw[v8 e,b];exact ih
theorem KT.repl(r:KT H kvs xs)(k:List Key)(ry:RelV y u) :
  KT H (kvs.map fun kv=>if kv.1=k then(kv.1,y)else kv) (xs.map (putAt k u)):=by
 induction r with
 |nil=>exact .nil
 |@cons p q ps qs h t ih=>
  rw[cM,cM];refine .cons ?_ ih;obtain⟨h1,h2,h3⟩:=h;unfold putAt;by_cases e:p.1=k
  ·rw[if_pos e,if_pos (h1.symm.trans e)];exact⟨h1,h2,ry⟩
  ·rw[if_neg e,if_neg (fun z=>e (h1.trans z))];exact⟨h1,h2,h3⟩
theorem KT.put(r:KT H kvs xs)(k:List Key){b:Addr}(hb:H b=some (.tup (k.map kV)))(ry:RelV y u) :
  KT H (putK kvs k y) (storedH xs k b u):=by
 have e:(kvs.any fun kv=>decide (kv.1=k))=(qt xs k).isSome:=by
  rw[A9,(r.val k).nv,n6]
 unfold putK storedH;rw[e];by_cases q:(qt xs k).isSome=true
 ·rw[if_pos q,if_pos q];exact r.repl k ry
 ·rw[if_neg q,if_neg q];exact Paired.snoc r ⟨rfl,hb,ry⟩
variable{H':Hp}
theorem KT.keeps(r:KT H kvs xs)(ht:∀b ys,H b=some (.tup ys)->H' b=some (.tup ys)):KT H' kvs xs:=
 Paired.Em r fun _ _ z=>⟨z.1,ht _ _ z.2.1,z.2.2⟩
section
variable{P:a_}{w:bC}{H:Hp}{h:Heap}{a:Addr}
theorem LO{u:HO}(ok:d9 P w H h)(e:Rd H a u):cU P w H h a u:=e.ok ok
theorem uT{kvs:List (Key×V)}(ok:d9 P w H h)(e:Rd H a (.dK kvs)):kvs.length<=ai/\(a==jo)=false/\∃vs,KV kvs vs/\h.DictOf (fZ P w) a vs:=
 show cU P w H h a (.dK kvs)from LO ok e
theorem Ra{kvs:List (Key×V)}(ok:d9 P w H h)(e:H a=some (.dK kvs)):kvs.length<=ai/\(a==jo)=false/\∃vs,KV kvs vs/\h.DictOf (fZ P w) a vs:=uT ok (.inl e)
theorem tO{ks:List Key}(ok:d9 P w H h)(e:H a=some (.tup (ks.map kV))):(qk (fZ P w)).is h ks a:=by
 obtain⟨_,its,r,o,h1,h2,n,h3⟩:=(show cU P w H h a (.tup (ks.map kV))from ok a _ e);exact⟨o,its.toArray,n,h1,h2,h3,by simpa using zw r⟩
theorem xj(ok:d9 P w H h)(e:Rd H a (.dT kvs)):kvs.length<=ai/\(a==jo)=false /\
  ∃xs,KT H kvs xs/\h.DictOfH (qk (fZ P w)) a xs:=by
 obtain⟨z,y,xs,r,o,es,ep,h1,h2,h3,h4,h5⟩:=(show cU P w H h a (.dT kvs)from LO ok e);refine⟨z,y,xs,r,o,es,ep,h1,h2,h3,h4,fun x hx=>?_,h5⟩;have all:∀{l:List (List Key×V)}{m:List (List Key×Addr×Value)},KT H l m->∀x∈m,(qk (fZ P w)).is h x.1 x.2.1:=by
  intro l m q;induction q with
  |nil=>intro x hx;exact nomatch hx
  |@cons p q ps qs hq t ih=>
   intro x hx;rcases aQ.mp hx with e|hx
   ·subst e;exact tO ok (by rw[<-hq.1];exact hq.2.1)
   ·exact ih x hx
 exact all r x hx
theorem Rb(ok:d9 P w H h)(e:H a=some (.dT kvs)):kvs.length<=ai/\(a==jo)=false /\
  ∃xs,KT H kvs xs/\h.DictOfH (qk (fZ P w)) a xs:=xj ok (.inl e)
end
def yq(H:Hp)(a:Addr)(y:V)(r:Option V):Prop:=
 (∃kvs k,Rd H a (.dK kvs)/\y=kV k/\r=jj kvs k)\/∃kvs k b,Rd H a (.dT kvs)/\y=.ref b/\H b=some (.tup (k.map kV))/\r=jj kvs k
def Sw(H:Hp)(a:Addr)(y v:V)(H':Hp):Prop:=
 (∃kvs k,H a=some (.dK kvs)/\y=kV k/\kvs.length<ai/\H'=upd H a (.dK (putK kvs k v))) \/
 ∃kvs k b,H a=some (.dT kvs)/\y=.ref b/\H b=some (.tup (k.map kV))/\kvs.length<ai/\H'=upd H a (.dT (putK kvs k v))
variable{Q:Value->ah->Prop}
variable{h':Heap}
section
variable{X:Cx}{pins:List (Addr×Obj)}{O:St}{H:Hp}{s:ah}{a:Addr}{y v:V}{u r:Value}{o:Option V}{A:bU}{E:Value->ah->Prop}
theorem zx(hu:A.units+1<c_)(I:Inv X pins O H s)(g:yq H a y (some v))(ry:RelV y u)(h:∀w' s',Inv X pins O H s'->RelV v w'->Q w' s') :
  aq (az X.prog X.w) A (vc (.ref a) u) Q E s:=by
 rcases g with⟨kvs,k,e,ey,l⟩|⟨kvs,k,b,e,ey,eb,l⟩
 ·subst ey;obtain⟨z,hd,vs,rel,dd⟩:=uT I.hok e;obtain⟨w',hw,rw'⟩:=jP.some_of (v:=v) (o:=oQ vs k) (by rw[l];exact rel.val k);exact wpAny_getItem_of (uS ry) dd.mapOf hw (h w' _ (I.tok _) rw')
 ·subst ey;cases(show u=aN b from ry);obtain⟨z,hd,xs,rel,dd⟩:=xj I.hok e;obtain⟨w',hw,rw'⟩:=jP.some_of (v:=v) (o:=(qt xs k).map (·.2)) (by rw[l];exact rel.val k);obtain⟨p,hp,hp2⟩:=Option.map_eq_some_iff.mp hw;refine wpAny_getItem_heap (jY hu) (tO I.hok eb) dd hp ?_;rw[hp2];exact h w' _ (I.tok _) rw'
theorem Sx(hu:A.units+1<c_)(I:Inv X pins O H s)(g:yq H a y o)(ry:RelV y u)(h:∀s',Inv X pins O H s'->Q (.bool o.isSome) s') :
  aq (az X.prog X.w) A (fj .In u (.ref a)) Q E s:=by
 rcases g with⟨kvs,k,e,ey,l⟩|⟨kvs,k,b,e,ey,eb,l⟩
 ·subst ey;obtain⟨z,hd,vs,rel,dd⟩:=uT I.hok e;refine wpAny_in_of (uS ry) hd dd.mapOf ?_;rw[<-(rel.val k).nv,<-l];exact h _ (I.tok _)
 ·subst ey;cases(show u=aN b from ry);obtain⟨z,hd,xs,rel,dd⟩:=xj I.hok e;refine wpAny_in_heap (jY hu) (tO I.hok eb) hd dd ?_;have q:=(rel.val k).nv;rw[n6]at q;rw[<-q,<-l];exact h _ (I.tok _)
theorem MR(hu:A.units+1<c_)(I:Inv X pins O H s)(g:yq H a y o)(ry:RelV y u)(h:∀s',Inv X pins O H s'->Q (.bool (!o.isSome)) s') :
  aq (az X.prog X.w) A (fj .NotIn u (.ref a)) Q E s:=by
 rcases g with⟨kvs,k,e,ey,l⟩|⟨kvs,k,b,e,ey,eb,l⟩
 ·subst ey;obtain⟨z,hd,vs,rel,dd⟩:=uT I.hok e;refine wpAny_notIn_of (uS ry) hd dd.mapOf ?_;rw[<-(rel.val k).nv,<-l];exact h _ (I.tok _)
 ·subst ey;cases(show u=aN b from ry);obtain⟨z,hd,xs,rel,dd⟩:=xj I.hok e;refine wpAny_notIn_heap (jY hu) (tO I.hok eb) hd dd ?_;have q:=(rel.val k).nv;rw[n6]at q;rw[<-q,<-l];exact h _ (I.tok _)
theorem Dz{t':Nat}{ob:HO}(I:Inv X pins O H s)(mu:FZ (H a))(hs:gZ a s.heap h')(he:∃q,h'.get? a=some q)(new:cU X.prog X.w (upd H a ob) h' a ob) :
  Inv X pins O (upd H a ob) { s with heap:=h',toks:=t' }:=
 I.write (x:=a) (e:=a) mu (.inl rfl) (fun b q hb z=>(hs.2 b hb).trans z) he new
theorem OZ{kvs:List (Key×V)}{vs:List (Key×Value)}(z:kvs.length<=ai)(hd:(a==jo)=false)(rel:KV kvs vs)(dd:h'.DictOf (fZ P w) a vs) :
  cU P w H' h' a (.dK kvs):=⟨z,hd,vs,rel,dd⟩
theorem zy{Q:Unit->ah->Prop}(hu:A.units+1<c_)(I:Inv X pins O H s)(g:Sw H a y v H')(ry:RelV y u)(rv:RelV v r)(h:∀s',Inv X pins O H' s'->Q () s') :
  aq (az X.prog X.w) A (Eg (.ref a) u r) Q E s:=by
 rcases g with⟨kvs,k,e,ey,l,eH⟩|⟨kvs,k,b,e,ey,eb,l,eH⟩
 ·subst ey eH;obtain⟨z,hd,vs,rel,dd⟩:=Ra I.hok e;have hz:vs.length<=ai:=by rw[<-rel.length];exact z
  have hl:(putK kvs k v).length<=ai:=by have:=vB kvs k v;omega
  refine wpAny_setItem_pairs (hsz:=hz) (uS ry) dd fun h' dd' hs=>h _ ?_;have he:∃q,h'.get? a=some q:=let⟨q,_,_,hq,_⟩:=dd';⟨q,hq⟩
  exact Dz I (by rw[e];exact cu) hs he (OZ hl hd (rel.put k rv) dd')
 ·subst ey eH;cases(show u=aN b from ry);obtain⟨z,hd,xs,rel,dd⟩:=Rb I.hok e;have hz:xs.length<=ai:=by rw[<-Paired.length rel];exact z
  have hl:(putK kvs k v).length<=ai:=by have:=vB kvs k v;omega
  refine wpAny_setItem_heap (hsz:=hz) (jY hu) (tO I.hok eb) dd fun h' dd' hs=>h _ ?_;obtain⟨q,es,ep,hq,h2,h3,h4,_,h5⟩:=dd';refine Dz I (by rw[e];exact cu) hs ⟨q,hq⟩ ⟨hl,hd,_,(rel.put k eb rv).keeps fun c ys ec=>?_,q,es,ep,hq,h2,h3,h4,h5⟩;rw[aK (QT ec e (fun z=>nomatch z))];exact ec
end
section
variable{X:Cx}{pins:List (Addr×Obj)}{O:St}{H:Hp}{s:ah}{a:Addr}{kvs:List (Key×V)}{k:Key}{u:Value}{A:bU}{E:Value->ah->Prop}
theorem LP(I:Inv X pins O H s)(e:Rd H a (.dK kvs))(h:∀t s',Inv X pins O H s'->Q (.int kvs.length t) s'):aq (az X.prog X.w) A (call (.builtin "len") [.ref a]) Q E s:=by
 obtain⟨z,hd,vs,rel,dd⟩:=uT I.hok e;refine call_len_dict hd dd (by rw[<-rel.length];rw[cD]at z;omega) ?_;rw[<-rel.length];exact h _ _ (I.tok _)
end
theorem vC{X:Cx}{pins:List (Addr×Obj)}{O:St}{s:ah}{a:Addr}(I:Inv X pins O H s)(g:yq H a y o):s.TypeIs (.ref a) "dict":=by
 rcases g with⟨kvs,k,e,_,_⟩|⟨kvs,k,b,e,_,_,_⟩
 ·obtain⟨_,_,vs,_,dd⟩:=uT I.hok e;exact dd.typeIs
 ·obtain⟨_,_,xs,_,dd⟩:=xj I.hok e;exact dd.typeIs
end L2
end
section
namespace Att
open PySem PySem.W PySem.Calls PyProof.Rows
variable{P:Cy}{h:Heap}
theorem xm:∀(ns:List Int) (vs:List Value),WellAll P h vs (ns.map IU)->vd vs ns:=by
 intro ns;induction ns with
 |nil=>
  intro vs w;rw[pL]at w;cases w;exact .nil
 |cons n ns ih=>
  intro vs w;rw[cM]at w;cases w with
  |cons a b=>
   cases a;exact .cons _ _ (ih _ b)
variable{l:OpenLaw}{n:Nat}
theorem Gk(hn:l.most=some n){args:List WData}{vals:List Value}
  (hpre:l.row.toRowW.claim.pre args=true) (hwl:WellAll P h vals args) :
  ∃a vs ns,vals=[aN a]/\args=[WData.list (ns.map IU)]/\h.get? a=some { cls:=.type "list",data:=.seq vs.toArray }/\vd vs ns/\ns.length<=n:=by
 have hsh:WShape.hasAll [] args [.list .int]=true:=(FG hpre).1;have hc:l.pre.holds [] { args:=args }=true:=(FG hpre).2;obtain⟨d,r,rfl,h1,h2⟩:=hasAllW_cons hsh;obtain rfl:=hasAllW_nil h2;obtain⟨xs,rfl,h3⟩:=hasW_list h1;obtain⟨ns,rfl⟩:=items_int h3;have hlen:ns.length<=n:=by
  unfold QR at hc;have h4:(WTm.not (.lt (.lit (.int (n:Int))) (.len (.arg 0)))).holds [] { args:=[.list (ns.map .int)] }=true:=by
   have h4:=(holds_andW hc).1;rw[hn]at h4;exact h4
  have h5:=condW_of h4 (w_not (w_lt w_lit (w_len_list (w_arg rfl))));rw[aC]at h5;refine pN fun q=>?_;have q':(n:Int)<((ns.length:Nat):Int):=by omega
  first
   |(rw[decide_eq_true q']at h5;exact absurd h5 (by decide))
   |(simp at h5;omega)
 cases hwl with
 |cons w1 w2=>
  cases w2;cases w1 with
  |list ho hall=>exact⟨_,_,ns,rfl,rfl,ho,xm ns _ hall,hlen⟩
theorem Gm(l:OpenLaw)(args:List WData):l.row.toRowW.claim.post args (.bool true) args=true:=
 postW_of (r:=l.row.toRowW) (X:=(true==true))
  (show FH [] (.bool true) .bool=true by first|rfl|decide|simp[FH,WShape.arms,WShape.armsAll])
  (show(WTm.eq .res (.lit (.bool true))).value [] { args:=args,res:=some (.bool true),after:=args }=some (.bool (true==true))from w_eq_bool (w_res rfl) w_lit) rfl
theorem CW{q:a_}{loose:List Str}{XP:(Str->Option Value)->Heap->Prop}{YP:bC->Heap->Prop}{d:IV}
  (hn:l.most=some n) (hdf:d.params.defaults=[])
  (call:∀(w:bC) (Tz TJ:ah) (mg mb:Str->Option Value) (fa:Addr) (o:Obj) (pm cd doc:Value) (a:Addr) (vs:List Value) (ns:List Int),
   Ground q loose [] XP w Tz mg mb TJ.heap->YP w TJ.heap->
   TJ.heap.get? fa=some o->o.data=.func (docDef d.name d.params d.body d.scope pm cd doc)->TJ.heap.CodeRec cd d.name->mg d.name=some (.ref fa)->
   TJ.heap.get? a=some { cls:=.type "list",data:=.seq vs.toArray }->vd vs ns->ns.length<=n->TJ.gens=#[]->
   jc (az l.prog w) oR (.call (.ref fa) ⟨[.ref a],[]⟩) (fun r s'=>r=.ok (.ret (.bool true))/\OldK TJ.heap s'.heap/\s'.os=TJ.os/\jy s'.gens) TJ) :
  WalkO q loose XP YP l.row.toRowW d [] (fun f vs=>PySem.call f vs):=by
 intro w Tz TJ mg mb G Tt fa o pm cd doc dV kV ho hd hcd hD hmg hg args vals as hpre hlay hrd hwl hlo;obtain rfl:dV=.none:=Dflts.none hD hdf;obtain rfl:kV=.none:=Dflts.noKw hD;obtain⟨a,vs,ns,rfl,rfl,hobj,hints,hlen⟩:=Gk hn hpre hwl;refine enter_call (jd (call w Tz TJ mg mb fa o pm cd doc a vs ns G Tt ho (fd_plain hd) hcd hmg hobj hints hlen hg) fun r s' hq=>?_);obtain⟨rfl,h2,h3,h4⟩:=hq;exact⟨.inl ⟨.bool true,.bool true,[],rfl,fun _=>rfl,.bool true,Gm l _,fun _=>⟨I_,fun _ hm=>(nomatch hm)⟩⟩,h2,h3,h4⟩
end Att
namespace L2
open PySem PySem.Spec PyProof.Rows
theorem zz:∀{vs:List Value}{ns:List Int},vd vs ns->bh (ns.map V.int) vs
|_,_,.nil=>.nil
|_,_,.cons n t h=>.cons ⟨t,rfl⟩ (zz h)
def Jq(H:Hp):Prop:=∀b,H b=none\/∃o xs,H b=some (.bG o (.lst xs))
theorem Jr{P:a_}{w:bC}{K:PySem.W.Frag}{mg mb:Str->Option Value}{CX:vA}{k:Nat}{fa a:Addr}{fd:dD}{x:Str}{sp:Sp}{TJ:ah}{vs:List Value}{ns:List Int}
  (KX:K.In TJ.heap) (hns:TJ.heap.Ns cL mg) (hb:TJ.heap.Ns x_ mb) (hbb:∀x:Str,x≠"__name__"->mb x=jX x) (hlim:TJ.heap.NoLimit) (hg:TJ.gens=#[])
  (ha:TJ.heap.get? a=some { cls:=.type "list",data:=.seq vs.toArray }) (hi:vd vs ns) (hl:ns.length<=ai) (hr:eW k oR)
  (F:∀base:Heap,K.In base->base.Ns cL mg->eO P w K mg base CX k fa fd [x] sp) (hbind:∀(s:ah) (u:Value),u_ s fd ⟨[u],[]⟩ [(x,u)])
  (hsp:∀H:Hp,Jq H->fy K H a (ns.map V.int)->sp [.ref a] H (fun v _=>v=.bl true) fun _ _ _=>False)
  (hCX:∀H e s',CX [] H TJ (fun _ _ _=>False) e s'->False) :
  jc (az P w) oR (.call (.ref fa) ⟨[.ref a],[]⟩) (fun r s'=>r=.ok (.ret (.bool true))/\OldK TJ.heap s'.heap/\s'.os=TJ.os/\jy s'.gens) TJ:=by
 have rv:=zz hi;have qC:=hi.length;have core:∀H:Hp,Jq H->fy K H a (ns.map V.int)->d9 P w H TJ.heap->(∀b,H b≠none->b=a)->(H a≠none->K.lookup a=none)->
   jc (az P w) oR (.call (.ref fa) ⟨[.ref a],[]⟩) (fun r s'=>r=.ok (.ret (.bool true))/\OldK TJ.heap s'.heap/\s'.os=TJ.os/\jy s'.gens) TJ:=by
  intro H hO hS hok hA hK;have base_of:∀{b:Addr}{o:Obj},TJ.heap.get? b=some o->H b=none->(rL TJ.heap H).get? b=some o:=fun e n=>Jc e n;have noA:∀{b:Addr}{o:Obj}{es:Array DictEntry}{ep:Nat},TJ.heap.get? b=some o->o.data=.dict es ep->H b=none:=fun{b o es ep} e d=>by
   cases q:H b with
   |none=>rfl
   |some u=>
    have e':b=a:=hA b (by rw[q];simp);subst e';rw[ha]at e;cases e;have d':Data.seq vs.toArray _=Data.dict es ep:=d;cases d'
  have nsK:∀{b:Addr}{m:Str->Option Value},TJ.heap.Ns b m->(rL TJ.heap H).Ns b m:=fun{b m} ⟨o,es,ep,e,d,r⟩=>⟨o,es,ep,base_of e (noA e d),d,r⟩;have hKb:K.In (rL TJ.heap H):=fun b o e=>base_of (KX b o e) (by
   cases q:H b with
   |none=>rfl
   |some u=>
    have e':b=a:=hA b (by rw[q];simp);subst e';rw[hK (by rw[q];simp)]at e;cases e)
  have hM:Mod K mg (rL TJ.heap H):=⟨hKb,nsK hns,⟨mb,nsK hb,hbb⟩,let⟨mc,h1,h2⟩:=hlim;⟨mc,nsK h1,h2⟩⟩;have e0:tK P w K mg (rL TJ.heap H) oR [] TJ H:=⟨rfl,hM,fun b o e=>MA e,l_ (F6 _ _),trivial,fun b hb=>absurd (show b∈([]:List Addr)from hb) (by simp),hok,.of_eq hg⟩;refine jd ((F _ hKb (nsK hns)).run oR [] TJ H ⟨[.ref a],[]⟩ [.ref a] [.ref a] _ _ hr e0 (hbind TJ (.ref a)) (.cons rfl .nil) (hsp H hO hS)) fun r s' h=>?_;cases r with
  |error e=>exact(hCX H e s' h).elim
  |ok fl=>
   cases fl with
   |next=>exact ay h
   |brk=>exact ay h
   |cont=>exact ay h
   |ret u=>
    obtain⟨v,H',os,bare,un,hok',r',q⟩:=h;have q':v=.bl true:=q;subst q';obtain rfl:u=oB true:=r';refine⟨rfl,OldK.of_keep fun b o e=>?_,os,bare⟩;cases q:H b with
    |none=>exact un.keep b o e q (by intro z;exact absurd (show b∈([]:List Addr)from z) (by simp)) (by simp)
    |some u=>
     rcases hO b with z|⟨ob,xs,z⟩
     ·rw[q]at z;cases z
     ·have z2:=un.aB b ob _ z;obtain⟨e1,_⟩:=hok b _ z;obtain⟨e2,_⟩:=hok' b _ z2;rw[e]at e1;cases e1;exact e2
 cases hk:K.lookup a with
 |some o=>
  have e:=KX a o hk;rw[ha]at e;cases e;refine core (fun _=>none) (fun _=>.inl rfl) (.inr ⟨_,vs.toArray,_,hk,rfl,rfl,rfl,by rw[aL,qC];exact hl,by simpa using rv⟩) (fun b u z=>by have z':(none:Option HO)=some u:=z;cases z') (fun b z=>absurd rfl z) fun z=>absurd rfl z
 |none=>
  refine core (fun b=>if b=a then some (.bG { cls:=.type "list",data:=.seq vs.toArray } (.lst (ns.map V.int)))else none) (fun b=>?_) (.inl (.inr ⟨{ cls:=.type "list",data:=.seq vs.toArray },if_pos rfl⟩)) (fun b u z=>?_) (fun b z=>?_) fun _=>hk
  ·by_cases hb:b=a
   ·exact .inr ⟨_,_,if_pos hb⟩
   ·exact .inl (if_neg hb)
  ·by_cases hb:b=a
   ·have z':=(if_pos hb).symm.trans z;cases z';subst hb;exact⟨ha,by rw[aC];exact hl,vs,_,rv,ha⟩
   ·have z':=(if_neg hb).symm.trans z;cases z'
  ·by_cases hb:b=a
   ·exact hb
   ·exact absurd (if_neg hb) z
end L2
namespace L2
open PySem PySem.Spec PyProof.Rows
theorem MS{l:PySem.W.OpenLaw}{n k:Nat}{q:a_}{loose:List Str}{XP:(Str->Option Value)->Heap->Prop}{YP:bC->Heap->Prop}{d:IV}{K:Cy->PySem.W.Frag}{CX:bC->vA}{sp:bC->Sp}{x:Str}
  (hn:l.most=some n) (hn2:n<=ai) (hdf:d.params.defaults=[]) (hr:eW k oR)
  (hY:∀(w:bC) (h:Heap),YP w h->(K w.params).In h)
  (F:∀(w:bC) (mg:Str->Option Value) (fa:Addr) (h:Heap),(K w.params).In h->h.Ns cL mg->mg d.name=some (.ref fa)->
   ∃fd:dD,(∀(s:ah) (u:Value),u_ s fd ⟨[u],[]⟩ [(x,u)]) /\
    ∀base:Heap,(K w.params).In base->base.Ns cL mg->eO l.prog w (K w.params) mg base (CX w) k fa fd [x] (sp w))
  (hsp:∀(w:bC) (H:Hp) (a:Addr) (ns:List Int),ns.length<=n->Jq H->fy (K w.params) H a (ns.map V.int)->sp w [.ref a] H (fun v _=>v=.bl true) fun _ _ _=>False)
  (hCX:∀(w:bC) (H:Hp) (s:ah) (e:Value) (s':ah),CX w [] H s (fun _ _ _=>False) e s'->False) :
  PySem.W.WalkO q loose XP YP l.row.toRowW d [] (fun f vs=>PySem.call f vs):=by
 refine Att.CW hn hdf fun w Tz TJ mg mb fa o pm cd doc a vs ns G Tt ho hd hcd hmg hobj hints hlen hg=>?_;have KX:=hY w _ Tt;obtain⟨fd,hb,hF⟩:=F w mg fa _ KX G.T.g hmg;exact Jr KX G.T.g G.T.b G.T.builtins G.T.nolimit hg hobj hints (c9 hlen hn2) hr hF hb (fun H hO hS=>hsp w H a ns hlen hO hS) fun H e s'=>hCX w H TJ e s'
end L2
namespace L2
open PySem PySem.Spec PyProof.Rows
def j8(s:Stmt):Ai:=match s with
|.FunctionDef _ a _ _ _ _ _ _ _ _=>a
|_=>{ posonlyargs:=[],args:=[],vararg:=none,kwonlyargs:=[],kw_defaults:=[],kwarg:=none,defaults:=[] }
def d_(s:Stmt):List Stmt:=match s with
|.FunctionDef _ _ b _ _ _ _ _ _ _=>b
|_=>[]
def bE(s:Stmt):eU:=match s with
|.FunctionDef _ _ _ _ _ _ sc _ _ _=>sc
|_=>{ kind:=.function,names:=[],isGenerator:=false,isCoroutine:=false }
noncomputable abbrev nW:vA:=fun _ _ _ _ _ _=>False
noncomputable abbrev E0:XK:=fun _ _ _=>False
structure mH (K:PySem.W.Frag) (x qual:Str) (st:Stmt) (f:Addr) (fd:dD):Prop where
 ex:∃(oc:Value) (od:Option Addr) (kV doc pm:Value) (an:Option Addr) (cdv ct:Value) (osl:Array (Option Value)),
  fd=PySem.W.fnOf x qual (j8 st) (d_ st) (bE st) .none kV doc pm an cdv ct/\K.lookup f=some ⟨oc,od,.func fd,osl⟩/\PySem.W.codeIn K cdv qual=true
 kp:PySem.W.keepIn K (.ref f)=true
variable{x qual:Str}{st:Stmt}{f:Addr}{fd:dD}{ps:List Str}
section
variable{P:a_}{w:bC}{K:PySem.W.Frag}{mg:Str->Option Value}{base:Heap}
theorem mH.ok{N:List Str}{k:Nat}{sp:Sp}(F:mH K x qual st f fd)(S:iw N ps (bE st))(len:∀vs H Q E,sp vs H Q E->vs.length=ps.length)
  (hbody:∀(cdv:Value) (A:bU) (outer:List Env) (s:ah) (H:Hp) (vs:List V) (Q:VK) (E:XK),eW k (A.deeper (jv qual (bE st) s.heap.objs.size f cdv))->sp vs H Q E->
   ∃t,lR (gT nW P w K mg base N qual (bE st) f cdv A outer s H E).tE (d_ st) t/\t { nx:=fun _ H'=>Q .non H',rt:=Q } (start N vs) H):eO P w K mg base nW (k+1) f fd ps sp:=by
 obtain⟨oc,od,kV,doc,pm,an,cdv,ct,osl,rfl,lk,hcd⟩:=F.ex;refine LN lk hcd S len fun A outer s H vs Q E hr hsp=>?_;obtain⟨t,h,q⟩:=hbody cdv A outer s H vs Q E hr hsp;exact⟨t,h.tE,q⟩
theorem mH.binds(F:mH K x qual st f fd)
  (h:∀(kV doc pm:Value) (an:Option Addr) (cdv ct:Value) (us:List Value),us.length=ps.length->sE (PySem.W.fnOf x qual (j8 st) (d_ st) (bE st) .none kV doc pm an cdv ct) ⟨us,[]⟩=pure (ps.zip us)):Binds K fd ps []:=by
 obtain⟨oc,od,kV,doc,pm,an,cdv,ct,osl,rfl,lk,hcd⟩:=F.ex;exact .all (h kV doc pm an cdv ct)
theorem fun_mk{oc:Value}{od an:Option Addr}{osl:Array (Option Value)}{kV doc pm cdv ct:Value}(l:K.lookup f=some ⟨oc,od,.func (PySem.W.fnOf x qual (j8 st) (d_ st) (bE st) .none kV doc pm an cdv ct),osl⟩)
  (c:PySem.W.codeIn K cdv qual=true) (k:PySem.W.keepIn K (.ref f)=true):mH K x qual st f (PySem.W.fnOf x qual (j8 st) (d_ st) (bE st) .none kV doc pm an cdv ct):=⟨⟨oc,od,kV,doc,pm,an,cdv,ct,osl,rfl,l,c⟩,k⟩
end
def aS(H H':Hp):Prop:=∀b o,H b=some o->H' b=some o
theorem aS.refl(H:Hp):aS H H:=fun _ _ h=>h
theorem aS.trans{H H1 H2:Hp}(a:aS H H1)(b:aS H1 H2):aS H H2:=fun c o h=>b c o (a c o h)
end L2
end
section
namespace L2
open PySem PySem.W PySem.Calls PyProof.Rows
noncomputable def vD{α:Type}(lt:Nat->Nat->Bool):KasT α->α
|.ret a=>a
|.ask i j k=>vD lt (k (lt i j))
def KBd(n:Nat){α:Type}(B:α->Prop):KasT α->Prop
|.ret a=>B a
|.ask i j k=>i<n/\j<n/\∀b,KBd n B (k b)
variable{α:Type}{lt:Nat->Nat->Bool}{n:Nat}
theorem Gn{cmp:Nat->Nat->(Bool->ah->Prop)->ah->Prop}{s:ah}{B:α->Prop}
 (hc:∀i j (C:Bool->ah->Prop),i<n->j<n->C (lt i j) s->cmp i j C s):∀(t:KasT α) (Q:α->ah->Prop),KBd n B t->(B (vD lt t)->Q (vD lt t) s)->t.kasWp cmp Q s
|.ret _,_,hb,h=>h hb
|.ask i j k,Q,hb,h=>hc i j _ hb.1 hb.2.1 (Gn hc (k (lt i j)) Q (hb.2.2 _) h)
theorem AH{B:α->Prop}(lt:Nat->Nat->Bool):∀(t:KasT α),KBd n B t->B (vD lt t)
|.ret _,h=>h
|.ask i j k,h=>AH lt (k (lt i j)) (h.2.2 (lt i j))
variable{β:Type}
theorem KBd.bind{B:α->Prop}{C:β->Prop}{f:α->KasT β}(hf:∀a,B a->KBd n C (f a)):∀(t:KasT α),KBd n B t->KBd n C (t.bind f)
|.ret a,h=>hf a h
|.ask i j k,h=>⟨h.1,h.2.1,fun b=>KBd.bind hf (k b) (h.2.2 b)⟩
def iY(n:Nat)(p:Array Nat):Prop:=0<n/\p.Perm (bq n).toArray
variable{p:Array Nat}
theorem iY.vE(h:iY n p)(k:Nat):p.getD k 0<n:=by
 by_cases hk:k<p.size
 ·have e:p.getD k 0=p[k]:=by simp[FI,hk]
  rw[e];have hm:p[k]∈(bq n).toArray:=h.2.mem_iff.mp (Array.getElem_mem hk);simpa using hm
 ·have e:p.getD k 0=0:=by simp[FI,hk]
  rw[e];exact h.1
theorem iY.rev(h:iY n p)(i j:Nat):iY n (Ei p i j):=⟨h.1,(mirror_perm p i j _).trans h.2⟩
theorem iY.bub(h:iY n p)(k d:Nat):iY n (bubble p k d):=⟨h.1,(bubble_perm p k d).trans h.2⟩
theorem A_(h:iY n p):∀(f m:Nat),KBd n (fun _=>True) (kas_asc p f m)
|0,_=>trivial
|f+1,m=>⟨h.vE _,h.vE _,fun b=>by
 cases b with
 |true=>exact trivial
 |false=>exact A_ h f (m+1)⟩
theorem uU:∀(f:Nat) (p:Array Nat) (m q:Nat),iY n p->KBd n (fun r=>iY n r.1) (Cz f p m q)
|0,p,_,_,h=>h
|f+1,p,m,q,h=>⟨h.vE _,h.vE _,fun b=>by
 cases b with
 |true=>
  show KBd n _ (if q>0 then Cz f (Ei p (m-(q+1)) m) (m+1) 0 else Cz f p (m+1) 0);split
  ·exact uU f _ _ _ (h.rev _ _)
  ·exact uU f _ _ _ h
 |false=>
  refine⟨h.vE _,h.vE _,fun d=>?_⟩;cases d with
  |true=>exact h
  |false=>exact uU f _ _ _ h⟩
theorem Ba(h:iY n p)(m nrem:Nat):KBd n (fun r=>iY n r.2) (kas_tail3 m nrem p):=
 KBd.bind (n:=n) (B:=fun _=>True) (C:=fun(r:Nat×Array Nat)=>iY n r.2) (f:=fun a=>.ret (a,Ei p 0 m)) (fun a _=>h.rev 0 m) _ (A_ (h.rev 0 m) _ _)
theorem vF(h:iY n p)(m nrem:Nat):KBd n (fun r=>iY n r.2) (kas_descPart m nrem p):=
 KBd.bind (fun r hr=>by
  show KBd n _ (if r.2.2>0 then _ else _);split
  ·exact Ba (iY.rev hr _ _) _ _
  ·exact Ba hr _ _) _ (uU _ _ _ _ h)
theorem Js(h:iY n p)(nrem:Nat):KBd n (fun r=>iY n r.2) (kas_count nrem p):=
 KBd.bind (fun m _=>by
  show KBd n _ (if(m==nrem)=true then _ else if m>1 then _ else _);split
  ·exact h
  ·split
   ·refine⟨h.vE _,h.vE _,fun c=>?_⟩;cases c with
    |true=>exact h
    |false=>exact vF (h.rev _ _) _ _
   ·exact vF h _ _) _ (A_ h _ _)
theorem v9(h:iY n p)(k:Nat):∀(f l r:Nat),KBd n (fun _=>True) (kas_place p k f l r)
|0,_,_=>trivial
|f+1,l,r=>by
 show KBd n _ (if l≥r then _ else _);split
 ·exact trivial
 ·refine⟨h.vE _,h.vE _,fun c=>?_⟩;cases c with
  |true=>exact v9 h k f _ _
  |false=>exact v9 h k f _ _
theorem Gp:∀(f:Nat) (p:Array Nat) (k:Nat),iY n p->KBd n (iY n) (kas_bin f p k)
|0,_,_,h=>h
|f+1,p,k,h=>KBd.bind (fun l _=>Gp f _ _ (h.bub _ _)) _ (v9 h k _ _ _)
theorem uV(h:0<n):KBd n (iY n) (m6 n):=
 KBd.bind (fun r hr=>by
  show KBd n _ (if r.1<n then _ else _);split
  ·exact Gp _ _ _ hr
  ·exact hr) _ (Js ⟨h,Mu _⟩ _)
noncomputable def pW(n:Nat)(lt:Nat->Nat->Bool):List Nat:=if n<2 then bq n else(vD lt (m6 n)).toList
noncomputable def ltK:Key->Key->Bool
|.inl i,.inl j=>decide (i<j)
|.inr x,.inr y=>decide (x.cps.toList<y.cps.toList)
|_,_=>false
noncomputable def iZ:List Key->List Key->Bool
|p::ps,q::qs=>if p=q then iZ ps qs else ltK p q
|_,_=>false
noncomputable def jk:List Key->List Key->Bool
|[],[]=>true
|.inl _::ps,.inl _::qs=>jk ps qs
|.inr _::ps,.inr _::qs=>jk ps qs
|_,_=>false
section
variable{prog:a_}{w:bC}{A:bU}{E:Value->ah->Prop}{s:ah}{b:Bool}{Q:Bool->ah->Prop}
theorem Bb:∀{ks qs:List Key}{us ws:List Value} (i:Nat),bh (ks.map kV) us->bh (qs.map kV) ws->jk ks qs=true->Q (iZ ks qs) s->KatLex prog w A b false Q (us.zip ws) i s
|[],[],_,_,i,.nil,.nil,_,h=>h
|.inl x::ks,.inl y::qs,_,_,i,.cons hu ru,.cons hv rv,hs,h=>by
 obtain⟨t,rfl⟩:=hu;obtain⟨t',rfl⟩:=hv;refine kat_cons (wQ (kat_go (fun e=>?_) fun e=>?_))
 ·have e:=beq_iff_eq.mp e;subst e;refine kat_yes (Bb (i+1) ru rv hs ?_);have:iZ (.inl x::ks) (.inl x::qs)=iZ ks qs:=if_pos rfl;rw[this]at h;exact h
 ·have hn:x≠y:=by intro z;rw[z]at e;simp at e
  have:iZ (.inl x::ks) (.inl y::qs)=decide (x<y):=if_neg (fun z=>hn (C8 z));rw[this]at h;refine kat_no ?_;cases hb:(b&&i==0)with
  |true=>exact oneLt_int h
  |false=>exact kat_one _ _ (lt_int h)
|.inr x::ks,.inr y::qs,_,_,i,.cons hu ru,.cons hv rv,hs,h=>by
 obtain⟨t,rfl⟩:=hu;obtain⟨t',rfl⟩:=hv;refine kat_cons (eqBool_str (kat_go (fun e=>?_) fun e=>?_))
 ·have e:=beq_iff_eq.mp e;subst e;refine kat_yes (Bb (i+1) ru rv hs ?_);have:iZ (.inr x::ks) (.inr x::qs)=iZ ks qs:=if_pos rfl;rw[this]at h;exact h
 ·have hn:x≠y:=by intro z;rw[z]at e;simp at e
  have:iZ (.inr x::ks) (.inr y::qs)=decide (x.cps.toList<y.cps.toList):=if_neg (fun z=>hn (C9 z));rw[this]at h;refine kat_no ?_;cases hb:(b&&i==0)with
  |true=>exact oneLt_str h
  |false=>exact kat_one _ _ (lt_str h)
end
def qD(h:Heap)(v:Value)(ks:List Key):Prop:=∃(t:Addr) (o:Obj) (us:List Value) (k:Nat),v=.ref t/\h.get? t=some o/\o.cls=.type "tuple"/\o.data=.seq us.toArray k/\bh (ks.map kV) us
theorem jw{R:α->β->Prop}{d:α}{e:β}:∀{xs:List α}{ys:List β},Paired R xs ys->∀i,i<xs.length->R (xs.getD i d) (ys.getD i e)
|_,_,.nil,i,h=>absurd h (yh i)
|_,_,.cons r _,0,_=>r
|_,_,.cons _ t,i+1,h=>jw t i (Nat.lt_of_succ_lt_succ h)
theorem getD_mem{d:α}{xs:List α}{i:Nat}(h:i<xs.length):xs.getD i d∈xs:=by
 rw[aH,ak h];exact f7 h
theorem oV:∀{ks qs:List Key},jk ks qs=true->ks.length=qs.length
|[],[],_=>rfl
|.inl _::ks,.inl _::qs,h=>congrArg (·+1) (oV (ks:=ks) (qs:=qs) h)
|.inr _::ks,.inr _::qs,h=>congrArg (·+1) (oV (ks:=ks) (qs:=qs) h)
variable{v:Value}{ks qs:List Key}
variable{h:Heap}
variable{vs:List Value}{kss:List (List Key)}
variable{l:Addr}{Q:Value->ah->Prop}
section
variable{prog:a_}{w:bC}{A:bU}{E:Value->ah->Prop}{s:ah}
theorem MT{b:Bool}{u:Value}{Q:Bool->ah->Prop}(hv:qD s.heap v ks)(hu:qD s.heap u qs)(hs:jk ks qs=true)(h:Q (iZ ks qs) s):aq (az prog w) A (keyLt' (tuples' b) v u) Q E s:=by
 obtain⟨t,o,us,n,rfl,h1,h2,h3,h4⟩:=hv;obtain⟨t',o',us',n',rfl,k1,k2,k3,k4⟩:=hu;refine kat_lt h1 h3 k1 k3 ?_;have e:decide (us.toArray.size<us'.toArray.size)=false:=by
  have e1:=h4.length;have e2:=k4.length;rw[aC]at e1 e2;have:=oV hs;simp;omega
 rw[e];exact Bb 0 h4 k4 hs h
noncomputable def nH:List Key->Value
|.inl _::_=>.type "int"
|_=>.type "str"
theorem EC(h:jk ks qs=true)(hn:ks≠[]):nH ks=nH qs:=by
 match ks,qs,h with
 |.inl _::_,.inl _::_,_=>rfl
 |.inr _::_,.inr _::_,_=>rfl
 |[],[],_=>exact absurd rfl hn
theorem xo{M:AX}{T:Value}:∀{vs:List Value}{kss:List (List Key)},Paired (qD h) vs kss->(∀ks∈kss,ks≠[]/\nH ks=T)->∃fs:List Value,KatTups h vs fs/\fs.length=vs.length/\∀f∈fs,Looks M h (typeOf f) T
|_,_,.nil,_=>⟨[],trivial,rfl,fun _ z=>by cases z⟩
|_,_,.cons (b:=ks) ⟨t,o,us,n,e,h1,h2,h3,h4⟩ r,hk=>by
 obtain⟨fs,k1,k2,k3⟩:=xo r fun ks hks=>hk ks (ao _ hks);obtain⟨hne,hT⟩:=hk ks aG;subst e;cases ks with
 |nil=>exact absurd rfl hne
 |cons k ks=>
  cases h4 with
  |cons hu ru=>
   cases k with
   |inl i=>
    obtain⟨tk,rfl⟩:=hu;refine⟨.int i tk::fs,⟨⟨t,o,_,n,rfl,h1,h2,h3,by simp⟩,k1⟩,by simp[k2],fun f hf=>?_⟩;rcases aQ.mp hf with rfl|hf
    ·rw[<-hT];exact nR rfl
    ·exact k3 f hf
   |inr x=>
    obtain⟨tk,rfl⟩:=hu;refine⟨.str x tk::fs,⟨⟨t,o,_,n,rfl,h1,h2,h3,by simp⟩,k1⟩,by simp[k2],fun f hf=>?_⟩;rcases aQ.mp hf with rfl|hf
    ·rw[<-hT];exact nR rfl
    ·exact k3 f hf
noncomputable def kH(vs:List Value)(lt:Nat->Nat->Bool):List Value:=(pW vs.length lt).map fun i=>vs.getD i bg
def DA(prog:a_)(w:bC)(A:bU)(vs:List Value)(lt:Nat->Nat->Bool)(h:Heap):Prop:=
 ∃κ,∀s:ah,s.heap=h->(∀(E:Value->ah->Prop) (Q:SortKind->ah->Prop),Q κ s->aq (az prog w) A (keyKind' vs.toArray) Q E s)/\∀i j C,i<vs.length->j<vs.length->C (lt i j) s->Ej prog w A κ vs i j C s
noncomputable def vG(kss:List (List Key))(i j:Nat):Bool:=iZ (kss.getD i []) (kss.getD j [])
theorem Jt(ht:Paired (qD h) vs kss)(h1:∀ks∈kss,ks≠[])(hs:∀ks∈kss,∀qs∈kss,jk ks qs=true)(h2:2<=vs.length):DA prog w A vs (vG kss) h:=by
 have hT2:∀ks:List Key,(nH ks==nH ks)=true:=by intro ks;unfold nH;split<;>rfl
 have hlen:kss.length=vs.length:=(Paired.length ht).symm;have hpos:0<kss.length:=by omega
 obtain⟨fs,f1,f2,f3⟩:=xo (M:=az prog w) (T:=nH (kss.getD 0 [])) ht fun ks hks=>⟨h1 ks hks,EC (hs ks hks _ (getD_mem hpos)) (h1 ks hks)⟩;refine⟨tuples' (nH (kss.getD 0 []) != Value.type "tuple"),fun s e=>?_⟩;subst e;exact⟨fun E Q q=>kat_kind f1 (by omega) f3 (hT2 _) q,fun i j C hi hj hC=>MT (jw ht i hi) (jw ht j hj) (hs _ (getD_mem (by omega)) _ (getD_mem (by omega))) hC⟩
theorem Sy(a b:Str):iZ [.inr a] [.inr b]=decide (a.cps.toList<b.cps.toList):=by
 by_cases e:a=b
 ·subst e;have:iZ [lO a] [lO a]=false:=by unfold iZ;rw[if_pos rfl];rfl
  rw[this,decide_eq_false (List.lt_irrefl _)]
 ·unfold iZ;rw[if_neg fun z=>e (by cases z;rfl)];rfl
theorem Ju{ss:List Str}(hv:bh (ss.map V.str) vs)(h2:2<=vs.length):DA prog w A vs (vG (ss.map fun x=>[.inr x])) h:=by
 have hl:vs.length=ss.length:=by rw[<-hv.length,aC]
 have ha:∀i,i<vs.length->∃t,vs.getD i bg=.str (ss.getD i ⟨#[]⟩) t:=fun i hi=>by
  have:=jw (d:=V.non) (e:=bg) hv i (by rw[aC,<-hl];exact hi);rw[aH,aU,ak (by omega)]at this;rw[aH (l:=ss),ak (by omega)];exact this
 refine⟨oneType',fun s e=>⟨fun E Q q=>kas_kind h2 (fun v hv'=>?_) (T:=.type "str") (by decide) (by decide) q,fun i j C hi hj hC=>?_⟩⟩
 ·obtain⟨i,hi,rfl⟩:=jC hv';obtain⟨t,e⟩:=ha i hi;rw[aH,ak hi]at e;have e:vs[i]=_:=e;rw[e];exact nR rfl
 ·obtain⟨t,e1⟩:=ha i hi;obtain⟨u,e2⟩:=ha j hj;unfold Ej;rw[e1,e2];refine kas_lt_str ?_;have:vG (ss.map fun x=>[.inr x]) i j=iZ [.inr (ss.getD i ⟨#[]⟩)] [.inr (ss.getD j ⟨#[]⟩)]:=by
   unfold vG;simp only[aH,aU,ak (show i<ss.length by omega),ak (show j<ss.length by omega)];rfl
  rw[this,Sy]at hC;exact hC
theorem Sz(a b:Int):iZ [.inl a] [.inl b]=decide (a<b):=by
 by_cases e:a=b
 ·subst e;have:iZ [lN a] [lN a]=false:=by unfold iZ;rw[if_pos rfl];rfl
  rw[this,decide_eq_false (Int.lt_irrefl _)]
 ·unfold iZ;rw[if_neg fun z=>e (by cases z;rfl)];rfl
theorem Jv{ss:List Int}(hv:bh (ss.map V.int) vs)(h2:2<=vs.length):DA prog w A vs (vG (ss.map fun x=>[.inl x])) h:=by
 have hl:vs.length=ss.length:=by rw[<-hv.length,aC]
 have ha:∀i,i<vs.length->∃t,vs.getD i bg=.int (ss.getD i 0) t:=fun i hi=>by
  have:=jw (d:=V.non) (e:=bg) hv i (by rw[aC,<-hl];exact hi);rw[aH,aU,ak (by omega)]at this;rw[aH (l:=ss),ak (by omega)];exact this
 refine⟨oneType',fun s e=>⟨fun E Q q=>kas_kind h2 (fun v hv'=>?_) (T:=.type "int") (by decide) (by decide) q,fun i j C hi hj hC=>?_⟩⟩
 ·obtain⟨i,hi,rfl⟩:=jC hv';obtain⟨t,e⟩:=ha i hi;rw[aH,ak hi]at e;have e:vs[i]=_:=e;rw[e];exact nR rfl
 ·obtain⟨t,e1⟩:=ha i hi;obtain⟨u,e2⟩:=ha j hj;unfold Ej;rw[e1,e2];rw[keyLt'_oneType];refine oneLt_int ?_;have:vG (ss.map fun x=>[.inl x]) i j=iZ [.inl (ss.getD i 0)] [.inl (ss.getD j 0)]:=by
   unfold vG;simp only[aH,aU,ak (show i<ss.length by omega),ak (show j<ss.length by omega)];rfl
  rw[this,Sz]at hC;exact hC
theorem Bc{a:Addr}{P:PySem.Fin->ah->Prop}
  (ho:s.heap.get? a=some (fY "list" vs.toArray n)) (hC:∀h',(∀b o,b≠a->s.heap.get? b=some o->h'.get? b=some o)->2<=vs.length->DA prog w A vs lt h') (h64:vs.length<64)
  (h:∀h' c,(∀b o,b≠a->s.heap.get? b=some o->h'.get? b=some o)->h'.get? a=some (fY "list" (kH vs lt).toArray c)->P (.done (.ret .none)) { s with heap:=h' }) :
  aq (az prog w) A (m7.«list.sort» ⟨[.ref a],[]⟩) P E s:=by
 have ha:a<s.heap.objs.size:=au ho;obtain⟨e1,ho1⟩:∃e1,(s.heap.update a (eK fun _=>(#[]:Array Value))).get? a=some (fY "list" #[] e1):=⟨_,yi ho fun _=>#[]⟩;have hk1:∀b o,b≠a->s.heap.get? b=some o->(((s.heap.update a (eK fun _=>(#[]:Array Value))).push (fY "tuple" vs.toArray 0)).push (fY "list" #[] 0)).get? b=some o:=fun b o hb e=>
  aj _ (aj _ (by rw[mO _ _ _ _ hb];exact e))
 have ho3:(((s.heap.update a (eK fun _=>(#[]:Array Value))).push (fY "tuple" vs.toArray 0)).push (fY "list" #[] 0)).get? a=some (fY "list" #[] e1):=aj _ (aj _ ho1);rw[list_sort_plain];refine aa (listItems_at ho rfl ?_);refine aa (Az ho rfl ?_ (by rw[aL,cD];omega) (gO _));refine aa (Dg ho1 rfl ?_);refine aa (zb ?_ (by show vs.length<=_;rw[cD];omega));refine aa (AA ?_ (gO _));refine cW ?_;show aq (az prog w) A _ P E { s with heap:=((s.heap.update a (eK fun _=>(#[]:Array Value))).push (fY "tuple" vs.toArray 0)).push (fY "list" #[] 0) };dsimp only;generalize hH:((s.heap.update a (eK fun _=>(#[]:Array Value))).push (fY "tuple" vs.toArray 0)).push (fY "list" #[] 0)=H3 at hk1 ho3 ⊢;have fin:∀(st:SortSt),(FJ st).map (·.2)=(kH vs lt).toArray->CA st=none->(kH vs lt).length=vs.length->
   aq (az prog w) A (do
    let touched:=(<-seqEpoch a) != e1
    CT (.ref a) fun _=>(FJ st).map (·.2)
    if let some e:=CA st then rule "list.sort.comparison-raised";throw e
    if touched then rule "list.sort.modified";raiseError "ValueError" "list modified during sort"
    ret .none) P E { s with heap:=H3 }:=by
  intro st har hf hol;obtain⟨c2,hc2⟩:∃c2,(H3.update a (eK fun _=>(kH vs lt).toArray)).get? a=some (fY "list" (kH vs lt).toArray c2):=⟨_,yi ho3 fun _=>(kH vs lt).toArray⟩;refine aa (Dg (s:={ s with heap:=H3 }) ho3 rfl ?_);refine aa (Az (s:={ s with heap:=H3 }) ho3 rfl ?_ (gO _) ?_)
  ·rw[hf,har];simp only[bne_self_eq_false,jZ,if_false];refine aD (h _ c2 (fun b o hb e=>?_) hc2);rw[mO _ _ _ _ hb];exact hk1 b o hb e
  ·show((FJ st).map (·.2)).size<=_;rw[har,aL,hol,cD];omega
 by_cases h2:vs.length<2
 ·have hn2:vs.toArray.size<2:=by rw[aL];exact h2
  rw[if_pos hn2,if_pos hn2];have eo:kH vs lt=vs:=by
   unfold kH pW;rw[if_pos h2];apply List.ext_getElem
   ·simp
   ·intro i a1 a2;simp[aH,ak a2]
  refine aa (aD ?_);refine aa (aD ?_);refine fin (SortSt.mk' _ _ _ _ _) ?_ rfl (by rw[eo]);rw[eo];show((vs.toArray.zip vs.toArray).map (·.2))=vs.toArray;apply Array.toList_inj.mp;simp[List.map_snd_zip]
 ·have hn2:¬vs.toArray.size<2:=by rw[aL];exact h2
  have h2':2<=vs.length:=by omega
  rw[if_neg hn2,if_neg hn2];have hP:iY vs.length (vD lt (m6 vs.length)):=AH _ _ (uV (by omega));have eo:kH vs lt=(vD lt (m6 vs.length)).toList.map fun i=>vs.getD i bg:=by
   unfold kH pW;rw[if_neg h2]
  have hol:(kH vs lt).length=vs.length:=by
   rw[eo,aC,jB,hP.2.size_eq];simp
  obtain⟨κ,Uw⟩:=hC H3 hk1 h2';obtain⟨q1,q2⟩:=Uw { s with heap:=H3 } rfl;refine aa (q1 _ _ ?_);refine aa (cj (kat_run (s:={ s with heap:=H3 }) (Q:=fun st' s'=>s'={ s with heap:=H3 }/\(FJ st').map (·.2)=(kH vs lt).toArray/\CA st'=none)
   (G:=fun p s'=>p=vD lt (m6 vs.length)/\s'={ s with heap:=H3 }) rfl h2' h64
   (fun p st' s' _ har hf hg=>⟨hg.2,by rw[kat_snds rfl har,hg.1,eo],hf⟩)
   (Gn (B:=iY vs.length) (lt:=lt) (n:=vs.length) q2 _ _ (uV (by omega)) fun _=>⟨rfl,rfl⟩)) ?_ fun _ _ e=>e)
  rintro⟨⟨⟩,st'⟩ s' ⟨rfl,b1,b2⟩;exact fin st' b1 b2 hol
theorem Gq(hC:∀h',(∀b o,s.heap.get? b=some o->h'.get? b=some o)->2<=vs.length->DA prog w A.in1.in1 vs lt h')(h64:vs.length<64)
  (hc:∀R:List Value->ah->Prop,(∀h1 tk,(∀b o,s.heap.get? b=some o->h1.get? b=some o)->s.heap.objs.size<=h1.objs.size->R vs { s with heap:=h1,toks:=tk })->aq (az prog w) A.in1 (collect (.ref l)) R (fun _ _=>False) s)
  (h:∀h' a c tk,(∀b o,s.heap.get? b=some o->h'.get? b=some o)->s.heap.objs.size<=a->h'.get? a=some (fY "list" (kH vs lt).toArray c)->Q (.ref a) { s with heap:=h',toks:=tk }) :
  aq (az prog w) A (call (.builtin "sorted") [.ref l]) Q E s:=by
 refine Calls.call_function_entry kind_sorted plain_sorted entry_sorted (args_sorted1 _) ?_;unfold m7.«sorted»;refine aa (m:=checkCount "sorted" 1 1 _) (aD ?_);refine aa (cj (hc _ fun g1 tk k1 hz=>?_) (fun _ _ x=>x) fun _ _ x=>x.elim)
 ·dsimp only;refine aa (AA ?_ (by rw[cD];omega));have hoL:(g1.push (fY "list" vs.toArray 0)).get? g1.objs.size=some (fY "list" vs.toArray 0):=aO _ rfl;have keep:∀b o,s.heap.get? b=some o->(g1.push (fY "list" vs.toArray 0)).get? b=some o:=fun b o e=>aj _ (k1 b o e);refine aa (cW (dQ slot_list_sort ⟨_,hoL,rfl⟩ entry_list_sort ?body (args_list_sort _)))
  case body=>
   refine Bc (s:={ s with heap:=g1.push (fY "list" vs.toArray 0),toks:=tk }) hoL (fun h' k'=>hC h' fun b o e=>k' b o (be (bw (au e) hz)) (keep b o e)) h64 fun h' c k' e'=>?_;refine⟨_,rfl,aD ⟨_,rfl,h h' _ c tk (fun b o e=>k' b o ?_ (keep b o e)) hz e'⟩⟩;have:=au e;exact be (bw this hz)
theorem qD.keep'{h':Heap}(x:qD h v ks)(k:∀b o,h.get? b=some o->h'.get? b=some o):qD h' v ks:=by
 obtain⟨t,o,us,n,rfl,h1,h2⟩:=x;exact⟨t,o,us,n,rfl,k t o h1,h2⟩
theorem CY(hl:s.heap.IsList l vs.toArray)(hC:∀h',(∀b o,s.heap.get? b=some o->h'.get? b=some o)->2<=vs.length->DA prog w A.in1.in1 vs lt h')(h64:vs.length<64)
  (h:∀h' a c tk,(∀b o,s.heap.get? b=some o->h'.get? b=some o)->s.heap.objs.size<=a->h'.get? a=some (fY "list" (kH vs lt).toArray c)->Q (.ref a) { s with heap:=h',toks:=tk }) :
  aq (az prog w) A (call (.builtin "sorted") [.ref l]) Q E s:=by
 refine Gq hC h64 (fun R hR=>collect_list hl (hR _ s.toks (fun b o e=>?_) ?_) (by rw[cD];omega)) h
 ·rw[mO _ _ _ _ (be (au e))];exact aj _ e
 ·rw[Heap.size_update,size_push'];exact kP _
end
def qU(H:Hp):List (List Key)->List Addr->Prop:=Paired fun k t=>H t=some (.tup (k.map kV))
variable{P:a_}{w:bC}{H:Hp}
theorem MU{t:Addr}{k:List Key}(ok:d9 P w H h)(e:H t=some (.tup (k.map kV))):qD h (.ref t) k:=by
 obtain⟨_,its,r,o,h1,h2,n,h3⟩:=(show cU P w H h t (.tup (k.map kV))from ok t _ e);exact⟨t,o,its,n,rfl,h1,h2,h3,r⟩
theorem Bd(ok:d9 P w H h):∀{kss:List (List Key)}{ts:List Addr},qU H kss ts->Paired (qD h) (ts.map aN) kss
|_,_,.nil=>.nil
|_,_,.cons e r=>.cons (MU ok e) (Bd ok r)
theorem pY(ts:List Addr):∀idx:List Nat,(∀i∈idx,i<ts.length)->bh (idx.map fun i=>V.ref (ts.getD i 0)) (idx.map fun i=>(ts.map aN).getD i bg)
|[],_=>.nil
|i::r,h=>by
 refine .cons ?_ (pY ts r fun j hj=>h j (ao _ hj));have hi:=h i aG;have e1:(ts.map aN).getD i bg=.ref (ts.getD i 0):=by
  rw[aH,aH,aU,ak hi];rfl
 show RelV (.ref (ts.getD i 0)) ((ts.map aN).getD i bg);rw[e1];exact rfl
theorem xq(n:Nat)(lt:Nat->Nat->Bool):∀i∈pW n lt,i<n:=by
 unfold pW;split
 ·intro i hi;exact mZ.mp hi
 ·rename_i h;have hP:iY n (vD lt (m6 n)):=AH _ _ (uV (by omega));intro i hi;have:i∈(bq n).toArray:=hP.2.mem_iff.mp (by simpa using hi);simpa using this
theorem DB(n:Nat)(lt:Nat->Nat->Bool):(pW n lt).length=n:=by
 unfold pW;split
 ·simp
 ·rename_i h;have hP:iY n (vD lt (m6 n)):=AH _ _ (uV (by omega));rw[jB,hP.2.size_eq];simp
noncomputable def nI(kss:List (List Key)):List Nat:=pW kss.length (vG kss)
noncomputable def sortable(kss:List (List Key)):Bool:=decide (kss.length<64)&&kss.all fun k=>!k.isEmpty&&kss.all fun q=>jk k q
theorem vH(h:sortable kss=true):kss.length<64/\(∀k∈kss,k≠[])/\∀k∈kss,∀q∈kss,jk k q=true:=by
 unfold sortable at h;rw[bx]at h;have h2:=bz.mp h.2;refine⟨of_decide_eq_true h.1,fun k hk=>?_,fun k hk q hq=>?_⟩
 ·have:=h2 k hk;rw[bx]at this;intro z;rw[z]at this;exact absurd this.1 (by decide)
 ·have:=h2 k hk;rw[bx]at this;exact bz.mp this.2 q hq
def Be(H:Hp)(us:List V)(kss:List (List Key)):Prop:=(∃ts,us=ts.map V.ref/\qU H kss ts)\/(∃ss:List Str,us=ss.map V.str/\kss=ss.map fun x=>[.inr x])\/∃ns:List Int,us=ns.map V.int/\kss=ns.map fun x=>[.inl x]
variable{X:Cx}
theorem zA{us:List V}(h:bh us vs):∀idx:List Nat,(∀i∈idx,i<us.length)->bh (idx.map fun i=>us.getD i .non) (idx.map fun i=>vs.getD i bg)
|[],_=>.nil
|i::r,hi=>.cons (jw h i (hi i aG)) (zA h r fun j hj=>hi j (ao _ hj))
theorem Bg:∀{ts:List Addr}{vs:List Value},bh (ts.map V.ref) vs->vs=ts.map aN
|[],_,.nil=>rfl
|_::_,_,.cons h r=>by cases h;rw[Bg r];rfl
theorem Bh:jG X (.builtin "sorted") (fun vs H Q=>∃a us kss,vs=[.ref a]/\Rd H a (.lst us)/\Be H us kss/\sortable kss=true/\∀p,H p=none->Q (.ref p) (upd H p (.lst ((nI kss).map fun i=>us.getD i .non)))):=by
 intro pins s O H vs us Q I r h;obtain⟨a,xs,kss,rfl,hd,hk,hs,q⟩:=h;obtain⟨u,rfl,ru⟩:=vals1 r;cases ru;obtain⟨its,r1,p1,_⟩:=I.list (.inl hd:fy X.K H a xs);obtain⟨k1,k2,k3⟩:=vH hs;have hl:its.length=kss.length:=by
  rw[<-r1.length];rcases hk with⟨ts,rfl,ht⟩|⟨ss,rfl,rfl⟩|⟨ss,rfl,rfl⟩
  ·rw[aC];exact(Paired.length ht).symm
  ·simp
  ·simp
 refine CY (lt:=vG kss) p1.isList (fun h' k h2=>?_) (by omega) fun h' b c tk keep hle e=>?_
 ·rcases hk with⟨ts,rfl,ht⟩|⟨ss,rfl,rfl⟩|⟨ss,rfl,rfl⟩
  ·have e:its=ts.map aN:=Bg r1;subst e;exact Jt (Paired.imp' (fun v ks x=>qD.keep' x k) (Bd I.hok ht)) k2 k3 h2
  ·exact Ju r1 h2
  ·exact Jv r1 h2
 ·have lt:∀i∈nI kss,i<xs.length:=fun i hi=>by rw[r1.length,hl];exact xq _ _ i hi
  refine⟨.ref b,_,I.laid (a:=b) (o:=.lst ((nI kss).map fun i=>xs.getD i .non)) (t':=tk) keep hle ⟨?_,_,c,zA r1 _ lt,?_⟩,rfl,q _ (I.hok.fresh hle)⟩
  ·rw[aC];unfold nI;rw[DB,cD];omega
  ·have eo:kH its (vG kss)=(nI kss).map fun i=>its.getD i bg:=by
    unfold kH nI;rw[hl]
   rw[<-eo];exact e
end L2
end
section
namespace L2
open PySem PySem.Spec PyProof.Rows
def ED(m:Bool)(P:Addr->Prop)(h:Heap)(e:Addr)(fl:Value->Prop)(v:Value):Prop:=
 (m=false/\v=.none)\/∃T oT ts f,v=.ref T/\T≠e/\h.get? T=some oT/\oT.data=.fields ts/\ts[3]?=some f/\fl f/\P T
def DC(vs:Array Value):Prop:=vs.size=6/\vs[2]?=some .none
theorem DC.set{vs:Array Value}{x:Value}(h:DC vs):DC (vs.setIfInBounds 1 x):=⟨by rw[Array.size_setIfInBounds];exact h.1,by rw[Array.getElem?_setIfInBounds_ne (by decide)];exact h.2⟩
structure ExcAt (m:Bool) (P:Addr->Prop) (h:Heap) (e C:Addr) (od:Option Addr) (fl:Value->Prop):Prop where
 at_:∃oe vs v,h.get? e=some oe/\oe.cls=.ref C/\oe.dict=od/\oe.data=.fields vs/\DC vs/\vs[1]?=some v/\ED m P h e fl v
 ok:P e
abbrev Bj(m:Bool)(X:Cx)(pins:List (Addr×Obj))(H:Hp)(s:ah)(e C:Addr)(od:Option Addr)(fl:Value->Prop):Prop:=ExcAt m (gS X pins H) s.heap e C od fl
variable{h':Heap}
variable{h:Heap}
variable{m:Bool}{fl:Value->Prop}{Q:Unit->ah->Prop}{E:Value->ah->Prop}
section
variable{X:Cx}{pins:List (Addr×Obj)}{O:St}{H:Hp}{s:ah}{e C:Addr}{od:Option Addr}
theorem Inv.fld{t:Addr}(I:Inv X pins O H s)(f:gS X pins H t)(k:∀b o,b≠t->s.heap.get? b=some o->h'.get? b=some o):Inv X pins O H { s with heap:=h' }:=
 I.turned (t':=s.toks) k f.1 f.2.1 f.2.2.2.1 f.2.2.2.2.1 f.2.2.2.2.2
theorem xr{a:Addr}{o:Obj}{vs:Array Value}(i:Nat)(x:Value)(ho:h.get? a=some o)(hd:o.data=.fields vs) :
  ∃o',(h.update a (k8 (·.setIfInBounds i x))).get? a=some o'/\o'.cls=o.cls/\o'.dict=o.dict/\o'.data=.fields (vs.setIfInBounds i x):=by
 have hd':=nF hd (·.setIfInBounds i x);refine⟨_,gq _ ho (rD hd'),vm ..,?_,hd'⟩;obtain⟨c,d,dat,sl⟩:=o;dsimp only at hd;subst hd;rfl
theorem pZ{fr:Option Addr}(I:Inv X pins O H s)(F:Bj m X pins H s e C od fl)
  (h:∀s',Inv X pins O H s'->Bj m X pins H s' e C od (fun v=>v=fr.elim .none fun f=>gm f)->Q () s'):aq (az X.prog X.w) X.A (setFlight (.ref e) fr) Q E s:=by
 obtain⟨⟨oe,vs,v,he,hc,hdi,hd,hz,h1,ht⟩,fe⟩:=F;unfold setFlight;refine aa (bK he hd h1 ?_);rcases ht with⟨hm,rfl⟩|⟨T,oT,ts,f,rfl,hTe,hT,hdT,h3,_,fT⟩
 ·exact aD (h s I ⟨⟨oe,vs,_,he,hc,hdi,hd,hz,h1,.inl ⟨hm,rfl⟩⟩,fe⟩)
 ·rw[if_pos (show(aN T != bg)=true from by simp)];have hlt:3<ts.size:=(nS.mp h3).1;refine f9 hT hdT hlt ?_;have other:∀b,b≠T->(s.heap.update T (k8 (·.setIfInBounds 3 (fr.elim .none fun f=>gm f)))).get? b=s.heap.get? b:=fun b hb=>dh _ _ (cP hb);obtain⟨o',e1,_,_,e2⟩:=xr 3 (fr.elim .none fun f=>gm f) hT hdT;refine h _ (I.fld fT fun b o hb q=>(other b hb).trans q) ⟨⟨oe,vs,_,(other e (cP hTe)).trans he,hc,hdi,hd,hz,h1,.inr ⟨T,o',_,_,rfl,hTe,e1,e2,?_,rfl,fT⟩⟩,fe⟩;simp[hlt]
theorem Inv.slots(I:Inv X pins O H s)(k:Heap.SlotsOnly (frs X.stack) s.heap h'):Inv X pins O H { s with heap:=h' }:=by
 refine I.call (ch:=[]) (t':=s.toks) (d':=s.drawn) (g':=s.gens) ⟨fun b o e n hb _=>(k.2.1 b hb).trans e,fun b o e n _ _=>k.2.2 b o e,fun _ _ _ n _=>n,fun b o e _=>?_,fun _ _ q=>q,fun _ _ _ q=>q,fun b ps q=>⟨#[],by rw[q];simp⟩⟩ (fun a o q=>?_) I.bare (fun _ z=>nomatch z)
 ·obtain⟨sl,q⟩:=k.2.2 b o e;exact⟨_,q⟩
 ·have hk:∀b u,(b=a\/H b=some (.own a))->s.heap.get? b=some u->h'.get? b=some u:=fun b u hb e=>by
   refine(k.2.1 b fun z=>?_).trans e;have hn:=I.uQ b z;rcases hb with rfl|hb
   ·rw[hn]at q;cases q
   ·rw[hn]at hb;cases hb
  exact(I.hok a o q).stay hk (fun _ z=>z) fun _ _ z=>z
theorem yr(hst:X.stack=X.env::X.outer)(hf:X.env.frame=some X.env.locals)(I:Inv X pins O H s)
  (F:Bj m X pins H s e C od (fun f=>f=.none\/f=gm X.env.locals))
  (h:∀s',Inv X pins O H s'->Bj true X pins H s' e C od (fun f=>f=gm X.env.locals)->Q () s'):aq (az X.prog X.w) X.A (Aj (.ref e) X.env) Q E s:=by
 have new:∀{s:ah}{head:Value}{b:Bool},Inv X pins O H s->(∃oe vs,s.heap.get? e=some oe/\oe.cls=.ref C/\oe.dict=od/\oe.data=.fields vs/\DC vs)->gS X pins H e->
   aq (az X.prog X.w) X.A (do setField (.ref e) 1 (<-s_ head (<-frameOf X.env) .none (gm X.env.locals) .none (<-entryPlaceOf X.env.locals b))) (fun _ s'=>Inv X pins O H s'/\Bj true X pins H s' e C od (fun f=>f=gm X.env.locals)) E s:=by
  rintro s head b I ⟨oe,vs,he,hc,hdi,hd,hz⟩ fe;have hfr:X.A.frames=some (X.env::X.outer):=by rw[<-hst];exact I.ok.frames
  have hl:=I.stack;rw[hst]at hl;refine aa (wpAny_frameOf_fun hfr hl hf fun TN TR=>?_);rw[<-hst]at TR;have I1:Inv X pins O H { s with heap:=TN }:=I.slots TR;have he1:TN.get? e=some oe:=by
   refine(TR.2.1 e fun z=>?_).trans he;rcases aQ.mp (I.nt e z)with z|z
   ·exact fe.2.1 z
   ·exact fe.2.2.1 z
  refine aa (wpAny_entryPlaceOf fun pl hpl=>?_);unfold s_ newFields;refine aa (gD ?_ (hpl.sizeOk5 _ _ _ _ _));generalize hts:([head,aN X.env.locals,bg,gm X.env.locals,bg]++(if pl.isEmpty then aW 6 bg else pl)).toArray=ts;have ht3:ts[3]?=some (gm X.env.locals):=by rw[<-hts];rfl
  have I2:Inv X pins O H { s with heap:=TN.push { cls:=.type "traceback",dict:=none,data:=.fields ts } }:=I1.kept (t':=s.toks) fun b o q=>aj _ q;have he2:=aj (h:=TN) { cls:=.type "traceback",dict:=none,data:=.fields ts } he1;have hT2:=aO TN (o:={ cls:=.type "traceback",dict:=none,data:=.fields ts }) rfl;have hTe:TN.objs.size≠e:=jb (au he1);have fT:gS X pins H TN.objs.size:=I1.k9 (aT _) (I1.hok.fresh (aT _));refine f9 he2 hd (by rw[hz.1];decide) ?_;obtain⟨o',e1,e2,e3,e4⟩:=xr 1 (.ref TN.objs.size) he2 hd;have other:∀b,b≠e->((TN.push { cls:=.type "traceback",dict:=none,data:=.fields ts }).update e (k8 (·.setIfInBounds 1 (.ref TN.objs.size)))).get? b=(TN.push { cls:=.type "traceback",dict:=none,data:=.fields ts }).get? b:=fun b hb=>dh _ _ (cP hb);refine⟨I2.fld fe fun b o hb q=>(other b hb).trans q,⟨⟨o',_,_,e1,e2.trans hc,e3.trans hdi,e4,hz.set,?_,.inr ⟨_,_,ts,_,rfl,hTe,(other _ hTe).trans hT2,rfl,ht3,rfl,fT⟩⟩,fe⟩⟩;have:1<vs.size:=by rw[hz.1];decide
  simp[this]
 obtain⟨⟨oe,vs,v,he,hc,hdi,hd,hz,h1,ht⟩,fe⟩:=F;unfold Aj;simp only[hf];refine aa (bK he hd h1 ?_);rcases ht with⟨hm,rfl⟩|⟨T,oT,ts,f,rfl,hTe,hT,hdT,h3,hfl,fT⟩
 ·exact aY (new (b:=_) I ⟨oe,vs,he,hc,hdi,hd,hz⟩ fe) fun _ s' q=>h s' q.1 q.2
 ·rw[if_pos (show(aN T != bg)=true from by simp)];refine aa (bK hT hdT h3 ?_);by_cases c:f=gm X.env.locals
  ·rw[if_pos (show(f==gm X.env.locals)=true from by rw[c];simp)];exact aD (h s I ⟨⟨oe,vs,_,he,hc,hdi,hd,hz,h1,.inr ⟨T,oT,ts,f,rfl,hTe,hT,hdT,h3,c,fT⟩⟩,fe⟩)
  ·have hlt:3<ts.size:=(nS.mp h3).1;have cn:(f==gm X.env.locals)=false:=by
    rcases hfl with rfl|z
    ·rfl
    ·exact absurd z c
   rw[if_neg (by rw[cn];exact aE)];refine aa (f9 hT hdT hlt ?_);have other:∀b,b≠T->(s.heap.update T (k8 (·.setIfInBounds 3 .none))).get? b=s.heap.get? b:=fun b hb=>dh _ _ (cP hb);exact aY (new (b:=_) (I.fld fT fun b o hb q=>(other b hb).trans q) ⟨oe,vs,(other e (cP hTe)).trans he,hc,hdi,hd,hz⟩ fe) fun _ s' q=>h s' q.1 q.2
end
noncomputable def je(P:a_)(w:bC):vA:=fun outer H s E v s'=>∃e C od H',v=.ref e/\s'.os=s.os/\jy s'.gens/\Un (frs outer) [] H H' s.heap s'.heap/\d9 P w H' s'.heap /\
 ExcAt true (fun b=>H' b=none/\s.heap.objs.size<=b) s'.heap e C od (fun f=>f=.none)/\E (.ref C) od H'
variable{P':Addr->Prop}{e:Addr}{fl':Value->Prop}{v:Value}
theorem ED.imp{P:Addr->Prop}(x:ED m P h e fl v)(hp:∀b,P b->P' b)(hf:∀f,fl f->fl' f):ED m P' h e fl' v:=by
 rcases x with x|⟨T,oT,ts,f,h1,h2,h3,h4,h5,h6,h7⟩
 ·exact .inl x
 ·exact .inr ⟨T,oT,ts,f,h1,h2,h3,h4,h5,hf f h6,hp T h7⟩
variable{C:Addr}{od:Option Addr}
theorem ExcAt.imp{P:Addr->Prop}(x:ExcAt m P h e C od fl)(hp:∀b,P b->P' b)(hf:∀f,fl f->fl' f):ExcAt m P' h e C od fl':=by
 obtain⟨⟨oe,vs,v,h1,h2,h3,h4,h5,h6,h7⟩,h8⟩:=x;exact⟨⟨oe,vs,v,h1,h2,h3,h4,h5,h6,h7.imp hp hf⟩,hp e h8⟩
def qE(X:Cx)(E:XK):Value->ah->Prop:=fun v s=>∃m e C od pins O H,v=.ref e/\Inv X pins O H s/\Bj m X pins H s e C od (fun f=>f=.none\/f=gm X.env.locals)/\E (.ref C) od H
section
variable{X:Cx}{E:XK}
theorem MV:tL (je X.prog X.w) (X.iL (qE X E)) E:=by
 rintro pins O H s v s' I ⟨e,C,od,H',rfl,os,bare,un,hok,x,q⟩;have I0:=I.gR;obtain⟨hh,g,d,t,os'⟩:=s';obtain rfl:os'=s.os:=os;have I1:Inv X pins O H' { s with heap:=hh,gens:=g,drawn:=d,toks:=t }:=I0.call (h':=hh) (g':=g) (d':=d) (t':=t) (ch:=[]) un hok bare (fun b z=>absurd z (by simp));exact⟨true,e,C,od,pins,O,H',rfl,I1,x.imp (fun b hb=>I0.k9 hb.2 hb.1) fun f hf=>.inl hf,q⟩
theorem EE(hst:X.stack=X.env::X.outer)(hf:X.env.frame=some X.env.locals):uC (az X.prog X.w) X.A X.env (qE X E):=by
 rintro v s ⟨m,e,C,od,pins,O,H,rfl,I,F,q⟩;refine yr hst hf I F fun s1 I1 F1=>?_;unfold cameBackBy;obtain⟨⟨oe,vs,v,he,hc,hdi,hd,hz,h1,ht⟩,fe⟩:=id F1;rcases ht with⟨hm,_⟩|⟨T,oT,ts,f,rfl,hTe,hT,hdT,h3,hfl,fT⟩
 ·cases hm
 ·refine aa (bK he hd h1 ?_);rw[if_neg (show ¬(aN T==bg)=true from aE)];refine pZ I1 F1 fun s2 I2 F2=>⟨true,e,C,od,pins,O,H,rfl,I2,F2.imp (fun _ z=>z) fun f hz=>.inr ?_,q⟩;rw[hz,hf];rfl
end
variable{P:a_}{w:bC}{K:PySem.W.Frag}{mg:Str->Option Value}{base:Heap}{N:List Str}{qual:Str}{scope:eU}{f:Addr}{cd:Value}{A:bU}{outer:List Env}{s:ah}{H:Hp}
theorem O0{E:XK}{s':ah}
  (h:qE (gT (je P w) P w K mg base N qual scope f cd A outer s H E) E v s'):(gT (je P w) P w K mg base N qual scope f cd A outer s H E).xe v s':=by
 obtain⟨m,e,C,od,pins,O,H1,rfl,I,F,q⟩:=h;show aq (az P w) _ (Eh _ (.ref e)) _ _ s';unfold Eh;refine aa ?_;refine yr (X:=gT (je P w) P w K mg base N qual scope f cd A outer s H E) rfl rfl I F fun s1 I1 F1=>?_;refine pZ I1 F1 fun s2 I2 F2=>⟨e,C,od,H1,rfl,I2.os,I2.bare,I2.base,I2.hok,F2.imp (fun b hb=>⟨hb.1,?_⟩) fun _ z=>z,q⟩;rcases hb.2.2.2.1 with z|z
 ·exact absurd (show b∈([]:List Addr)from z) (by simp)
 ·exact z
variable{body:List Stmt}
theorem O1{E:XK}{t:TS}
  (h:lR ((gT (je P w) P w K mg base N qual scope f cd A outer s H E).iL (qE (gT (je P w) P w K mg base N qual scope f cd A outer s H E) E)) body t):lR (gT (je P w) P w K mg base N qual scope f cd A outer s H E) body t:=
 fun pins s1 O H1 D I hw=>cj (h pins s1 O H1 D (I.iL _) hw) (fun _ _ q=>q.gR) fun _ _ q=>O0 q
section
variable{P:a_}{w:bC}{A:bU}{E:Value->ah->Prop}{h:Heap}{g:Array GenState}{d:Drawn}{t:Nat}{os:OsState}
variable{nm q:Str}{C N fI:Addr}{bs bm bmB:List Value}{hdct:Bool}{sn:List Str}{sub:List Value}{ab:Bool}{col:Option Bool}{dd:Option Addr}{k0 k1 k2 k3 k5:Option Value}{B newId initId:String}{us:List Value}{K:PySem.W.Frag}
noncomputable abbrev vI(C a:Addr):Obj:={ cls:=.ref C,data:=.fields #[.ref a,.none,.none,.none,.bool false,.none] }
noncomputable abbrev tP(us:List Value):Obj:={ cls:=.type "tuple",data:=.seq us.toArray }
theorem CZ{Q:Fin->ah->Prop}(F:CC B newId initId bmB)(T:Ek h bmB bm)
  (hC:h.get? C=some (gP nm q C N bs bm hdct sn sub ab col dd k0 k1 k2 k3 k5 newId)) (X:K.In h) (hi:PySem.W.findIn K (.ref C) "__init__"=some (some (.ref fI))) (hf:PySem.W.typeIn K (.ref fI)=some (.type "function"))
  (hl:us.length<=ai) (hq:aq (az P w) A (call (.ref fI) (.ref (h.objs.size+1)::us)) (fun r s'=>r=.none/\Q (.done (.ret (.ref (h.objs.size+1)))) s') E ⟨(h.push (tP us)).push (vI C h.objs.size),g,d,t,os⟩) :
  aq (az P w) A (m7.«type.__call__» ⟨.ref C::us,[]⟩) Q E ⟨h,g,d,t,os⟩:=by
 repeat (first
  |with_reducible refine fU hC ?_
  |with_reducible refine wpAny_madeBy_exc hC ?_
  |wp_step)
 refine codeAny_call_builtin_code (uK _ F.quiet) (wpAny_check_new_subT F T hC ?_);refine codeAny_exc_new_subT F T hC ?_ hl;show aq _ _ _ _ _ _;have up:∀b o,h.get? b=some o->((h.push (tP us)).push (vI C h.objs.size)).get? b=some o:=fun b o e=>aj _ (aj _ e);have c1:=up _ _ hC;have X1:K.In ((h.push (tP us)).push (vI C h.objs.size)):=X.keeps up;have x1:((h.push (tP us)).push (vI C h.objs.size)).get? (h.objs.size+1)=some (vI C h.objs.size):=by heap_get
 have hcc:(aN C::bm).contains (.ref C)=true:=by simp
 unfold sJ
 repeat (first
  |with_reducible refine fU x1 ?_
  |(with_reducible refine mP c1 ?_;rw[hcc])
  |wp_step)
 show aq _ _ (FE (.ref C) _) _ _ _;refine(PySem.W.looks_findIn X1 hi).at ?_;refine cW (aa ((PySem.W.bind_fn X1 _ hf).at ?_));refine aa (cj hq (fun r s' hr=>?_) fun _ _ x=>x);obtain⟨rfl,hr⟩:=hr
 wp_walk
 exact hr
theorem O2{Q:Value->ah->Prop}(F:CC B newId initId bmB)(T:Ek h bmB bm)
  (hC:h.get? C=some (gP nm q C N bs bm hdct sn sub ab col dd k0 k1 k2 k3 k5 newId)) (X:K.In h) (hi:PySem.W.findIn K (.ref C) "__init__"=some (some (.ref fI))) (hf:PySem.W.typeIn K (.ref fI)=some (.type "function"))
  (hl:us.length<=ai) (hq:aq (az P w) (A.under (.builtin "type.__call__" ⟨.ref C::us,[]⟩)) (call (.ref fI) (.ref (h.objs.size+1)::us)) (fun r s'=>r=.none/\Q (.ref (h.objs.size+1)) s') E ⟨(h.push (tP us)).push (vI C h.objs.size),g,d,t,os⟩) :
  aq (az P w) A (call (.ref C) us) Q E ⟨h,g,d,t,os⟩:=by
 have z1:=tc_lookup;have z2:=tc_bind (.ref C);have z3:(⟨h,g,d,t,os⟩:ah).TypeIs (.ref C) "type":=⟨_,hC,rfl⟩;refine kq (codeAny_of_tree ?_);show aq _ _ (callAny (.ref C) _) _ _ _
 repeat (any_goals (first
  |assumption
  |with_reducible refine fU hC ?_
  |wp_step))
 refine⟨rfl,?_⟩;exact codeAny_call_builtin_at (uK _ (by decide +kernel)) entry_typeCall (wpAny_check_type_call_sub hC (CZ F T hC X hi hf hl hq))
end
structure tQ (K:PySem.W.Frag) (C:Addr):Prop where
 ga:PySem.W.findIn K (.ref C) "__getattribute__"=some (some (.builtin "BaseException.__getattribute__"))
 gt:PySem.W.findIn K (.ref C) "__getattr__"=some none
 sa:PySem.W.findIn K (.ref C) "__setattr__"=some (some (.builtin "object.__setattr__"))
 hd:PySem.W.hasDictIn K C=true
 sb:PySem.W.mroIn K C (.type "BaseException")=some true
 ob:PySem.W.mroIn K C (.type "object")=some true
variable{expr:Bool}{tk:Tok}
section
variable{P:a_}{w:bC}{A:bU}{E:Value->ah->Prop}{s:ah}{K:PySem.W.Frag}{x C:Addr}{ox:Obj}{od:Option Obj}{name:Str}
theorem zB{P':Value->ah->Prop}{fill:Bool}(X:K.In s.heap)(I:PySem.W.InstAt s.heap x ox C od)(c:tQ K C)(hv:PySem.W.handedIn v=true)
  (h:aq (az P w) A.in1 (m7.«object.__getattribute__» ⟨[.ref x,.str name tk],[]⟩) (fun fin s'=>fin=.done (.ret v)/\P' v s') (fun _ _=>False) s) :
  aq (az P w) A (getAttrBy (.ref x) (.str name tk) fill expr) P' E s:=by
 obtain⟨hh,g,d,t,os⟩:=s;have L0:=I.type (M:=az P w);have L1:=PySem.W.looks_findIn (M:=az P w) X c.ga;have L2:=PySem.W.looks_findIn (M:=az P w) X c.gt;have hs:PySem.W.Looks (az P w) hh (sJ (.ref x) (.type "BaseException")) true:=L0.andThen (PySem.W.looks_mroIn X c.sb);unfold getAttrBy;refine cW (aa (L0.at (aa (L1.at ?_))));have hne:(onTheHeap (aN C)&&nT "BaseException.__getattribute__"==nT "object.__getattribute__")=false:=by
  rw[show(nT "BaseException.__getattribute__"==nT "object.__getattribute__")=false from by decide +kernel,m5]
 dsimp only;rw[hne,if_neg aE];unfold getAttrByItsOwn hookBefore;refine aa (L2.at ?_);refine aa (gw (cW ?_));unfold callGetattribute;rw[if_neg (by cases expr<;>exact aE)];unfold boundAndCalled;rw[PySem.F.attr_ValueError.ga.bind];refine aa (aD (kq ?_));show jc (az P w) A (.call (.builtin "BaseException.__getattribute__") ⟨[.ref x,.str name tk],[]⟩) _ _;have k1:builtinKind "BaseException.__getattribute__"=some .slot:=by decide +kernel
 have k2:splitId "BaseException.__getattribute__"=some ("BaseException","__getattribute__"):=by decide +kernel
 refine sL PySem.F.attr_ValueError.ga.plain PySem.F.entry_bexc_ga (@PySem.W.check_slot (az P w) _ _ ⟨hh,g,d,t,os⟩ "BaseException.__getattribute__" "BaseException" "__getattribute__" (.ref x) [.str name tk] [] _ k1 k2 hs (PySem.F.args_bexc_ga (.ref x) (.str name tk)) ?_);refine cj h (fun fin s' z=>?_) fun _ _ z=>z.elim;obtain⟨rfl,z⟩:=z;show aq _ _ (handedOut v) _ _ _;rw[PySem.W.handedOut_of hv];exact aD z
theorem SA{Q:Value->ah->Prop}(X:K.In s.heap)(I:PySem.W.InstAt s.heap x ox C od)(c:tQ K C)(hf:PySem.W.findObj K C od name=some (.value v))(hv:PySem.W.handedIn v=true)
  (h:Q v { s with toks:=s.toks+1 }):aq (az P w) A (rB (.ref x) name expr) Q E s:=by
 unfold rB;refine aa (CF ?_);refine zB (s:={ s with toks:=s.toks+1 }) X I c hv ?_;obtain⟨hh,g,d,t,os⟩:=s;have L0:=I.type (M:=az P w);have L1:=PySem.W.looks_find (M:=az P w) X I hf;refine aa (aD (aa (aD (aa (L0.at (aa (L1.at ?_)))))));exact aD ⟨rfl,h⟩
theorem O3(c:tQ K C)(ha:PySem.W.findIn K (.ref C) "__class__"=some (some (.builtin "object.__class__")))
  (hn:PySem.W.specialIn K (.builtin "object.__class__") "__get__"=some (some (.builtin "getset_descriptor.__get__"))) (htk:PySem.W.takesIn K (.builtin "object.__class__")=some true) :
  PySem.W.KitX K (.ref x) (.ref C) (fun h=>PySem.W.InstAt h x ox C od) where
 ty:=fun _ _ _ I=>I.type
 it:=fun M h X _=>by
  obtain⟨cd,hc,_⟩:=PySem.W.any_some c.hd;unfold PySem.W.clsIn at hc;split at hc
  ·rename_i ho;intro A' Q' E' s' k q;unfold isType loadHead;exact aa (rE (k _ _ (X _ _ ho)) (aD q))
  ·cases hc
 ne:=fun h tp dd its n sl X htp=>by
  obtain⟨cd,hc,_⟩:=PySem.W.any_some c.hd;refine Bool.eq_false_iff.mpr fun z=>?_;cases Oe (beq_iff_eq.mp z);unfold PySem.W.clsIn at hc;split at hc
  ·rename_i ho;have z:=(X _ _ ho).symm.trans htp;cases z
  ·cases hc
 ca:=fun{P w A E Q s} X I k=>by
  have hf:PySem.W.findObj K C od "__class__"=some (.bind (.builtin "getset_descriptor.__get__") (.builtin "object.__class__")):=by
   obtain⟨cd,hc,_⟩:=PySem.W.any_some c.hd;unfold PySem.W.findObj;rw[hc,Option.bind_some,ha];simp[hn,htk]
  unfold getAttr?;refine aa (CF ?_);unfold getAttrBy?;refine aa (gw ?_);refine zB (s:={ s with toks:=s.toks+1 }) (v:=.ref C) X I c rfl ?_;obtain⟨hh,g,d,t,os⟩:=s;have L0:=I.type (M:=az P w);have L1:=PySem.W.looks_find (M:=az P w) X I hf;refine aa (aD (aa (aD (aa (L0.at (aa (L1.at ?_)))))));show aq _ _ (lQ [_] (call _ [_,.ref x,.ref C]) >>= ret) _ _ _;refine aa (cW (kq (PySem.W.class_get (s:=⟨hh,g,d,t+1,os⟩) (ox:=ox) (od:=od) X I c.ob ?_)));exact aD ⟨rfl,aD k⟩
noncomputable def qV:List Value->Bool
|.ref _::r=>qV r
|l=>l==[.type "ValueError",.type "Exception",.type "BaseException",.type "object"]
theorem MW(self:Value):FL self "__setattr__" [.type "ValueError",.type "Exception",.type "BaseException",.type "object"]=pure ():=by kernel_rfl
theorem Gr(self:Value):∀(l:List Value),qV l=true->FL self "__setattr__" l=pure ():=by
 intro l;induction l with
 |nil=>intro e;cases e
 |cons v r ih=>
  intro e;unfold qV at e;split at e
  ·rename_i z;cases z;rw[refuseLoop_ref];exact ih e
  ·rw[beq_iff_eq.mp e];exact MW self
theorem O4{R:Ct->ah->Prop}(X:K.In s.heap)(I:PySem.W.InstAt s.heap x ox C od)(c:tQ K C)(hm:(PySem.W.clsIn K C).any (fun cd=>qV cd.mro)=true)(hf:PySem.W.findIn K (.ref C) name=some none)
  (h:aq (az P w) A.in1 (gQ (.ref x) (.ref C) (.str name tk) name v false)
   (fun fin s'=>match fin with|.done f=>R (.ok f) s'|.again c'=>c'.quiet=true/\jc (az P w) A c' R s') (fun e s'=>R (.error e) s') s) :
  jc (az P w) A (.call (.builtin "object.__setattr__") ⟨[.ref x,.str name tk,v],[]⟩) R s:=by
 have SF:=PySem.F.store_object;obtain⟨cd,hc,ho⟩:=PySem.W.any_some hm;have sub:PySem.W.Looks (az P w) s.heap (sJ (.ref x) (.type "object")) true:=I.type.andThen (PySem.W.looks_mroIn X c.ob);have lm:PySem.W.Looks (az P w) s.heap (mroOf (.ref C)) cd.mro:=(PySem.W.looks_clsIn X hc).andThen .now;refine sL SF.slot.plain SF.entry (@PySem.W.check_slot (az P w) _ _ s "object.__setattr__" "object" "__setattr__" (.ref x) [.str name tk,v] [] _ SF.kind SF.split sub (SF.args (.ref x) (.str name tk) v) ?_);rw[PySem.W.osa_eq,refuse_eq];refine aa (aa (I.type.here (aa (lm.here ?_))));rw[Gr _ _ ho];exact aD (aa (I.type.here (aa ((PySem.W.looks_findIn X hf).here (aa (aD h))))))
end
def Gs(m:Bool)(e C:Addr)(od:Option Addr)(h:Heap):Prop:=∃oe vs,h.get? e=some oe/\oe.cls=.ref C/\oe.dict=od/\oe.data=.fields vs/\(DC vs/\(m=true->vs[1]?=some .none))
def O5(d:Addr)(fs:List (Str×V))(h:Heap):Prop:=∃mA,h.Ns1 d mA/\(∀f,jP (fs.lookup f) (mA f))/\PySem.Within mA (fs.map (·.1))/\fs.length<=1000
noncomputable def eF(m:Bool)(e C:Addr)(od:Option Addr):HO:=.ext (Gs m e C od)
noncomputable def f_(d:Addr)(fs:List (Str×V)):HO:=.ext (O5 d fs)
theorem xu(x:Gs m e C od h):cU P w H h e (eF m e C od):=by
 refine⟨x,?_,?_⟩
 ·obtain⟨oe,_,h1,_⟩:=x;exact⟨oe,h1⟩
 ·rintro h1 h2 ⟨oe,vs,q1,q⟩ k;exact⟨oe,vs,k _ q1,q⟩
variable{d:Addr}{fs:List (Str×V)}
theorem Bk(x:O5 d fs h):cU P w H h d (f_ d fs):=by
 refine⟨x,?_,?_⟩
 ·obtain⟨mA,⟨o,_,_,h1,_⟩,_⟩:=x;exact⟨o,h1⟩
 ·rintro h1 h2 ⟨mA,n,q⟩ k;exact⟨mA,n.at k,q⟩
theorem rN(ok:d9 P w H h)(q:H e=some (eF m e C od)):Gs m e C od h:=(show cU P w H h e (eF m e C od)from ok e _ q).1
theorem AI(ok:d9 P w H h)(q:H d=some (f_ d fs)):O5 d fs h:=(show cU P w H h d (f_ d fs)from ok d _ q).1
structure qW (K:PySem.W.Frag) (C:Addr):Prop extends tQ K C where
 tl:(PySem.W.clsIn K C).any (fun cd=>qV cd.mro)=true
variable{u:Value}
section
variable{X:Cx}{pins:List (Addr×Obj)}{O:St}{H:Hp}{s:ah}{e C:Addr}{f:Str}{A:bU}{E:Value->ah->Prop}
theorem Rc{y:V}(I:Inv X pins O H s)(q:H e=some (eF m e C none))(c:qW X.K C)(n:iC X.K C f)(ry:RelV y u)
  (h:∀d s',H d=none->Inv X pins O (upd (upd H d (f_ d [(f,y)])) e (eF m e C (some d))) s'->Q () s'):aq (az X.prog X.w) A (setAttr (.ref e) f u) Q E s:=by
 obtain⟨oe,vs,he,hc,hdi,hd,hz⟩:=rN I.hok q;have J:PySem.W.InstAt s.heap e oe C none:=⟨he,hc,by unfold PySem.W.notCls;rw[hd],by rw[hdi];trivial⟩;refine PySem.W.set_plain I.dR J c.sa (O4 (s:={ s with toks:=s.toks+1 }) I.dR J c.totQ c.tl n ?_);obtain⟨cd,hcd,hhd⟩:=PySem.W.any_some c.hd;obtain⟨oc,odi,oda,osl⟩:=oe;dsimp only at hc hdi hd;subst hc hdi hd;unfold gQ;refine aa (aD (aa ?_));unfold kr CH;refine aa (rE he (aa (PySem.W.Looks.here (s:={ s with toks:=s.toks+1 }) (PySem.W.looks_clsIn I.dR hcd) ?_)));dsimp only;rw[hhd];refine aa (Dh ?_);have e1:(s.heap.push PySem.W.emptyDict).get? s.heap.objs.size=some PySem.W.emptyDict:=aO s.heap rfl;have e3:(s.heap.push PySem.W.emptyDict).Ns1 s.heap.objs.size (fun _=>none):=Ja ⟨PySem.W.emptyDict,#[],_,e1,rfl,(fun e he=>absurd he (by simp)),fun _=>rfl⟩;have hn:H s.heap.objs.size=none:=I.hok.fresh (aT _);have hne:e≠s.heap.objs.size:=be (au he);have he1:=aj (h:=s.heap) PySem.W.emptyDict he;have I1:=I.laid (a:=s.heap.objs.size) (o:=f_ s.heap.objs.size []) (h':=s.heap.push PySem.W.emptyDict) (t':=s.toks+1) (fun b u q=>aj _ q) (aT _)
  (Bk ⟨fun _=>none,e3,fun _=>trivial,fun y hy=>absurd rfl hy,gO _⟩)
 refine aa (wpAny_update he1 (aD ?_));have he2:=gq (h:=s.heap.push PySem.W.emptyDict) (fun o=>{ o with dict:=some s.heap.objs.size }) he1 rfl;have other:∀b,b≠e->((s.heap.push PySem.W.emptyDict).update e fun o=>{ o with dict:=some s.heap.objs.size }).get? b=(s.heap.push PySem.W.emptyDict).get? b:=fun b hb=>dh _ _ (cP hb);have q1:(upd H s.heap.objs.size (f_ s.heap.objs.size [])) e=some (eF m e C none):=by rw[aK hne];exact q
 have I2:=I1.write (x:=e) (e:=e) (o:=eF m e C (some s.heap.objs.size)) (h':=(s.heap.push PySem.W.emptyDict).update e fun o=>{ o with dict:=some s.heap.objs.size }) (t':=s.toks+1)
  (by rw[q1];exact cu) (.inl rfl) (fun b u hb z=>(other b hb).trans z) ⟨_,he2⟩ (xu ⟨_,vs,he2,rfl,rfl,rfl,hz⟩)
 have n2:=e3.at (h':=(s.heap.push PySem.W.emptyDict).update e fun o=>{ o with dict:=some s.heap.objs.size }) fun o z=>(other _ (cP hne)).trans z;dsimp only;unfold mh;refine aa (aD (aa (CJ (s:={ s with heap:=(s.heap.push PySem.W.emptyDict).update e fun o=>{ o with dict:=some s.heap.objs.size },toks:=s.toks+1 }) n2 fun h' n3 sb=>?_)));have wi:PySem.Within (fun x=>if x=f then some u else none) [f]:=fun y hy=>by
  by_cases z:y=f
  ·rw[z];exact bR.mpr rfl
  ·exact absurd (if_neg z) hy
 obtain⟨oD,esD,epD,hoD,hdD,hcD⟩:=n3.count wi;refine aa (wX hoD (by rw[hdD];exact wY (c9 hcD (by rw[cD];simp))) ?_);refine aD (h s.heap.objs.size _ hn ?_);have q2:(upd (upd H s.heap.objs.size (f_ s.heap.objs.size [])) e (eF m e C (some s.heap.objs.size))) s.heap.objs.size=some (f_ s.heap.objs.size []):=by rw[aK (cP hne),bu]
 have I3:=I2.write (x:=s.heap.objs.size) (e:=s.heap.objs.size) (o:=f_ s.heap.objs.size [(f,y)]) (h':=h') (t':=s.toks+2) (by rw[q2];exact cu) (.inl rfl) (fun b u hb z=>(sb.2 b hb).trans z) ⟨oD,hoD⟩
  (Bk ⟨_,n3,fun g=>?_,wi,by simp⟩)
 ·have eH:upd (upd (upd H s.heap.objs.size (f_ s.heap.objs.size [])) e (eF m e C (some s.heap.objs.size))) s.heap.objs.size (f_ s.heap.objs.size [(f,y)])=upd (upd H s.heap.objs.size (f_ s.heap.objs.size [(f,y)])) e (eF m e C (some s.heap.objs.size)):=by
   funext b;by_cases z:b=s.heap.objs.size
   ·subst z;rw[bu,aK (cP hne),bu]
   ·rw[aK z];by_cases z2:b=e
    ·subst z2;rw[bu,bu]
    ·rw[aK z2,aK z2,aK z,aK z]
  rw[eH]at I3;exact I3
 ·have:=m9 f g y [];show jP ((gu f y []).lookup g) _;rw[this];by_cases z:g=f
  ·rw[if_pos z,if_pos z];exact ry
  ·rw[if_neg z,if_neg z];trivial
theorem Rf{y:V}(I:Inv X pins O H s)(q:H e=some (eF m e C (some d)))(qd:H d=some (f_ d fs))(c:qW X.K C)(n:iC X.K C f)(hl:fs.length<1000)(ry:RelV y u)
  (h:∀s',Inv X pins O (upd H d (f_ d (gu f y fs))) s'->Q () s'):aq (az X.prog X.w) A (setAttr (.ref e) f u) Q E s:=by
 obtain⟨oe,vs,he,hc,hdi,hd,hz⟩:=rN I.hok q;obtain⟨mA,n1,rl,wi,_⟩:=AI I.hok qd;obtain⟨od,ho,_⟩:=nu n1;have J:PySem.W.InstAt s.heap e oe C (some od):=⟨he,hc,by unfold PySem.W.notCls;rw[hd],by rw[hdi];exact ho⟩;refine PySem.W.set_plain I.dR J c.sa (O4 (s:={ s with toks:=s.toks+1 }) I.dR J c.totQ c.tl n ?_);obtain⟨cd,hcd,hhd⟩:=PySem.W.any_some c.hd;obtain⟨oc,odi,oda,osl⟩:=oe;dsimp only at hc hdi hd;subst hc hdi hd;unfold gQ;refine aa (aD (aa ?_));unfold kr CH;refine aa (rE he (aa (PySem.W.Looks.here (s:={ s with toks:=s.toks+1 }) (PySem.W.looks_clsIn I.dR hcd) ?_)));dsimp only;rw[hhd];refine aD ?_;dsimp only;unfold mh;refine aa (aD (aa (CJ (s:={ s with toks:=s.toks+1 }) n1 fun h' n3 sb=>?_)));obtain⟨oD,esD,epD,hoD,hdD,hcD⟩:=n3.count (PySem.Within.cons f u wi);refine aa (wX hoD (by rw[hdD];exact wY (c9 hcD (by rw[bP,aC,cD];omega))) ?_);refine aD (h _ ?_);refine I.write (x:=d) (e:=d) (o:=f_ d (gu f y fs)) (h':=h') (t':=s.toks+2) (by rw[qd];exact cu) (.inl rfl) (fun b u hb z=>(sb.2 b hb).trans z) ⟨oD,hoD⟩ (Bk ⟨_,n3,fun g=>?_,fun g hg=>?_,by have:=qB f y fs;omega⟩)
 ·rw[m9];by_cases z:g=f
  ·rw[if_pos z,if_pos z];exact ry
  ·rw[if_neg z,if_neg z];exact rl g
 ·have hg:(if g=f then some u else mA g)≠none:=hg;have key:(gu f y fs).lookup g≠none:=by
   rw[m9];by_cases z:g=f
   ·rw[if_pos z];exact fun k=>nomatch k
   ·rw[if_neg z]at hg ⊢;intro k;have:=rl g;rw[k]at this;cases w:mA g with
    |none=>exact hg w
    |some v=>rw[w]at this;exact this
  cases k:(gu f y fs).lookup g with
  |none=>exact absurd k key
  |some v=>exact fP.mpr ⟨(g,v),PySem.mem_of_lookup k,rfl⟩
theorem MX{v:V}{b:Bool}{Q:Value->ah->Prop}(I:Inv X pins O H s)(q:H e=some (eF m e C (some d)))(qd:H d=some (f_ d fs))(c:tQ X.K C)(n:iC X.K C f)(l:fs.lookup f=some v)
  (h:∀u s',Inv X pins O H s'->RelV v u->Q u s'):aq (az X.prog X.w) A (rB (.ref e) f b) Q E s:=by
 obtain⟨oe,vs,he,hc,hdi,hd,hz⟩:=rN I.hok q;obtain⟨mA,n1,rl,wi,_⟩:=AI I.hok qd;obtain⟨od,ho,hlk⟩:=nu n1;have J:PySem.W.InstAt s.heap e oe C (some od):=⟨he,hc,by unfold PySem.W.notCls;rw[hd],by rw[hdi];exact ho⟩;obtain⟨u,hu,ru⟩:=jP.some_of (v:=v) (o:=mA f) (by rw[<-l];exact rl f);exact SA I.dR J c (PySem.W.findObj_own c.hd n rfl (by rw[hlk,hu])) (zl ru) (h u _ (I.tok _) ru)
end
section
variable{X:Cx}{C:Addr}{f:Str}{o value:Expr}{ta tv:TE}{pos pos':Pos}
def LQ(C:Addr)(f:Str)(ta tv:TE):TS:=fun D O H=>tv O H fun y H1=>ta O H1 fun x H2=>∃m e,x=.ref e /\
 ((H2 e=some (eF m e C none)/\∀d,H2 d=none->D.nx O (upd (upd H2 d (f_ d [(f,y)])) e (eF m e C (some d)))) \/
  ∃d fs,H2 e=some (eF m e C (some d))/\H2 d=some (f_ d fs)/\fs.length<1000/\D.nx O (upd H2 d (f_ d (gu f y fs))))
theorem MY(c:qW X.K C)(n:iC X.K C f)(ha:PE X o ta)(hv:PE X value tv)(hs:lP value (some (.Attribute o f pos')) pos.line X.env=pure false):PS X (.Assign [.Attribute o f pos'] value pos) (LQ C f ta tv):=by
 intro pins s O H D I h;refine plainObj_wpAny_Assign_Attribute (aY (hv pins s O H _ I h) fun u s1 ⟨y,H1,I1,ry,q⟩=>aY (ha pins s1 O H1 _ I1 q) fun ov s2 ⟨x,H2,I2,rx,m,e,ex,q2⟩=>?_) hs;subst ex;obtain rfl:ov=aN e:=rx;rcases q2 with⟨q3,q4⟩|⟨d,fs,q3,q4,q5,q6⟩
 ·exact Rc I2 q3 c n ry fun d s3 hd I3=>⟨O,_,I3,q4 d hd⟩
 ·exact Rf I2 q3 q4 c n q5 ry fun s3 I3=>⟨O,_,I3,q6⟩
end
noncomputable def oH(N:List Str):List (Str×Nat)->List Stmt->Bool
|[],[]=>true
|(f,j)::r,.Assign [.Attribute (.Name a _) g _] (.Name b _) _::sts=>decide (N[0]?=some a)&&decide (N[j]?=some b)&&decide (f=g)&&oH N r sts
|_,_=>false
def AJ(C:Addr):List (Str×Nat)->TS
|[]=>fun D O H=>D.nx O H
|(f,j)::r=>fun D O H=>LQ C f (Jd 0) (Jd j) { D with nx:=AJ C r D } O H
variable{X:Cx}
theorem Bl(c:qW X.K C)(hv:∀x∈X.N,AY X.env.scope x/\(x==("__debug__":Str))=false/\(x==("__classdict__":Str))=false):∀(fs:List (Str×Nat)) (sts:List Stmt),(∀p∈fs,iC X.K C p.1)->oH X.N fs sts=true->lR X sts (AJ C fs)
|[],[],_,_=>Dq
|[],_::_,_,h=>by cases h
|(f,j)::r,sts,n,h=>by
 unfold oH at h;split at h
 ·rename_i h1;cases h1
 ·rename_i f' j' r' a pa g pg b pb ps sts' h1;cases h1;simp only[bx,decide_eq_true_eq]at h;obtain⟨⟨⟨h2,h3⟩,h4⟩,h5⟩:=h;subst h4;have va:=hv a (eG h2);have vb:=hv b (eG h3);exact A0 (MY c (n (f,j) aG) (AZ h2 va.1 va.2.1 va.2.2) (AZ h3 vb.1 vb.2.1 vb.2.2) rfl) (Bl c hv r sts' (fun p hp=>n p (ao _ hp)) h5)
 ·cases h
noncomputable def kF:List (Str×Nat)->List V->List (Str×V)->List (Str×V)
|[],_,acc=>acc
|(f,j)::r,vs,acc=>kF r vs (gu f (vs.getD j .non) acc)
noncomputable def tR(C:Addr)(fs:List (Str×Nat))(n:Nat):Sp:=fun vs H Q _=>vs.length=n/\∃e vr,vs=.ref e::vr/\H e=some (eF true e C none)/\∀d,H d=none->Q .non (upd (upd H d (f_ d (kF fs vs []))) e (eF true e C (some d)))
theorem Jw{a b c:HO}(h:d≠e):upd (upd (upd H d a) e b) d c=upd (upd H d c) e b:=by
 funext x;by_cases z:x=d
 ·subst z;rw[bu,aK h,bu]
 ·rw[aK z];by_cases z2:x=e
  ·subst z2;rw[bu,bu]
  ·rw[aK z2,aK z2,aK z,aK z]
variable{vs:List V}{O:St}
theorem zC{D:Ends}(hde:d≠e)(h0:O[0]?=some (some (.ref e))):∀(fs:List (Str×Nat)) (acc:List (Str×V)),(∀p∈fs,∃v,O[p.2]?=some (some v)/\vs.getD p.2 .non=v)->acc.length+fs.length<=1000->
 D.nx O (upd (upd H d (f_ d (kF fs vs acc))) e (eF true e C (some d)))->AJ C fs D O (upd (upd H d (f_ d acc)) e (eF true e C (some d)))
|[],acc,_,_,h=>h
|(f,j)::r,acc,hv,hl,h=>by
 obtain⟨v,h1,h2⟩:=hv (f,j) aG;have h2:vs.getD j .non=v:=h2;simp only[bP]at hl;refine⟨v,h1,.ref e,h0,true,e,rfl,.inr ⟨d,acc,bu,by rw[aK hde,bu],by omega,?_⟩⟩;rw[Jw hde];refine zC hde h0 r _ (fun p hp=>hv p (ao _ hp)) ?_ ?_
 ·have:=qB f v acc;omega
 ·have h:D.nx O (upd (upd H d (f_ d (kF r vs (gu f (vs.getD j .non) acc)))) e (eF true e C (some d))):=h;rw[h2]at h;exact h
variable{fd:dD}{ps:List Str}
theorem MZ{st:Stmt}{fa:Addr}{fs:List (Str×Nat)}(F:mH K "__init__" qual st fa fd)(S:iw ps ps (bE st))(c:qW K C)(hn:∀p∈fs,iC K C p.1)
  (hc:oH ps fs (d_ st)=true) (hd:∀x∈ps,(x==("__debug__":Str))=false/\(x==("__classdict__":Str))=false) (hj:∀p∈fs,p.2<ps.length) (hl:fs.length<=900) (h0:0<fs.length):eO P w K mg base nW 1 fa fd ps (tR C fs ps.length):=by
 refine F.ok S (fun vs H Q E h=>h.1) fun cdv A outer s H vs Q E hr hsp=>⟨AJ C fs,?_,?_⟩
 ·refine Bl (X:=(gT nW P w K mg base ps qual (bE st) fa cdv A outer s H E).tE) c (fun x hx=>⟨?_,hd x hx⟩) fs _ hn hc;rcases S.par x hx with z|z
  ·exact .inl z
  ·exact .inr (.inl z)
 ·obtain⟨hlen,e,vr,rfl,he,q⟩:=hsp;have hst:∀j,j<ps.length->∃v,(start ps (.ref e::vr))[j]?=some (some v)/\(V.ref e::vr).getD j .non=v:=fun j hj=>by
   have hj':j<(V.ref e::vr).length:=by rw[hlen];exact hj
   refine⟨(V.ref e::vr)[j],?_,?_⟩
   ·unfold start;rw[bW (by rw[aC];exact hj'),aU,ak hj'];rfl
   ·rw[aH,ak hj'];rfl
  match fs,hj,hl,h0,q with
  |(f,j)::r,hj,hl,h0,q=>
   obtain⟨v,h1,h2⟩:=hst j (hj (f,j) aG);refine⟨v,h1,.ref e,rfl,true,e,rfl,.inl ⟨he,fun d hd=>?_⟩⟩;have hde:d≠e:=fun z=>by rw[z,he]at hd;cases hd
   have q:=q d hd;simp only[kF]at q;rw[h2]at q;refine zC (vs:=.ref e::vr) hde rfl r [(f,v)] (fun p hp=>hst p.2 (hj p (ao _ hp))) ?_ q;simp only[bP,qq]at hl ⊢;omega
noncomputable def uW(H:Hp)(b:Addr):Hp:=fun c=>if c=b then none else H c
variable{b c:Addr}
theorem k_(h:c≠b):uW H b c=H c:=if_neg h
theorem xw:uW H b b=none:=if_pos rfl
theorem oj(h:H c=none):uW H b c=none:=by
 unfold uW;split
 ·rfl
 ·exact h
variable{pins:List (Addr×Obj)}
theorem Inv.drop{φ:Heap->Prop}(I:Inv X pins O H s)(hx:H b=some (.ext φ)):Inv X pins O (uW H b) s:=by
 have ne:∀c o,H c=some o->(∀ψ,o≠.ext ψ)->c≠b:=fun c o q n z=>by subst z;rw[hx]at q;cases q;exact n φ rfl
 refine⟨I.ok,I.os,I.bare,⟨I.base.keep,I.base.slot,fun c o q n x=>oj (I.base.free c o q n x),I.base.there,fun c xs q=>?_,fun c o u q=>?_,fun c ps q=>?_⟩,I.loc,I.cell,oj I.free,fun x c q=>oj (I.freeC x c q),fun p hp=>?_,fun a o q=>?_,I.len⟩
 ·have z:=I.base.tups c xs q;rw[k_ (ne c _ z fun _ k=>nomatch k)];exact z
 ·have z:=I.base.aB c o u q;rw[k_ (ne c _ z fun _ k=>nomatch k)];exact z
 ·obtain⟨more,z⟩:=I.base.tbls c ps q;exact⟨more,by rw[k_ (ne c _ z fun _ k=>nomatch k)];exact z⟩
 ·obtain⟨h1,h2,h3⟩:=I.pin p hp;exact⟨h1,oj h2,h3⟩
 ·have hab:a≠b:=fun z=>by subst z;rw[xw]at q;cases q
  rw[k_ hab]at q;refine(I.hok a o q).stay (fun _ _ _ z=>z) (fun c z=>?_) fun c xs z=>?_
  ·rw[k_ (ne c _ z fun _ k=>nomatch k)];exact z
  ·rw[k_ (ne c _ z fun _ k=>nomatch k)];exact z
structure Bm (K:PySem.W.Frag) (C fI:Addr):Prop extends qW K C where
 ini:PySem.W.findIn K (.ref C) "__init__"=some (some (.ref fI))
 fn:PySem.W.typeIn K (.ref fI)=some (.type "function")
 kp:PySem.W.keepIn K (.ref C)=true
 cls:∃nm q N bs B hdct sn sub ab col dd k0 k1 k2 k3 k5,K.lookup C=some (gP nm q C N bs (.ref B::[.type "ValueError",.type "Exception",.type "BaseException",.type "object"]) hdct sn sub ab col dd k0 k1 k2 k3 k5 "ValueError.__new__") /\
  ∃c0 dB cd sl c1 d1 es ep s1,K.lookup B=some ⟨c0,dB,.cls cd,sl⟩/\K.lookup cd.ns=some ⟨c1,d1,.dict es ep,s1⟩/\(es.all fun e=>match e.key with|.str _ _=>true|_=>false)=true/\yc es "__init__"=none
theorem Bm.at{fI:Addr}(c:Bm K C fI)(X:K.In h):∃nm q N bs bm hdct sn sub ab col dd k0 k1 k2 k3 k5,h.get? C=some (gP nm q C N bs bm hdct sn sub ab col dd k0 k1 k2 k3 k5 "ValueError.__new__") /\
  Ek h [.type "ValueError",.type "Exception",.type "BaseException",.type "object"] bm/\bm.contains (.type "BaseException")=true:=by
 obtain⟨nm,q,N,bs,B,hdct,sn,sub,ab,col,dd,k0,k1,k2,k3,k5,l,c0,dB,cd,sl,c1,d1,es,ep,s1,l1,l2,a,n⟩:=c.cls;refine⟨nm,q,N,bs,_,hdct,sn,sub,ab,col,dd,k0,k1,k2,k3,k5,X _ _ l,.own (mA:=fun x=>yc es x) (X _ _ l1) ⟨_,es,ep,X _ _ l2,rfl,fun e he=>?_,fun _=>rfl⟩ n .base,by
  rw[j0,show([Value.type "ValueError",.type "Exception",.type "BaseException",.type "object"].contains (.type "BaseException"))=true from by decide +kernel,pP]⟩
 have:=Array.all_eq_true_iff_forall_mem.mp a e he;cases k:e.key with
 |str x t=>exact⟨x,t,rfl⟩
 |_=>rw[k]at this;cases this
variable{M:AX}
variable{us:List Value}
variable{k:Nat}
variable{x:Str}{a:Expr}{as:List Expr}{ta:TA}{np pos:Pos}
section
variable{X:Cx}{C fI:Addr}
theorem O6{env:Env}{x:Sem Value}{Q:Flow->ah->Prop}{nm q:Str}{N:Addr}{bs bm:List Value}{hdct:Bool}{sn:List Str}{sub:List Value}{ab:Bool}{col:Option Bool}{dd:Option Addr}{k0 k1 k2 k3 k5:Option Value}{newId:String}
  (hb:bm.contains (.type "BaseException")=true) (hh:A.handled=none)
  (h:aq M A x (fun v TJ=>∃e od vs sl,v=.ref e/\TJ.heap.get? C=some (gP nm q C N bs bm hdct sn sub ab col dd k0 k1 k2 k3 k5 newId)/\TJ.heap.get? e=some ⟨.ref C,od,.fields vs,sl⟩/\vs[1]?=some .none/\E (.ref e) TJ) E s) :
  aq M A (raiseStmt env (some x) none) Q E s:=by
 have hcB:(aN C::bm).contains (.type "BaseException")=true:=by rw[j0,hb,pP]
 unfold raiseStmt;refine aa (cj h (fun v TJ TN=>?_) fun _ _ x=>x);obtain⟨e,od,vs,sl,rfl,hC,he,h1,hE⟩:=TN;obtain⟨hp,g,d,tk,os⟩:=TJ
 repeat (first
  |with_reducible refine fU he ?_
  |with_reducible refine fU hC ?_
  |(with_reducible refine mP hC ?_;rw[hcB])
  |wp_step)
 rw[h1];exact aD (aD (wpAny_raiseNew_none hh hE))
theorem Inv.Rg(I:Inv X pins O H s):Inv X pins O (upd H (s.heap.objs.size+1) (eF true (s.heap.objs.size+1) C none)) { s with heap:=(s.heap.push (tP us)).push (vI C s.heap.objs.size) }:=by
 have I1:Inv X pins O H { s with heap:=s.heap.push (tP us) }:=I.kept (t':=s.toks) fun b u q=>aj _ q;have e2:((s.heap.push (tP us)).push (vI C s.heap.objs.size)).get? (s.heap.objs.size+1)=some (vI C s.heap.objs.size):=by
  have:=aO (s.heap.push (tP us)) (o:=vI C s.heap.objs.size) rfl;rwa[dG]at this
 exact I1.laid (a:=s.heap.objs.size+1) (t':=s.toks) (fun b u q=>aj _ q) (l_ (dG _ _)) (xu ⟨_,_,e2,rfl,rfl,rfl,⟨rfl,rfl⟩,fun _=>rfl⟩)
theorem Gu{fs:List (Str×Nat)}{Q:Value->ah->Prop}(c:Bm X.K C fI)(F:eO X.prog X.w X.K X.mg X.base nW k fI fd ps (tR C fs ps.length))(hr:eW (k+1) X.A)
  (hb:Binds X.K fd ps []) (I:Inv X pins O H s) (r:bh vs us) (hl:vs.length+1=ps.length) (hps:ps.length<=1000)
  (h:∀d s',H d=none->Inv X pins O (upd (upd (upd H (s.heap.objs.size+1) (eF true (s.heap.objs.size+1) C none)) d (f_ d (kF fs (.ref (s.heap.objs.size+1)::vs) []))) (s.heap.objs.size+1) (eF true (s.heap.objs.size+1) C (some d))) s'->d≠s.heap.objs.size+1->Q (.ref (s.heap.objs.size+1)) s') :
  aq (az X.prog X.w) X.A (call (.ref C) us) Q X.xe s:=by
 obtain⟨nm,q,N,bs,bm,hdct,sn,sub,ab,col,dd,k0,k1,k2,k3,k5,hC,T,hbase⟩:=c.at I.dR;have I2:=I.Rg (C:=C) (us:=us);have lus:us.length=vs.length:=r.length.symm;have hz:us.length<=ai:=by
  rw[cD];omega
 obtain⟨hh,g,d,t,os⟩:=s;refine O2 PySem.F.excBase_ValueError T hC I.dR c.ini c.fn hz ?_;have r2:bh (V.ref (hh.objs.size+1)::vs) (aN (hh.objs.size+1)::us):=.cons rfl r;have hl2:(aN (hh.objs.size+1)::us++[]).length=ps.length:=by simp;omega
 have sp:tR C fs ps.length (V.ref (hh.objs.size+1)::vs) (upd H (hh.objs.size+1) (eF true (hh.objs.size+1) C none)) (fun v H2=>v=.non/\∃d,H d=none/\d≠hh.objs.size+1/\H2=upd (upd (upd H (hh.objs.size+1) (eF true (hh.objs.size+1) C none)) d (f_ d (kF fs (.ref (hh.objs.size+1)::vs) []))) (hh.objs.size+1) (eF true (hh.objs.size+1) C (some d))) E0:=by
  refine⟨by simp;omega,_,_,rfl,bu,fun d hd=>⟨rfl,d,?_,?_,rfl⟩⟩
  ·by_cases z:d=hh.objs.size+1
   ·subst z;rw[bu]at hd;cases hd
   ·rw[aK z]at hd;exact hd
  ·intro z;subst z;rw[bu]at hd;cases hd
 refine kq (jd (F.run _ X.stack _ _ ⟨aN (hh.objs.size+1)::us,[]⟩ (aN (hh.objs.size+1)::us) _ _ E0 (hr.make C us []) (I2.Ez.make C us []) (by have:=hb _ (aN (hh.objs.size+1)::us) I2.dR hl2;rwa[dM]at this) r2 sp) fun r s' hq'=>?_);cases r with
 |error e=>exact hq'.elim
 |ok fl=>
  cases fl with
  |ret u=>
   obtain⟨v,H3,I3,rv,rfl,d,hd,hde,rfl⟩:=I2.after hq';cases(show u=bg from rv);exact⟨rfl,h d s' hd I3 hde⟩
  |next=>exact ay hq'
  |brk=>exact ay hq'
  |cont=>exact ay hq'
theorem Bo{a b:V}:∀(fs:List (Str×Nat)) (acc:List (Str×V)),(∀p∈fs,1<=p.2)->kF fs (a::vs) acc=kF fs (b::vs) acc
|[],_,_=>rfl
|(f,j)::r,acc,h=>by
 have hj:1<=j:=h (f,j) aG
 match j,hj with
 |j+1,_=>
  show kF r (a::vs) (gu f (vs.getD j .non) acc)=kF r (b::vs) (gu f (vs.getD j .non) acc);exact Bo r _ fun p hp=>h p (ao _ hp)
def tS(C:Addr)(fs:List (Str×Nat))(n:Nat)(ta:TA)(E:XK):TS:=fun _ O H=>ta O H fun vs H1=>vs.length+1=n/\∀d,H1 d=none->E (.ref C) (some d) (upd H1 d (f_ d (kF fs (.non::vs) [])))
theorem Jx{E:XK}{fs:List (Str×Nat)}{cpos:Pos}(c:Bm X.K C fI)(F:eO X.prog X.w X.K X.mg X.base nW k fI fd ps (tR C fs ps.length))(hr:eW (k+1) X.A)(hh:X.A.handled=none)
  (hb:Binds X.K fd ps []) (hps:ps.length<=1000) (hj:∀p∈fs,1<=p.2) (hg:Gl X x) (hm:X.mg x=some (.ref C)) (ha:PA (X.iL (qE X E)) (a::as) ta) (hdb:(x==("__debug__":Str))=false:=by decide)
  (he:cy (a::as) X.env=(false,eval a X.env)::cy as X.env) (hpl:(kO cpos (cy as X.env)).any (·.1)=false) :
  PS (X.iL (qE X E)) (.Raise (some (.Call (.Name x np) (a::as) [] cpos)) none pos) (tS C fs ps.length ta E):=by
 intro pins s O H D I h;obtain⟨nm,q,N,bs,B,hdct,sn,sub,ab,col,dd,k0,k1,k2,k3,k5,l,_⟩:=id c.cls;rw[arm_exec_Raise];refine aa (ju ?_);refine O6 (C:=C) (nm:=nm) (q:=q) (N:=N) (bs:=bs) (hdct:=hdct) (sn:=sn) (sub:=sub) (ab:=ab) (col:=col) (dd:=dd) (k0:=k0) (k1:=k1) (k2:=k2) (k3:=k3) (k5:=k5) (bm:=.ref B::[.type "ValueError",.type "Exception",.type "BaseException",.type "object"]) (newId:="ValueError.__new__")
  (by rw[j0,show([Value.type "ValueError",.type "Exception",.type "BaseException",.type "object"].contains (.type "BaseException"))=true from by decide +kernel,pP]) hh ?_
 refine aa (cj (dc (lI I hg hm ?_ hdb)) (fun v TY T4=>aa (ju (aD T4))) fun _ _ x=>x);refine PySem.W.callWith_K (h₀:=X.base) I.ok.mod.kin c.kp (aY (ha cpos pins s O H _ I h) fun us s1 ⟨vs,H1,I1,r,hl,q1⟩=>⟨I1.dR,?_⟩) he hpl;refine Gu (X:=X.iL (qE X E)) c F hr hb I1 r hl hps fun d s2 hd I2 hde=>?_;obtain⟨oe,ws,g1,g2,g3,g4,g5,g6⟩:=rN I2.hok bu;obtain⟨oc,od,oda,osl⟩:=oe;dsimp only at g2 g3 g4;subst g2 g3 g4;refine⟨_,_,ws,osl,rfl,I2.dR _ _ l,g1,g6 rfl,?_⟩;have hn:H1 (s1.heap.objs.size+1)=none:=I1.hok.fresh (kP _);have eH:uW (upd (upd (upd H1 (s1.heap.objs.size+1) (eF true (s1.heap.objs.size+1) C none)) d (f_ d (kF fs (.ref (s1.heap.objs.size+1)::vs) []))) (s1.heap.objs.size+1) (eF true (s1.heap.objs.size+1) C (some d))) (s1.heap.objs.size+1)=upd H1 d (f_ d (kF fs (.non::vs) [])):=by
  rw[Bo (b:=.non) fs [] hj];funext b;by_cases z:b=s1.heap.objs.size+1
  ·subst z;rw[xw,aK (cP hde),hn]
  ·rw[k_ z,aK z];by_cases z2:b=d
   ·subst z2;rw[bu,bu]
   ·rw[aK z2,aK z2,aK z]
 have I3:=I2.gR.drop (φ:=Gs true (s1.heap.objs.size+1) C (some d)) bu;rw[eH]at I3;have hn2:(upd H1 d (f_ d (kF fs (.non::vs) []))) (s1.heap.objs.size+1)=none:=by rw[aK (cP hde)];exact hn
 exact⟨false,_,C,some d,pins,O,_,rfl,I3,⟨⟨_,ws,.none,g1,rfl,rfl,rfl,g5,g6 rfl,.inl ⟨rfl,rfl⟩⟩,I1.gR.k9 (kP _) hn2⟩,q1 d hd⟩
end
def xx(K:PySem.W.Frag)(B:Addr):Prop:=∃nm q N bs bm hdct sn sub ab col dd k0 k1 k2 k3 k5 nid,K.lookup B=some (gP nm q B N bs bm hdct sn sub ab col dd k0 k1 k2 k3 k5 nid)/\bm.contains (.type "BaseException")=true
variable{B:Addr}
theorem O7{oe:Obj}{Q:Bool->ah->Prop}(X:K.In s.heap)(b:xx K B)(he:s.heap.get? e=some oe)(hc:oe.cls=.ref C)(hs:PySem.W.mroIn K C (.ref B)=some true)(hq:Q true s) :
  aq M A (FN (.ref e) (.ref B)) Q E s:=by
 obtain⟨nm,q,N,bs,bm,hdct,sn,sub,ab,col,dd,k0,k1,k2,k3,k5,nid,l,hb⟩:=b;have hB:=X _ _ l;have hcB:(aN B::bm).contains (.type "BaseException")=true:=by rw[j0,hb,pP]
 have f:=tc_notTuple;have Tu:=PySem.W.looks_mroIn (M:=M) X hs;obtain⟨h,g,d,t,os⟩:=s;unfold FN
 repeat (first
  |(with_reducible refine fU he ?_;rw[hc])
  |with_reducible refine fU hB ?_
  |(with_reducible refine mP hB ?_;rw[hcB])
  |(with_reducible refine Tu.at ?_)
  |wp_step)
 exact hq
noncomputable abbrev Cx.hand(X:Cx)(v:Value):Cx:={ X with A:=X.A.mark (some v),calm:=false,xe:=fun _ _=>False }
theorem Inv.hand(I:Inv X pins O H s)(v:Value):Inv (X.hand v) pins O H s:=
 ⟨⟨I.ok.mod,I.ok.kind,I.ok.glob,I.ok.blt,I.ok.above,I.ok.inj,I.ok.has,I.ok.cab,fun z=>(nomatch z),I.ok.frames,I.ok.stk,I.ok.exf,I.ok.bs,I.ok.bsz,I.ok.noex,I.ok.exfs,I.ok.kG,I.ok.frf⟩,I.os,I.bare,I.base,I.loc,I.cell,I.free,I.freeC,I.pin,I.hok,I.len⟩
theorem Inv.O8(ok:X.Ok)(I:Inv (X.hand v) pins O H s):Inv X pins O H s:=
 ⟨ok,I.os,I.bare,I.base,I.loc,I.cell,I.free,I.freeC,I.pin,I.hok,I.len⟩
variable{sp:Sp}{dvs:List V}{ds:List Value}
variable{tb:XK->St->Hp->(Hp->Prop)->Prop}
section
variable{X:Cx}
def EF(X:Cx)(pins:List (Addr×Obj))(O:St)(E:XK):Value->ah->Prop:=fun v s'=>∃e C od H',v=.ref e/\Inv X pins O H' s'/\Bj true X pins H' s' e C od (fun f=>f=.none)/\E (.ref C) od H'
def PB(X:Cx)(body:List Stmt)(t:XK->St->Hp->(Hp->Prop)->Prop):Prop:=∀(pins:List (Addr×Obj)) (s:ah) (O:St) (H:Hp) (E:XK) (nx:Hp->Prop),Inv X pins O H s->t E O H nx->
 aq (az X.prog X.w) X.A (execs body X.env) (fun f s'=>f=.next/\∃H',Inv X pins O H' s'/\nx H') (EF X pins O E) s
theorem M0{E:XK}{Q:VK}(F:eO X.prog X.w X.K X.mg X.base (je X.prog X.w) k f fd ps sp)(hr:eW k X.A)(hb:Binds X.K fd ps ds)(hd:bh dvs ds)
  (I:Inv X pins O H s) (r:bh vs us) (h:sp (vs++dvs) H Q E):aq (az X.prog X.w) X.A (call (.ref f) us) (EP X pins O Q) (EF X pins O E) s:=by
 have r2:bh (vs++dvs) (us++ds):=r.append hd;have hl:(us++ds).length=ps.length:=by rw[<-r2.length];exact F.len _ _ _ _ h
 refine kq (jd (F.run X.A X.stack s H ⟨us,[]⟩ (us++ds) (vs++dvs) Q E hr I.Ez (hb s us I.dR hl) r2 h) fun r s' hq=>?_);cases r with
 |error v=>
  obtain⟨e,C,od,H',rfl,os,bare,un,hok,x,q⟩:=hq;obtain⟨hh,g,d,t,os'⟩:=s';obtain rfl:os'=s.os:=os;have I1:Inv X pins O H' { s with heap:=hh,gens:=g,drawn:=d,toks:=t }:=I.call (h':=hh) (g':=g) (d':=d) (t':=t) (ch:=[]) un hok bare (fun b z=>absurd z (by simp));exact⟨e,C,od,H',rfl,I1,x.imp (fun b hb=>I.k9 hb.2 hb.1) fun _ z=>z,q⟩
 |ok fl=>
  cases fl with
  |ret u=>exact I.after hq
  |next=>exact ay hq
  |brk=>exact ay hq
  |cont=>exact ay hq
theorem M1{p epos:Pos}(F:eO X.prog X.w X.K X.mg X.base (je X.prog X.w) k f fd ps sp)(hr:eW k X.A)(hg:Gl X x)(hm:X.mg x=some (.ref f))(hk:PySem.W.keepIn X.K (.ref f)=true)
  (hb:Binds X.K fd ps ds) (hd:bh dvs ds) (ha:PA X.tE (a::as) ta) (hdb:(x==("__debug__":Str))=false:=by decide) (he:cy (a::as) X.env=(false,eval a X.env)::cy as X.env) (hpl:(kO pos (cy as X.env)).any (·.1)=false) :
  PB X [.Expr (.Call (.Name x p) (a::as) [] pos) epos] (fun E O H nx=>ta O H fun vs H1=>sp (vs++dvs) H1 (fun _ H2=>nx H2) E):=by
 intro pins s O H E nx I h;refine pJ (y9 ?_ I.quiet rfl);refine cj (?_:aq _ _ _ (EP X pins O fun _ H2=>nx H2) (EF X pins O E) s) (fun v s' ⟨y,H',I',_,q⟩=>jK ⟨rfl,H',I',q⟩) fun _ _ z=>z;refine dc (lI I hg hm ?_ hdb);refine PySem.W.callWith_K (h₀:=X.base) I.ok.mod.kin hk (cj (ha pos pins s O H _ (I.iL _) h) (fun us s1 ⟨vs,H1,I1,r,q⟩=>⟨I1.dR,?_⟩) fun _ _ z=>ay z) he hpl;exact M0 F hr hb hd I1.gR r q
theorem Rh{c:Expr}{a b:List Stmt}{tc:TT}{ta:XK->St->Hp->(Hp->Prop)->Prop}(hc:PT X.tE c tc)(ha:PB X a ta)(hb:PB X b tb):PB X [.If c a b pos] (fun E O H nx=>tc O H fun k H1=>if k=true then ta E O H1 nx else tb E O H1 nx):=by
 intro pins s O H E nx I h;refine pJ (wpAny_If (cj (hc pins s O H _ (I.iL _) h) (fun k s1 ⟨H1,I1,q⟩=>?_) fun _ _ z=>ay z));have fin:∀{f:Flow}{s':ah},(f=.next/\∃H',Inv X pins O H' s'/\nx H')->(match f with|.next=>aq (az X.prog X.w) X.A (execs [] X.env) (fun f s'=>f=.next/\∃H',Inv X pins O H' s'/\nx H') (EF X pins O E) s'|f=>(f=.next/\∃H',Inv X pins O H' s'/\nx H')):=by
  rintro f s' ⟨rfl,q⟩;exact jK ⟨rfl,q⟩
 cases k with
 |true=>exact cj (ha pins s1 O H1 E nx I1.gR q) (fun f s' z=>fin z) fun _ _ z=>z
 |false=>exact cj (hb pins s1 O H1 E nx I1.gR q) (fun f s' z=>fin z) fun _ _ z=>z
end
variable{i:Nat}{n:Str}
section
variable{X:Cx}{pins:List (Addr×Obj)}{O TF:St}{H:Hp}{s:ah}
theorem Inv.frame{m':Str->Option Value}{t':Nat}(I:Inv X pins O H s)(hs:gZ X.env.locals s.heap h')(hn:h'.Ns X.env.locals m')(hl:TF.length=O.length)
  (hm:∀(j:Nat) (x:Str) (v:V),X.N[j]?=some x->TF[j]?=some (some v)->AY X.env.scope x->∃u,RelV v u/\Look X.env h' m' x u):Inv X pins TF H { s with heap:=h',toks:=t' }:=by
 have neL:∀b o,X.Tz.heap.get? b=some o->b≠X.env.locals:=fun b o e=>be (bw (au e) I.ok.above);refine⟨I.ok,I.os,I.bare,⟨fun b o e n hb hx=>(hs.2 b (neL b o e)).trans (I.base.keep b o e n hb hx),fun b o e n hb hx=>?_,I.base.free,fun b o e hx=>?_,I.base.tups,I.base.aB,I.base.tbls⟩,⟨m',hn,hm⟩,fun x c e=>?_,I.free,I.freeC,fun p hp=>?_,fun a o q=>?_,hl.trans I.len⟩
 ·obtain⟨sl,z⟩:=I.base.slot b o e n hb hx;exact⟨sl,(hs.2 b (neL b o e)).trans z⟩
 ·obtain⟨o',z⟩:=I.base.there b o e hx;exact⟨o',(hs.2 b (neL b o e)).trans z⟩
 ·obtain⟨v,o,ho,hd⟩:=I.cell x c e;exact⟨v,o,(hs.2 c (I.w9 x c e)).trans ho,hd⟩
 ·obtain⟨h1,h2,h3,h4⟩:=I.pin p hp;exact⟨(hs.2 p.1 h3).trans h1,h2,h3,h4⟩
 ·have hk:∀b u,(b=a\/H b=some (.own a))->s.heap.get? b=some u->h'.get? b=some u:=fun b u hb e=>by
   refine(hs.2 b fun z=>?_).trans e;rcases hb with z2|z2
   ·rw[<-z2,z,I.free]at q;cases q
   ·rw[z,I.free]at z2;cases z2
  exact(I.hok a o q).stay hk (fun _ z=>z) fun _ _ z=>z
theorem name_goes(I:Inv X pins O H s)(nd:X.N.Nodup)(hi:X.N[i]?=some n)(hl:X.env.scope.names.lookup n=some .local)
  (h:∀s',Inv X pins (O.set i none) H s'->Q () s'):aq M A (do bindName X.env n .none;mj X.env n pos) Q E s:=by
 refine aa (wpAny_bindName (v5 (v:=.non) I nd hi (.inl hl) rfl (fun s1 I1=>?_) (.inr hl)));have hk:X.env.kindOf n=some .local:=hl;obtain⟨m,hn,hlk⟩:=id I1.loc;have hlt:i<O.length:=by rw[I.len];exact(bB.mp hi).1
 obtain⟨u,ru,look⟩:=hlk i n .non hi (by rw[dm];simp[hlt]) (.inl hl);have hv:m n=some u:=by
  rcases look with⟨_,z⟩|⟨z,_⟩
  ·exact z
  ·rw[hk]at z;rcases z with z|z<;>cases z
 have hp:(X.env.scope.kind==.class||(X.env.scope.kind==.module&&X.env.locals != X.env.globals))=false:=by rw[I.ok.kind];rfl
 unfold mj;refine gx (wpAny_unbindName_local hk hn hv hp fun h' w n' sb=>h _ ?_);refine I1.frame (t':=s1.toks) sb n' (by simp) fun j x v e1 e2 e3=>?_;have hji:j≠i:=fun z=>by
  subst z;rw[dm]at e2;simp[hlt]at e2
 have hxn:x≠n:=fun z=>hji (vZ nd (by rw[<-z];exact e1) hi);obtain⟨u',r',look'⟩:=hlk j x v e1 (by rw[ck (cP hji)]at e2 ⊢;exact e2) e3;refine⟨u',r',?_⟩;rcases look' with⟨z1,z2⟩|⟨z1,c,z2,o,ho,hd⟩
 ·exact .inl ⟨z1,(if_neg hxn).trans z2⟩
 ·exact .inr ⟨z1,c,z2,o,(sb.2 c (I1.w9 x c z2)).trans ho,hd⟩
theorem Inv.LR{o:HO}(I:Inv X pins O H s)(f:gS X pins H b)(ok:cU X.prog X.w (upd H b o) s.heap b o):Inv X pins O (upd H b o) s:=by
 obtain⟨f0,f1,f2,f3,f4,f5⟩:=f;have ne:∀c u,H c=some u->c≠b:=fun c u q z=>by rw[z,f0]at q;cases q
 refine⟨I.ok,I.os,I.bare,⟨I.base.keep,I.base.slot,fun c u q n x=>?_,I.base.there,fun c xs q=>?_,fun c u w q=>?_,fun c ps q=>?_⟩,I.loc,I.cell,?_,fun x c q=>?_,fun p hp=>?_,fun a u q=>?_,I.len⟩
 ·have hcb:c≠b:=fun z=>by
   subst z;rcases f3 with z|z
   ·exact x z
   ·exact absurd (bw (au q) z) (cV _)
  rw[aK hcb];exact I.base.free c u q n x
 ·have z:=I.base.tups c xs q;rw[aK (ne c _ z)];exact z
 ·have z:=I.base.aB c u w q;rw[aK (ne c _ z)];exact z
 ·obtain⟨more,z⟩:=I.base.tbls c ps q;exact⟨more,by rw[aK (ne c _ z)];exact z⟩
 ·rw[aK (cP f1)];exact I.free
 ·rw[aK (f4 x c q)];exact I.freeC x c q
 ·obtain⟨h1,h2,h3⟩:=I.pin p hp;exact⟨h1,by rw[aK (f5 p hp)];exact h2,h3⟩
 ·by_cases z:a=b
  ·subst z;rw[bu]at q;cases q;exact ok
  ·rw[aK z]at q;exact(I.hok a u q).stay (fun _ _ _ k=>k) (fun c k=>by rw[aK (ne c _ k)];exact k) fun c xs k=>by rw[aK (ne c _ k)];exact k
def Bp(K:PySem.W.Frag)(i:Nat)(B:Addr)(tb:XK->St->Hp->(Hp->Prop)->Prop)(ts:Addr->TS):TS:=fun D O H=>
 tb (fun c od H1=>∃C,c=.ref C/\PySem.W.mroIn K C (.ref B)=some true/\∀e,H1 e=none->ts e { nx:=fun TH H2=>D.nx (TH.set i none) H2,rt:=D.rt } (O.set i (some (.ref e))) (upd H1 e (eF false e C od))) O H (fun H1=>D.nx O H1)
theorem O9{suite:List Stmt}{Uk:Stmt}{ts:Addr->TS}{hpos:Pos}(hst:X.stack=X.env::X.outer)(hf:X.env.frame=some X.env.locals)(hb:PB X body tb)(hs:∀e,(e∈X.ex\/X.Tz.heap.objs.size<=e)->lR (X.hand (.ref e)) (Uk::suite) (ts e))
  (hg:Gl X x) (hm:X.mg x=some (.ref B)) (b:xx X.K B) (nd:X.N.Nodup) (hi:X.N[i]?=some n) (hl:X.env.scope.names.lookup n=some .local) (hdb:(x==("__debug__":Str))=false:=by decide) :
  PS X (.Try body [.ExceptHandler (some (.Name x np)) (some n) (Uk::suite) hpos] [] [] pos) (Bp X.K i B tb ts):=by
 intro pins s O H D I h;refine wpAny_Try_except (cj (hb pins s O H _ _ I h) (fun f s1 ⟨hf,H1,I1,q⟩=>?_) fun v s1 hx=>?_)
 ·subst hf;exact jK ⟨O,H1,I1,q⟩
 ·obtain⟨e,C,od,H1,rfl,I1,F1,C',ec,hmro,q⟩:=hx;cases ec;refine yr hst hf I1 (F1.imp (fun _ z=>z) fun _ z=>.inl z) fun s2 I2 F2=>?_;refine pZ I2 F2 fun s3 I3 F3=>?_;refine wpAny_handleBy_cons (codeAny_handlers_test (lI (X:=X.hand (.ref e)) (I3.hand _) hg hm ?_ hdb)) (by intro z;cases z);obtain⟨⟨oe,vs,v,g1,g2,g3,g4,g5,g6,g7⟩,fe⟩:=id F3;refine O7 I3.dR b g1 g2 hmro ?_;show jc _ _ _ _ _;refine codeAny_handlers_suite_as ?_;refine pZ (X:=X.hand (.ref e)) (I3.hand _) F3 fun s4 I4 F4=>?_;obtain⟨⟨oe',vs',v',k1,k2,k3,k4,k5,k6,k7⟩,fe'⟩:=id F4;have I5:Inv (X.hand (.ref e)) pins O (upd H1 e (eF false e C od)) s4:=I4.LR fe' (xu ⟨oe',vs',k1,k2,k3,k4,k5,fun z=>nomatch z⟩);refine v5 (X:=X.hand (.ref e)) (v:=.ref e) I5 nd hi (.inl hl) rfl (fun s5 I6=>?_) (.inr hl);refine cj (hs e fe.2.2.2.1 pins s5 _ _ _ I6 (q e fe.1)) (fun f s6 hq=>?_) fun _ _ z=>ay z;show aq _ _ _ _ _ _;have go:∀{TH:St}{H2:Hp}{Q:Unit->ah->Prop},Inv (X.hand (.ref e)) pins TH H2 s6->(∀s7,Inv X pins (TH.set i none) H2 s7->Q () s7)->aq (az X.prog X.w) X.A (do bindName X.env n .none;mj X.env n hpos) Q X.xe s6:=fun J k=>name_goes (J.O8 I.ok) nd hi hl k;cases f with
  |next=>obtain⟨TH,H2,J,z⟩:=hq;exact go J fun s7 J7=>⟨_,H2,J7,z⟩
  |ret u=>obtain⟨w,TH,H2,J,r,z⟩:=hq;exact go J fun s7 J7=>⟨w,_,H2,J7,r,z⟩
  |brk=>obtain⟨TH,H2,J,z⟩:=hq;exact z.elim
  |cont=>obtain⟨TH,H2,J,z⟩:=hq;exact z.elim
end
end L2
end
section
namespace L3
open PySem PySem.Spec L2
inductive Bf where
 |len|all|int|str|sum|max|sorted
 deriving DecidableEq
noncomputable def Bf.name:Bf->Str
|.len=>"len"|.all=>"all"|.int=>"int"|.str=>"str"|.sum=>"sum"|.max=>"max"|.sorted=>"sorted"
inductive Mt where
 |append|extend
 deriving DecidableEq
noncomputable def Mt.name:Mt->Str
|.append=>"append"|.extend=>"extend"
inductive Ty where
 |int|bool|str|list|tuple|dict|none
 deriving DecidableEq
noncomputable def Ty.name:Ty->Str
|.int=>"int"|.bool=>"bool"|.str=>"str"|.list=>"list"|.tuple=>"tuple"|.dict=>"dict"|.none=>"NoneType"
mutual
inductive CE where
|var (i:Nat)
|con (v:V)
|glo (g:Nat)
|bin (op:lF) (a b:CE)
|neg (a:CE)
|not (a:CE)
|and (a b:CE)
|or (a b:CE)
|ite (c a b:CE)
|cmp (op:qo) (a b:CE)
|chain (o1 o2:qo) (a b c:CE)
|call (g:Nat) (as:i0)
|blt (f:Bf) (as:i0)
|isi (a:CE) (t:Ty)
|mth (m:Mt) (o:CE) (as:i0)
|ix (a b:CE)
|sl (a:CE) (lo hi:CO)
|lst (as:i0)
|tup (as:i0)
|comp (nl:List Str) (fr:List Nat) (elt:CE) (tg:CG) (src:CI) (cond:CO)
|isx (one:Bool) (gs:List Nat) (a:CE)
|isv (g:Nat) (a:CE)
|att (g:Nat) (a:CE) (f:Str)
inductive i0 where
|nil
|cons (a:CE) (r:i0)
inductive CO where
|none
|some (a:CE)
inductive CG where
|name (i:Nat)
|tup (gs:ny)
|sub (o i:CE)
inductive ny where
|nil
|cons (g:CG) (r:ny)
inductive CI where
|seq (a:CE)
|range (as:i0)
|enum (a:CE)
|zip (as:i0)
end
inductive CB where
|call (g:Nat) (as:i0)
|ite (c:CE) (a b:CB)
mutual
inductive CS where
|expr (e:CE)
|asg (g:CG) (e:CE)
|casg (i:Nat) (e:CE)
|acl (i g:Nat) (as:i0)
|tasg (g:CG) (e:CE)
|ret (e:CE)
|ifs (c:CE) (a b:dS)
|forr (g:CG) (src:CI) (b:dS)
|brk
|cont
|never
|rais (g:Nat) (as:i0)
|tri (i g:Nat) (b:CB) (h:dS)
inductive dS where
|nil
|cons (s:CS) (r:dS)
end
noncomputable def ny.len:ny->Nat
|.nil=>0
|.cons _ r=>r.len+1
inductive G where
|val (v:V)
|tup (a:Addr) (xs:List V)
|fn (sp:Sp) (dvs:List V)
|cls (C:Addr) (fs:List (Str×Nat)) (n:Nat)
|gy (D:Addr) (Cs:List Addr)
|mJ (Cs:List Addr) (as:List Str)
|exb (B:Addr) (Cs:List Addr)
|fh (sp:Sp)
|nop
noncomputable def oW(H:Hp)(e:Addr):Hp:=fun b=>if b=e then none else H b
noncomputable def Gv(e:Addr)(sp:Sp):Sp:=fun vs H Q _=>∃C od,H e=some (eF false e C od)/\sp vs (oW H e) (fun v H2=>H2 e=none->Q v (upd H2 e (eF false e C od))) E0
noncomputable def G.hand(e:Addr):G->G
|.fn _ _=>.nop
|.cls _ _ _=>.nop
|.fh sp=>.fn (Gv e sp) []
|g=>g
noncomputable def G.semi:G->G
|.fn _ _=>.nop
|.cls _ _ _=>.nop
|.fh sp=>.fn sp []
|g=>g
def LS(K:PySem.W.Frag)(a:Addr)(t:Bool)(xs:List V):Prop:=
 ∃(o:Obj) (its:Array Value) (n:Nat),K.lookup a=some o/\o.cls=.type (if t then "tuple" else "list")/\o.dict=none/\o.data=.seq its n/\its.size<=ai/\bh xs its.toList
noncomputable def tT(H:Hp)(a:Addr):Option (Bool×List V):=match H a with
|some (.lst xs)=>some (false,xs)
|some (.tup xs)=>some (true,xs)
|some (.bG _ (.lst xs))=>some (false,xs)
|some (.bG _ (.tup xs))=>some (true,xs)
|_=>none
def dO(K:PySem.W.Frag)(H:Hp)(a:Addr)(t:Bool)(xs:List V):Prop:=tT H a=some (t,xs)\/LS K a t xs
theorem tupS{K:PySem.W.Frag}{H:Hp}{a:Addr}{xs:List V}(h:H a=some (.tup xs)):dO K H a true xs:=.inl (by unfold tT;rw[h])
def tU(K:PySem.W.Frag)(H:Hp)(a:Addr)(k:Bool->List V->Prop):Prop:=∃t xs,dO K H a t xs/\k t xs
inductive D where
|non|bl (b:Bool)|int (i:Int)|str (x:Str)
|lst (o:Bool) (xs:List D)
|tup (xs:List D)
|cst (xs:List D)
|exc (C:Addr) (ks:List Str) (xs:List D)
mutual
noncomputable def bG:D->D
|.non=>.non
|.bl b=>.bl b
|.int i=>.int i
|.str x=>.str x
|.lst _ xs=>.lst false (aB xs)
|.tup xs=>.tup (aB xs)
|.cst xs=>.cst (aB xs)
|.exc C ks xs=>.exc C ks (aB xs)
noncomputable def aB:List D->List D
|[]=>[]
|d::r=>bG d::aB r
end
mutual
noncomputable def a9:D->Bool
|.lst o xs=>o&&dw xs
|.tup xs=>dw xs
|.cst _=>false
|.exc _ _ _=>false
|_=>true
noncomputable def dw:List D->Bool
|[]=>true
|d::r=>a9 d&&dw r
end
mutual
noncomputable def iD:D->D->Bool
|.non,y=>match y with
 |.non=>true
 |_=>false
|.bl a,y=>match y with
 |.bl b=>a==b
 |.int j=>(if a then 1 else 0)==j
 |_=>false
|.int i,y=>match y with
 |.int j=>i==j
 |.bl b=>i==(if b then 1 else 0)
 |_=>false
|.str a,y=>match y with
 |.str b=>a==b
 |_=>false
|.lst _ xs,y=>match y with
 |.lst _ ys=>lS xs ys
 |_=>false
|.tup xs,y=>match y with
 |.tup ys=>lS xs ys
 |_=>false
|.cst _,_=>false
|.exc _ _ _,_=>false
noncomputable def lS:List D->List D->Bool
|[],ys=>match ys with
 |[]=>true
 |_=>false
|x::xs,ys=>match ys with
 |y::ys=>iD x y&&lS xs ys
 |[]=>false
end
mutual
noncomputable def lq:D->Nat->Bool
|.lst _ xs,n=>match n with
 |0=>false
 |n+1=>fE xs n
|.tup xs,n=>match n with
 |0=>false
 |n+1=>fE xs n
|.cst _,_=>false
|.exc _ _ _,_=>false
|_,_=>true
noncomputable def fE:List D->Nat->Bool
|[],_=>true
|d::r,n=>lq d n&&fE r n
end
noncomputable def di(d:D):Bool:=lq d 12
noncomputable def iE(ds:List D):Bool:=fE ds 12
noncomputable def keyOk:Key->Bool
|.inr x=>decide (x.length<=ai)
|.inl _=>true
noncomputable def keysOk(ks:List Key):Bool:=ks.all keyOk
mutual
def aP(K:PySem.W.Frag)(H:Hp):D->V->Prop
|.non,v=>v=.non
|.bl b,v=>v=.bl b
|.int i,v=>v=.int i
|.str x,v=>v=.str x/\x.length<=ai
|.lst _ ds,v=>∃a vs,v=.ref a/\Rd H a (.lst vs)/\vs.length<=ai/\aF K H ds vs
|.tup ds,v=>∃a vs,v=.ref a/\H a=some (.tup vs)/\vs.length<=ai/\aF K H ds vs
|.cst ds,v=>∃a vs,v=.ref a/\LS K a true vs/\vs.length<=ai/\aF K H ds vs
|.exc C ks ds,v=>∃e d vs,v=.ref e/\H e=some (eF false e C (some d))/\H d=some (f_ d (ks.zip vs))/\aF K H ds vs
def aF(K:PySem.W.Frag)(H:Hp):List D->List V->Prop
|[],vs=>vs=[]
|d::ds,vs=>∃v r,vs=v::r/\aP K H d v/\aF K H ds r
end
def Jy(K:PySem.W.Frag)(op:lF)(x y:V)(H:Hp)(Q:VK):Prop:=match op,x,y with
|.Add,.int i,.int j=>Q (.int (i+j)) H
|.Sub,.int i,.int j=>Q (.int (i-j)) H
|.Mult,.int i,.int j=>qz i j/\Q (.int (i*j)) H
|.FloorDiv,.int i,.int j=>tH i j/\Q (.int (i / j)) H
|.Mod,.int i,.int j=>0<j/\Q (.int (i%j)) H
|.Add,.str i,.str j=>i.length+j.length<=ai/\Q (.str (i++j)) H
|.Mult,.str i,.int j=>(0<=j/\j<2 ^ 40/\i.length*j.toNat<=ai)/\Q (.str ⟨(aW j.toNat i.cps.toList).flatten.toArray⟩) H
|.RShift,.int i,.int j=>0<=j/\Q (.int (i / 2 ^ j.toNat)) H
|.Pow,.int i,.int j=>A2 i j/\Q (.int (i ^ j.toNat)) H
|.Add,.ref a,.ref b=>(∃xs ys,Rd H a (.lst xs)/\Rd H b (.lst ys)/\xs.length+ys.length<=ai/\∀p,H p=none->Q (.ref p) (upd H p (.lst (xs++ys))))
  \/ (∃xs ys,dO K H a true xs/\dO K H b true ys/\xs≠[]/\ys≠[]/\xs.length+ys.length<=ai/\∀p,H p=none->Q (.ref p) (upd H p (.tup (xs++ys))))
|.Mult,.ref a,.int k=>∃xs,Rd H a (.lst xs)/\(-(2 ^ 63)<=k/\k<2 ^ 63)/\xs.length*k.toNat<=ai/\∀p,H p=none->Q (.ref p) (upd H p (.lst (aW k.toNat xs).flatten))
|_,_,_=>False
noncomputable def memD(x:D)(xs:List D):Bool:=xs.any fun y=>iD y x
def lu(K:PySem.W.Frag)(op:qo)(x y:V)(H:Hp)(Q:VK):Prop:=match op,x,y with
|.Lt,.int i,.int j=>Q (.bl (decide (i<j))) H
|.LtE,.int i,.int j=>Q (.bl (decide (i<=j))) H
|.Gt,.int i,.int j=>Q (.bl (decide (j<i))) H
|.GtE,.int i,.int j=>Q (.bl (decide (j<=i))) H
|.Lt,.str i,.str j=>Q (.bl (decide (i.cps.toList<j.cps.toList))) H
|.LtE,.str i,.str j=>Q (.bl (!decide (j.cps.toList<i.cps.toList))) H
|.Eq,x,y=>∃dx dy,aP K H dx x/\aP K H dy y/\di dx=true/\di dy=true/\Q (.bl (iD dx dy)) H
|.NotEq,x,y=>∃dx dy,aP K H dx x/\aP K H dy y/\di dx=true/\di dy=true/\Q (.bl (!iD dx dy)) H
|.Is,x,.non=>Q (.bl (decide (x=.non))) H
|.IsNot,x,.non=>Q (.bl (!decide (x=.non))) H
|.In,x,.ref a=>(∃t xs dx ds,dO K H a t xs/\aP K H dx x/\aF K H ds xs/\di dx=true/\iE ds=true/\Q (.bl (memD dx ds)) H)
  \/ ∃kvs k,Rd H a (.dK kvs)/\x=kV k/\Q (.bl (jj kvs k).isSome) H
|.NotIn,x,.ref a=>(∃t xs dx ds,dO K H a t xs/\aP K H dx x/\aF K H ds xs/\di dx=true/\iE ds=true/\Q (.bl (!memD dx ds)) H)
  \/ ∃kvs k,Rd H a (.dK kvs)/\x=kV k/\Q (.bl (!(jj kvs k).isSome)) H
|_,_,_=>False
def ic(K:PySem.W.Frag)(x:V)(H:Hp)(Q:Bool->Prop):Prop:=match x with
|.bl b=>Q b
|.non=>Q false
|.int i=>Q (i != 0)
|.str z=>z.length<=ai/\Q (z.length != 0)
|.ref a=>(tU K H a fun _ xs=>Q (!xs.isEmpty))\/∃kvs,H a=some (.dK kvs)/\Q (!kvs.isEmpty)
|_=>False
def Bq(K:PySem.W.Frag)(x y:V)(H:Hp)(Q:VK):Prop:=match x,y with
|.str z,.int i=>z.length<=ai/\∃c,gU z.cps.toList i=some c/\Q (.str ⟨#[c]⟩) H
|.ref a,y=>(∃t xs i v,y=.int i/\dO K H a t xs/\gU xs i=some v/\Q v H)\/(∃kvs k v,Rd H a (.dK kvs)/\y=kV k/\jj kvs k=some v/\Q v H)
  \/ ∃kvs k b v,Rd H a (.dT kvs)/\y=.ref b/\H b=some (.tup (k.map kV))/\jj kvs k=some v/\Q v H
|_,_=>False
noncomputable def cut{α:Type}(xs:List α)(lo hi:Option Int):List α:=(xs.drop (HT.iX xs.length 0 lo)).take (HT.iX xs.length xs.length hi-HT.iX xs.length 0 lo)
def LU(K:PySem.W.Frag)(x:V)(lo hi:Option Int)(H:Hp)(Q:VK):Prop:=match x with
|.str z=>z.length<=ai/\Q (.str ⟨(cut z.cps.toList lo hi).toArray⟩) H
|.ref a=>(tU K H a fun t xs=>t=false/\∀p,H p=none->Q (.ref p) (upd H p (.lst (cut xs lo hi))))
  \/ ∃(n:Nat) (xs:List V),dO K H a true xs/\lo=some (n:Int)/\hi=none/\1<=n/\n<=xs.length/\∀p,H p=none->Q (.ref p) (upd H p (.tup (xs.drop n)))
|_=>False
noncomputable def mR:V->Bool
|.bl true=>true
|_=>false
noncomputable def Ri:V->Bool
|.bl _=>true
|_=>false
noncomputable def O_:V->Bool
|.int _=>true
|_=>false
noncomputable def intOf:V->Int
|.int i=>i
|_=>0
noncomputable def xy(xs:List V):Bool:=xs.all Ri
noncomputable def xA(xs:List V):Bool:=xs.all O_
noncomputable def nA(xs:List V):Int:=(xs.map intOf).sum
noncomputable def yt(i:Int):Str:=toString i
def qF(K:PySem.W.Frag)(f:Bf)(vs:List V)(H:Hp)(Q:VK):Prop:=match f,vs with
|.len,[.str z]=>z.length<=ai/\Q (.int z.length) H
|.len,[.ref a]=>(tU K H a fun _ xs=>Q (.int xs.length) H)\/∃kvs,Rd H a (.dK kvs)/\Q (.int kvs.length) H
|.all,[.ref a]=>tU K H a fun t xs=>t=false/\xy xs=true/\Q (.bl (xs.all mR)) H
|.int,[.int i]=>Q (.int i) H
|.int,[.bl b]=>Q (.int (if b then 1 else 0)) H
|.max,[.int i,.int j]=>Q (.int (if j>i then j else i)) H
|.int,[.str z]=>z.length<=640/\∃n,intText? z=some n/\Q (.int n) H
|.str,[.int i]=>i.natAbs.log2<1920/\Q (.str (yt i)) H
|.sum,[.ref a]=>tU K H a fun t xs=>t=false/\xA xs=true/\Q (.int (nA xs)) H
|.sorted,[.ref a]=>∃us kss,Rd H a (.lst us)/\Be H us kss/\sortable kss=true/\∀p,H p=none->Q (.ref p) (upd H p (.lst ((nI kss).map fun i=>us.getD i .non)))
|_,_=>False
def oX(K:PySem.W.Frag)(t:Ty)(x:V)(H:Hp)(Q:Bool->Prop):Prop:=match x with
|.non=>Q false
|.bl _=>Q (decide (t=.bool)||decide (t=.int))
|.int _=>Q (decide (t=.int))
|.str _=>Q (decide (t=.str))
|.ref a=>(∃xs,Rd H a (.lst xs)/\Q (decide (t=.list)||decide (t=.none)))\/(∃xs,dO K H a true xs/\Q (decide (t=.tuple)||decide (t=.none)))\/∃kvs,Rd H a (.dK kvs)/\Q (decide (t=.dict))
|_=>False
def jH(H:Hp)(a:Addr):Prop:=match H a with
|some (.lst _)=>True
|_=>False
def LV(H:Hp)(a:Addr):Prop:=match H a with
|some (.dK _)=>True
|some (.dT _)=>True
|_=>False
def p6(m:Mt)(x:V)(H:Hp):Prop:=match m,x with
|.append,.ref a=>jH H a
|.extend,.ref a=>jH H a
|_,_=>False
def rO(K:PySem.W.Frag)(m:Mt)(x:V)(vs:List V)(H:Hp)(Q:VK):Prop:=match m,x,vs with
|.append,.ref l,[y]=>match H l with
 |some (.lst xs)=>xs.length<ai/\Q .non (upd H l (.lst (xs++[y])))
 |_=>False
|.extend,.ref l,[.ref b]=>match H l with
 |some (.lst xs)=>∃zs,H b=some (.lst zs)/\xs.length+zs.length<=ai/\Q .non (upd H l (.lst (xs++zs)))
 |_=>False
|_,_,_=>False
inductive Item where
|v (x:V)
|tup (xs:List V)
def mkItem(it:Item)(H:Hp)(k:V->Hp->Prop):Prop:=match it with
|.v x=>k x H
|.tup xs=>∀p,H p=none->k (.ref p) (upd H p (.tup xs))
noncomputable def kQ:Nat->List V->List Item
|_,[]=>[]
|n,x::r=>.tup [.int (n:Int),x]::kQ (n+1) r
noncomputable def nJ:List V->List V->List Item
|x::xs,y::ys=>.tup [x,y]::nJ xs ys
|_,_=>[]
def SD(x y:V)(H:Hp)(k:(Hp->Prop)->List Item->Hp->Prop):Prop:=∃a b xs ys,x=.ref a/\y=.ref b/\Rd H a (.lst xs)/\Rd H b (.lst ys)/\k (fun H'=>Rd H' a (.lst xs)/\Rd H' b (.lst ys)) (nJ xs ys) H
def Rj(K:PySem.W.Frag)(x y:V)(H:Hp)(k:(Hp->Prop)->List Item->Hp->Prop):Prop:=∃a b xs ys,x=.ref a/\y=.ref b/\dO K H a true xs/\dO K H b true ys/\k (fun H'=>dO K H' a true xs/\dO K H' b true ys) (nJ xs ys) H
def xB(K:PySem.W.Frag)(vs:List V)(H:Hp)(k:(Hp->Prop)->List Item->Hp->Prop):Prop:=match vs with
|[x,y]=>SD x y H k\/Rj K x y H k
|_=>False
noncomputable abbrev Gw:=St->Hp->((Hp->Prop)->List Item->Hp->Prop)->Prop
def forL(ok:Hp->Prop)(g:TG)(body:TS)(D:Ends):List Item->St->Hp->Prop
|[],O,H=>ok H/\D.nx O H
|it::r,O,H=>ok H/\mkItem it H fun x H1=>g x O H1 fun TH H2=>body { D with nx:=forL ok g body D r,ct:=forL ok g body D r,bk:=D.nx } TH H2
def m_(ok:Hp->Prop)(g:TG)(cond:TT)(elt:TE)(k:List V->Hp->Prop):List Item->List V->St->Hp->Prop
|[],acc,_,H=>ok H/\k acc H
|it::r,acc,O,H=>ok H/\acc.length<ai/\mkItem it H fun x H1=>g x O H1 fun TH H2=>cond TH H2 fun b H3=>
  if b=true then elt TH H3 fun y H4=>m_ ok g cond elt k r (acc++[y]) TH H4 else m_ ok g cond elt k r acc TH H3
noncomputable def chars(z:Str):List V:=z.cps.toList.map fun c=>V.str ⟨#[c]⟩
def yu(K:PySem.W.Frag)(x:V)(H:Hp)(k:(Hp->Prop)->List Item->Hp->Prop):Prop:=match x with
|.str z=>z.length<=ai/\k (fun _=>True) ((chars z).map .v) H
|.ref a=>tU K H a fun t xs=>k (fun H'=>dO K H' a t xs) (xs.map .v) H
|_=>False
def tV(vs:List V)(H:Hp)(k:(Hp->Prop)->List Item->Hp->Prop):Prop:=match vs with
|[.int j]=>(-(2 ^ 62)<=j/\j<2 ^ 62)/\k (fun _=>True) ((bq j.toNat).map fun(i:Nat)=>Item.v (.int (i:Int))) H
|[.int i,.int j]=>(-(2 ^ 62)<=i/\i<2 ^ 62/\-(2 ^ 62)<=j/\j<2 ^ 62)/\k (fun _=>True) ((bq (j-i).toNat).map fun(n:Nat)=>Item.v (.int (i+(n:Int)))) H
|_=>False
def j9(O:St)(i:Nat)(k:V->Prop):Prop:=match O[i]? with
|some (some v)=>k v
|_=>False
noncomputable def qG(Y:List G):List Nat->Option Addr->Option Bool
|[],_=>some false
|g::r,c=>match Y[g]? with
 |some (.gy D Cs)=>match c with
  |none=>qG Y r c
  |some C=>if C∈Cs then(if C=D then some true else qG Y r c)else none
 |_=>none
def uX(Y:List G):List Nat->List Addr->Prop
|[],Ds=>Ds=[]
|g::gs,Ds=>∃D r Cs,Ds=D::r/\Y[g]?=some (G.gy D Cs)/\uX Y gs r
def Jz(H:Hp)(e:Addr)(k:Addr->List (Str×V)->Prop):Prop:=∃m C d fs,H e=some (eF m e C (some d))/\H d=some (f_ d fs)/\k C fs
def Br(Y:List G)(gs:List Nat)(x:V)(H:Hp)(Q:Bool->Prop):Prop:=gs≠[]/\gs.length<=1000/\(∃Ds,uX Y gs Ds)/\match x with
|.non=>∃b,qG Y gs none=some b/\Q b
|.ref e=>Jz H e fun C _=>∃b,qG Y gs (some C)=some b/\Q b
|_=>False
def yw(Y:List G)(g:Nat)(x:V)(H:Hp)(Q:Bool->Prop):Prop:=match Y[g]? with
|some (.mJ Cs _)=>match x with
 |.non=>Q false
 |.ref e=>Jz H e fun C _=>C∈Cs/\Q true
 |_=>False
|_=>False
def Bs(Y:List G)(g:Nat)(f:Str)(x:V)(H:Hp)(Q:VK):Prop:=match Y[g]? with
|some (.mJ Cs as)=>match x with
 |.ref e=>Jz H e fun C fs=>(C∈Cs/\f∈as)/\∃v,fs.lookup f=some v/\Q v H
 |_=>False
|_=>False
noncomputable def EG:V->Option Str
|.str x=>some x
|.int i=>if i.natAbs.log2<1920 then some (yt i)else none
|_=>none
noncomputable def LW(O:L2.St):List (Str×Nat)->Str->Option Str
|[],a=>some a
|p::r,a=>match O[p.2]? with
 |some (some v)=>(EG v).bind fun y=>LW O r (a++p.1++y)
 |_=>none
mutual
def wE(K:PySem.W.Frag)(Y:List G)(E:XK):CE->TE
|.var i=>fun O H Q=>j9 O i fun v=>Q v H
|.con v=>fun _ H Q=>Q v H
|.glo g=>fun _ H Q=>match Y[g]? with
 |some (.val v)=>Q v H
 |some (.tup a _)=>Q (.ref a) H
 |_=>False
|.bin op a b=>fun O H Q=>wE K Y E a O H fun x H1=>wE K Y E b O H1 fun y H2=>Jy K op x y H2 Q
|.neg a=>fun O H Q=>wE K Y E a O H fun x H1=>match x with
 |.int i=>Q (.int (-i)) H1
 |_=>False
|.not a=>fun O H Q=>wE K Y E a O H fun x H1=>ic K x H1 fun b=>Q (.bl (!b)) H1
|.and a b=>fun O H Q=>wE K Y E a O H fun x H1=>match x with
 |.bl c=>if c=true then wE K Y E b O H1 Q else Q (.bl false) H1
 |_=>False
|.or a b=>fun O H Q=>wE K Y E a O H fun x H1=>match x with
 |.bl c=>if c=true then Q (.bl true) H1 else wE K Y E b O H1 Q
 |_=>False
|.ite c a b=>fun O H Q=>wT K Y E c O H fun k H1=>if k=true then wE K Y E a O H1 Q else wE K Y E b O H1 Q
|.cmp op a b=>fun O H Q=>wE K Y E a O H fun x H1=>wE K Y E b O H1 fun y H2=>lu K op x y H2 Q
|.chain o1 o2 a b c=>fun O H Q=>wE K Y E a O H fun x H1=>wE K Y E b O H1 fun y H2=>lu K o1 x y H2 fun z H3=>match z with
 |.bl k=>if k=true then wE K Y E c O H3 fun u H4=>lu K o2 y u H4 Q else Q (.bl false) H3
 |_=>False
|.call g as=>fun O H Q=>match Y[g]? with
 |some (.fn sp dvs)=>wEs K Y E as O H fun vs H1=>sp (vs++dvs) H1 Q E
 |_=>False
|.blt f as=>fun O H Q=>wEs K Y E as O H fun vs H1=>qF K f vs H1 Q
|.isi a t=>fun O H Q=>wE K Y E a O H fun x H1=>oX K t x H1 fun b=>Q (.bl b) H1
|.mth m o as=>fun O H Q=>wE K Y E o O H fun x H1=>p6 m x H1/\wEs K Y E as O H1 fun vs H2=>rO K m x vs H2 Q
|.ix a b=>fun O H Q=>wE K Y E a O H fun x H1=>wE K Y E b O H1 fun y H2=>Bq K x y H2 Q
|.sl a lo hi=>fun O H Q=>wE K Y E a O H fun x H1=>wO K Y E lo O H1 fun l H2=>wO K Y E hi O H2 fun h H3=>LU K x l h H3 Q
|.lst as=>fun O H Q=>wEs K Y E as O H fun vs H1=>vs.length<=ai/\∀p,H1 p=none->Q (.ref p) (upd H1 p (.lst vs))
|.tup as=>fun O H Q=>wEs K Y E as O H fun vs H1=>vs.length<=ai/\∀p,H1 p=none->Q (.ref p) (upd H1 p (.tup vs))
|.comp nl fr elt tg src cond=>fun O H Q=>wI K Y E src O H fun ok items H1=>
  m_ ok (wG K Y E0 tg) (wC K Y E0 cond) (wE K Y E0 elt) (fun vs H2=>∀p,H2 p=none->Q (.ref p) (upd H2 p (.lst vs))) items [] (nl.map (fun _=>none)++fr.map (fun i=>O.getD i none)) H1
|.isx _ gs a=>fun O H Q=>wE K Y E a O H fun x H1=>Br Y gs x H1 fun b=>Q (.bl b) H1
|.isv g a=>fun O H Q=>wE K Y E a O H fun x H1=>yw Y g x H1 fun b=>Q (.bl b) H1
|.att g a f=>fun O H Q=>wE K Y E a O H fun x H1=>Bs Y g f x H1 Q
def wT(K:PySem.W.Frag)(Y:List G)(E:XK):CE->TT
|.not a=>fun O H Q=>wT K Y E a O H fun b H1=>Q (!b) H1
|.and a b=>fun O H Q=>wT K Y E a O H fun c H1=>if c=true then wT K Y E b O H1 Q else Q false H1
|.or a b=>fun O H Q=>wT K Y E a O H fun c H1=>if c=true then Q true H1 else wT K Y E b O H1 Q
|.ite c a b=>fun O H Q=>wT K Y E c O H fun k H1=>if k=true then wT K Y E a O H1 Q else wT K Y E b O H1 Q
|.cmp op a b=>fun O H Q=>wE K Y E a O H fun x H1=>wE K Y E b O H1 fun y H2=>lu K op x y H2 fun z H3=>match z with
 |.bl k=>Q k H3
 |_=>False
|.chain o1 o2 a b c=>fun O H Q=>wE K Y E a O H fun x H1=>wE K Y E b O H1 fun y H2=>lu K o1 x y H2 fun z H3=>match z with
 |.bl k=>if k=true then wE K Y E c O H3 fun u H4=>lu K o2 y u H4 fun z H5=>match z with
  |.bl k=>Q k H5
  |_=>False
  else Q false H3
 |_=>False
|.var i=>fun O H Q=>j9 O i fun v=>ic K v H fun b=>Q b H
|.ix a b=>fun O H Q=>wE K Y E a O H fun x H1=>wE K Y E b O H1 fun y H2=>Bq K x y H2 fun v H3=>ic K v H3 fun b=>Q b H3
|.call g as=>fun O H Q=>match Y[g]? with
 |some (.fn sp dvs)=>wEs K Y E as O H fun vs H1=>sp (vs++dvs) H1 (fun x H2=>ic K x H2 fun b=>Q b H2) E
 |_=>False
|.blt f as=>fun O H Q=>wEs K Y E as O H fun vs H1=>qF K f vs H1 fun x H2=>ic K x H2 fun b=>Q b H2
|.isi a t=>fun O H Q=>wE K Y E a O H fun x H1=>oX K t x H1 fun b=>ic K (.bl b) H1 fun b=>Q b H1
|.mth m o as=>fun O H Q=>wE K Y E o O H fun x H1=>p6 m x H1/\wEs K Y E as O H1 fun vs H2=>rO K m x vs H2 fun y H3=>ic K y H3 fun b=>Q b H3
|.isx _ gs a=>fun O H Q=>wE K Y E a O H fun x H1=>Br Y gs x H1 fun b=>ic K (.bl b) H1 fun b=>Q b H1
|.isv g a=>fun O H Q=>wE K Y E a O H fun x H1=>yw Y g x H1 fun b=>ic K (.bl b) H1 fun b=>Q b H1
|_=>fun _ _ _=>False
def wEs(K:PySem.W.Frag)(Y:List G)(E:XK):i0->TA
|.nil=>fun _ H Q=>Q [] H
|.cons a r=>fun O H Q=>wE K Y E a O H fun x H1=>wEs K Y E r O H1 fun xs H2=>Q (x::xs) H2
def wO(K:PySem.W.Frag)(Y:List G)(E:XK):CO->St->Hp->(Option Int->Hp->Prop)->Prop
|.none=>fun _ H Q=>Q none H
|.some a=>fun O H Q=>wE K Y E a O H fun x H1=>match x with
 |.int i=>Q (some i) H1
 |_=>False
def wC(K:PySem.W.Frag)(Y:List G)(E:XK):CO->TT
|.none=>fun _ H Q=>Q true H
|.some a=>wT K Y E a
def wG(K:PySem.W.Frag)(Y:List G)(E:XK):CG->TG
|.name i=>fun v O H Q=>Q (O.set i (some v)) H
|.tup gs=>fun v O H Q=>match v with
 |.ref a=>tU K H a fun t xs=>t=true/\xs.length=gs.len/\DE K Y E gs xs O H Q
 |_=>False
|.sub o i=>fun v O H Q=>wE K Y E o O H fun x H1=>wE K Y E i O H1 fun y H2=>match x with
 |.ref a=>match H2 a with
  |some (.lst xs)=>∃k j,y=.int k/\gh xs.length k=some j/\Q O (upd H2 a (.lst (xs.set j v)))
  |some (.dK kvs)=>∃k,y=kV k/\kvs.length<ai/\Q O (upd H2 a (.dK (putK kvs k v)))
  |some (.dT kvs)=>∃k b,y=.ref b/\H2 b=some (.tup (k.map kV))/\kvs.length<ai/\Q O (upd H2 a (.dT (putK kvs k v)))
  |_=>False
 |_=>False
def DE(K:PySem.W.Frag)(Y:List G)(E:XK):ny->tF
|.nil=>fun vs O H Q=>match vs with
 |[]=>Q O H
 |_=>False
|.cons g r=>fun vs O H Q=>match vs with
 |v::vr=>wG K Y E g v O H fun TF H'=>DE K Y E r vr TF H' Q
 |_=>False
def wI(K:PySem.W.Frag)(Y:List G)(E:XK):CI->Gw
|.seq a=>fun O H k=>wE K Y E a O H fun x H1=>yu K x H1 k
|.range as=>fun O H k=>wEs K Y E as O H fun vs H1=>tV vs H1 k
|.zip as=>fun O H k=>wEs K Y E as O H fun vs H1=>xB K vs H1 k
|.enum a=>fun O H k=>wE K Y E a O H fun x H1=>match x with
 |.ref b=>∃xs,Rd H1 b (.lst xs)/\k (fun H'=>Rd H' b (.lst xs)) (kQ 0 xs) H1
 |_=>False
end
def wB(K:PySem.W.Frag)(Y:List G):CB->XK->St->Hp->(Hp->Prop)->Prop
|.call g as=>fun E O H nx=>match Y[g]? with
 |some (.fn sp dvs)=>wEs K Y E0 as O H fun vs H1=>sp (vs++dvs) H1 (fun _ H2=>nx H2) E
 |_=>False
|.ite c a b=>fun E O H nx=>wT K Y E0 c O H fun k H1=>if k=true then wB K Y a E O H1 nx else wB K Y b E O H1 nx
mutual
def wS(K:PySem.W.Frag)(Y:List G)(E:XK):CS->TS
|.expr e=>fun D O H=>wE K Y E e O H fun _ H1=>D.nx O H1
|.asg g e=>fun D O H=>wE K Y E e O H fun x H1=>wG K Y E g x O H1 D.nx
|.casg i e=>fun D O H=>wE K Y E e O H fun x H1=>D.nx (O.set i (some x)) H1
|.acl i g as=>fun D O H=>wE K Y E (.call g as) O H fun x H1=>wG K Y E (.name i) x O H1 D.nx
|.tasg g e=>fun D O H=>wE K Y E e O H fun x H1=>wG K Y E g x O H1 D.nx
|.ret e=>fun D O H=>wE K Y E e O H D.rt
|.ifs c a b=>fun D O H=>wT K Y E c O H fun k H1=>if k=true then wSs K Y E a D O H1 else wSs K Y E b D O H1
|.forr g src b=>fun D O H=>wI K Y E src O H fun ok items H1=>forL ok (wG K Y E g) (wSs K Y E b) D items O H1
|.brk=>fun D O H=>D.bk O H
|.cont=>fun D O H=>D.ct O H
|.never=>fun _ _ _=>False
|.rais g as=>fun D O H=>match Y[g]? with
 |some (.cls C fs n)=>tS C fs n (wEs K Y E as) E D O H
 |_=>False
|.tri i g b h=>fun D O H=>match Y[g]? with
 |some (.exb B _)=>Bp K i B (wB K Y b) (fun e=>wSs K (Y.map (G.hand e)) E0 h) D O H
 |_=>False
def wSs(K:PySem.W.Frag)(Y:List G)(E:XK):dS->TS
|.nil=>fun D O H=>D.nx O H
|.cons s r=>fun D O H=>wS K Y E s { D with nx:=wSs K Y E r D } O H
end
end L3
end
section
namespace L3
open PySem PySem.Spec PyProof.Rows L2
variable{K:PySem.W.Frag}{H:Hp}{a:Addr}{xs:List V}
theorem dO.sq{t:Bool}(h:dO K H a t xs):(t=false/\fy K H a xs)\/(t=true/\jF K H a xs):=by
 rcases h with h|⟨o,its,n,hk,hc,hd,hs,hz,r⟩
 ·unfold tT at h;split at h<;>first|(cases h)|skip
  ·exact .inl ⟨rfl,.inl (.inl (by assumption))⟩
  ·exact .inr ⟨rfl,.inl (.inl (by assumption))⟩
  ·exact .inl ⟨rfl,.inl (.inr ⟨_,by assumption⟩)⟩
  ·exact .inr ⟨rfl,.inl (.inr ⟨_,by assumption⟩)⟩
 ·cases t with
  |false=>exact .inl ⟨rfl,.inr ⟨o,its,n,hk,hc,hd,hs,hz,r⟩⟩
  |true=>exact .inr ⟨rfl,.inr ⟨o,its,n,hk,hc,hs,hz,r⟩⟩
theorem dO.jf(h:dO K H a true xs):jF K H a xs:=by
 rcases h.sq with⟨z,_⟩|⟨_,z⟩
 ·cases z
 ·exact z
theorem dO.Gx(h:dO K H a false xs):fy K H a xs:=by
 rcases h.sq with⟨_,z⟩|⟨z,_⟩
 ·exact z
 ·cases z
variable{pins:List (Addr×Obj)}{O:L2.St}{s:ah}
variable{A:bU}
variable{b:Addr}{its2:List Value}{ds es:List D}
variable{its:Array Value}{h:Heap}
variable{dx:D}
section
variable{X:Cx}
theorem toList_replicate(j:Nat)(x:Str):(⟨(aW j x.cps).foldl (·++·) #[]⟩:Str)=⟨(aW j x.cps.toList).flatten.toArray⟩:=by
 have h:∀(j:Nat) (acc:Array Nat),((aW j x.cps).foldl (·++·) acc)=acc++(aW j x.cps.toList).flatten.toArray:=by
  intro j;induction j with
  |zero=>intro acc;simp
  |succ j ih=>
   intro acc;rw[bX,yg,ih,bX,cS];apply Array.ext';simp
 rw[h];simp
theorem EH:iB X (fO .Mult) (fun x y H Q=>∃i j,x=.str i/\y=.int j/\(0<=j/\j<2 ^ 40/\i.length*j.toNat<=ai)/\Q (.str ⟨(aW j.toNat i.cps.toList).flatten.toArray⟩) H):=by
 intro pins s O H x y v u Q I rx ry h;obtain⟨i,j,rfl,rfl,⟨h0,h1,h2⟩,q⟩:=h;obtain⟨t,rfl⟩:=rx;obtain⟨t',rfl⟩:=ry;have hs:ai=16777216:=cD;refine SB.mul ⟨?_,fun hn hc=>?_,fun hn hc=>?_⟩ fun t' k=>⟨.str (El i j),H,I.tok _,⟨_,rfl⟩,?_⟩
 ·have e1:decide (j < -(2 ^ 63:Int))=false:=decide_eq_false (by omega);have e2:decide (j≥2 ^ 63)=false:=decide_eq_false (by omega);rw[e1,e2];rfl
 ·have hj:0<j:=by omega
  intro hgt;have h3:(2 ^ 63-1) / j<(i.length:Int):=hgt;have h4:(2 ^ 63-1:Int)<(i.length:Int)*j:=(Int.ediv_lt_iff_lt_mul hj).mp h3;have h5:((i.length*j.toNat:Nat):Int)=(i.length:Int)*j:=by
   rw[Int.natCast_mul,tu h0]
  omega
 ·unfold FU;simp only[decide_eq_false_iff_not];omega
 ·have e:El i j=⟨(aW j.toNat i.cps.toList).flatten.toArray⟩:=by
   unfold El;by_cases h3:j<1
   ·have:j.toNat=0:=by omega
    rw[if_pos h3,this];rfl
   ·rw[if_neg h3];by_cases h4:(j==1||i.length==0)=true
    ·rw[if_pos h4];rw[Bool.or_eq_true]at h4;rcases h4 with h4|h4
     ·have:j=1:=by simpa using h4
      subst this;simp
     ·have h5:i.length=0:=by simpa using h4
      have h6:i.cps.toList=[]:=by
       apply ed;simpa[gE]using h5
      rw[h6];cases i with
      |mk c=>
       simp at h6;subst h6;simp
    ·rw[if_neg h4,toList_replicate]
  rw[e];exact q
theorem Inv.Pa{l:Addr}(I:L2.Inv X pins O H s)(hH:Rd H l (.lst xs)):xs.length<=ai/\∃(its:List Value) (n:Nat),bh xs its/\xs.length=its.length/\s.heap.get? l=some { cls:=.type "list",data:=.seq its.toArray n }:=by
 obtain⟨z,its,n,r,e⟩:=hH.ok I.hok;exact⟨z,its,n,r,r.length,e⟩
theorem op_cat':iB X (fO .Add) (fun x y H Q=>∃l b xs zs,x=.ref l/\y=.ref b/\Rd H l (.lst xs)/\Rd H b (.lst zs)/\xs.length+zs.length<=ai/\∀p,H p=none->Q (.ref p) (upd H p (.lst (xs++zs)))):=by
 intro pins s O H x y v u Q I rx ry h;obtain⟨l,b,xs,zs,rfl,rfl,hH,hB,hz,q⟩:=h;cases rx;cases ry;obtain⟨z,its,n,r,hl,e⟩:=Inv.Pa I hH;obtain⟨z2,its2,n2,r2,hl2,e2⟩:=Inv.Pa I hB;refine PySem.P.add_list e e2 ?_ (by rw[aL,aL];omega);have ea:its.toArray++its2.toArray=(its++its2).toArray:=by simp
 rw[ea];exact⟨.ref _,_,I.OY (t':=s.toks) (r.append r2) (by rw[aR];omega),rfl,q _ I.fresh⟩
theorem op_rep':iB X (fO .Mult) (fun x y H Q=>∃l k xs,x=.ref l/\y=.int k/\Rd H l (.lst xs)/\-(2 ^ 63)<=k/\k<2 ^ 63/\xs.length*k.toNat<=ai/\∀p,H p=none->Q (.ref p) (upd H p (.lst (aW k.toNat xs).flatten))):=by
 intro pins s O H x y v u Q I rx ry h;obtain⟨l,k,xs,rfl,rfl,hH,h1,h2,hz,q⟩:=h;cases rx;obtain⟨t,rfl⟩:=ry;obtain⟨z,its,n,r,hl,e⟩:=Inv.Pa I hH;have hlen:its.toArray.size*k.toNat<=ai:=by rw[aL,<-hl];exact hz
 have hcap:¬its.toArray.size*k.toNat>(2 ^ 63-1) / 8:=by
  have:(ai:Nat)<=(2 ^ 63-1) / 8:=by decide
  omega
 have hfit:¬(!AB k)=true:=by
  rw[fitsIndex_both h1 h2];exact aE
 have hlong:¬g_ (its.toArray.size*k.toNat)=true:=by
  rw[A8 hlen];exact aE
 have hnew:yf (fun x1 x2=>x1++x2) #[] (aW (if its.toArray.isEmpty=true then 0 else k.toNat) its.toArray)=(aW k.toNat its).flatten.toArray:=by
  have f0:∀m:Nat,yf (fun x1 x2=>x1++x2) #[] (aW m its.toArray)=(aW m its).flatten.toArray:=fun m=>by
   have:=foldl_rep its m [];rw[qv]at this;exact this
  rw[f0];cases its with
  |nil=>simp
  |cons a r'=>rw[if_neg (by simp)]
 refine wpAny_binaryOp_repeat_ref (T:="list") (U:="int") (by decide) ⟨_,e,rfl⟩ (fun s'=>ye s' k t) noFill_list_mul F.fills_int_mul F.slot_int_rmul repeat_list F.slot_int_index.lookup
  (oE F.slot_int_rmul (ye s k t) F.entry_int_rmul (F.args_int_rmul_2 _ _) (int___rmul___int_list k t l its.toArray n)
   ⟨e,rfl,⟨_,e,rfl⟩,oE F.slot_list_mul ⟨_,e,rfl⟩ F.entry_list_mul (F.args_list_mul_2 _ _) (vY l its.toArray n k t hfit hcap hlong) ⟨e,?_⟩⟩)
 rw[hnew];exact⟨.ref _,_,I.OY (t':=s.toks) (r.rep k.toNat) (by rw[len_rep,Nat.mul_comm];exact hz),rfl,q _ I.fresh⟩
theorem Rk(op:lF):iB X (fO op) (Jy X.K op):=by
 intro pins s O H x y v u Q I rx ry h;cases op<;>first|(cases x<;>first|exact ay h|(cases y<;>exact ay h))|skip
 case Add=>
  cases x<;>first|exact ay h|(cases y<;>first|exact ay h|skip)
  ·exact OF pins s O H _ _ v u Q I rx ry ⟨_,_,rfl,rfl,h⟩
  ·exact Et pins s O H _ _ v u Q I rx ry ⟨_,_,rfl,rfl,h⟩
  ·rcases h with⟨xs,ys,h1,h2,h3,h4⟩|⟨xs,ys,h1,h2,h3,h4,h5,h6⟩
   ·exact op_cat' pins s O H _ _ v u Q I rx ry ⟨_,_,xs,ys,rfl,rfl,h1,h2,h3,h4⟩
   ·have t1:=h1.jf;have t2:=h2.jf;exact MM pins s O H _ _ v u Q I rx ry ⟨_,_,xs,ys,rfl,rfl,t1,t2,h3,h5,fun z=>absurd z h4,fun _=>h6⟩
 case Sub=>
  cases x<;>first|exact ay h|(cases y<;>first|exact ay h|skip)
  ·exact OG pins s O H _ _ v u Q I rx ry ⟨_,_,rfl,rfl,h⟩
 case Mult=>
  cases x<;>first|exact ay h|(cases y<;>first|exact ay h|skip)
  ·exact OH pins s O H _ _ v u Q I rx ry ⟨_,_,rfl,rfl,h⟩
  ·exact EH pins s O H _ _ v u Q I rx ry ⟨_,_,rfl,rfl,h⟩
  ·obtain⟨xs,h1,⟨h2,h3⟩,h4,h5⟩:=h;exact op_rep' pins s O H _ _ v u Q I rx ry ⟨_,_,xs,rfl,rfl,h1,h2,h3,h4,h5⟩
 case FloorDiv=>
  cases x<;>first|exact ay h|(cases y<;>first|exact ay h|skip)
  ·exact ME pins s O H _ _ v u Q I rx ry ⟨_,_,rfl,rfl,h⟩
 case Mod=>
  cases x<;>first|exact ay h|(cases y<;>first|exact ay h|skip)
  ·exact OI pins s O H _ _ v u Q I rx ry ⟨_,_,rfl,rfl,h⟩
 case RShift=>
  cases x<;>first|exact ay h|(cases y<;>first|exact ay h|skip)
  ·exact OL pins s O H _ _ v u Q I rx ry ⟨_,_,rfl,rfl,h⟩
 case Pow=>
  cases x<;>first|exact ay h|(cases y<;>first|exact ay h|skip)
  ·exact OJ pins s O H _ _ v u Q I rx ry ⟨_,_,rfl,rfl,h⟩
theorem Gy:iB X (fj .LtE) (fun x y H Q=>∃i j,x=.str i/\y=.str j/\Q (.bl (!decide (j.cps.toList<i.cps.toList))) H):=by
 intro pins s O H x y v u Q I rx ry h;obtain⟨i,j,rfl,rfl,q⟩:=h;obtain⟨t,rfl⟩:=rx;obtain⟨t',rfl⟩:=ry;exact PySem.P.le_str (w_ I q rfl)
section
open PySem.SeqAt
variable{pins:List (Addr×Obj)}{O:L2.St}{H:Hp}{s:ah}
theorem aF.len':∀{ds:List D}{vs:List V},aF K H ds vs->vs.length=ds.length
|[],_,h=>by cases h;rfl
|d::ds,_,h=>by
 obtain⟨v,r,rfl,_,h3⟩:=h;simp[aF.len' h3]
theorem Rd.oY(h:Rd H a (.lst xs)):fy K H a xs:=.inl h
mutual
theorem yx(I:L2.Inv X pins O H s):∀(dx dy:D) (v:V) (n m:Nat),lq dx n=true->lq dy m=true->aP X.K H dx v->aP X.K H dy v->iD dx dy=true
|.non,dy,v,n,m,hn,hm,r,q=>by
 cases r;cases dy with
 |non=>rfl
 |str z=>cases q.1
 |lst o es=>obtain⟨a,vs,z,_⟩:=q;cases z
 |tup es=>obtain⟨a,vs,z,_⟩:=q;cases z
 |cst es=>cases hm
 |exc C ks es=>cases hm
 |_=>cases q
|.bl b,dy,v,n,m,hn,hm,r,q=>by
 cases r;cases dy with
 |bl c=>cases q;simp[iD]
 |str z=>cases q.1
 |lst o es=>obtain⟨a,vs,z,_⟩:=q;cases z
 |tup es=>obtain⟨a,vs,z,_⟩:=q;cases z
 |cst es=>cases hm
 |exc C ks es=>cases hm
 |_=>cases q
|.int b,dy,v,n,m,hn,hm,r,q=>by
 cases r;cases dy with
 |int c=>cases q;simp[iD]
 |str z=>cases q.1
 |lst o es=>obtain⟨a,vs,z,_⟩:=q;cases z
 |tup es=>obtain⟨a,vs,z,_⟩:=q;cases z
 |cst es=>cases hm
 |exc C ks es=>cases hm
 |_=>cases q
|.str b,dy,v,n,m,hn,hm,r,q=>by
 obtain⟨rfl,_⟩:=r;cases dy with
 |str c=>cases q.1;simp[iD]
 |lst o es=>obtain⟨a,vs,z,_⟩:=q;cases z
 |tup es=>obtain⟨a,vs,z,_⟩:=q;cases z
 |cst es=>cases hm
 |exc C ks es=>cases hm
 |_=>cases q
|.lst o ds,dy,v,n,m,hn,hm,r,q=>by
 obtain⟨a,vs,rfl,h2,h3,h4⟩:=r;cases n with
 |zero=>cases hn
 |succ n=>
 cases dy with
 |lst o' es=>
  obtain⟨a',us,e,k2,k3,k4⟩:=q;cases e;cases m with
  |zero=>cases hm
  |succ m=>
  have e:=I.oS (Rd.oY h2) (Rd.oY k2);subst e;exact v_ I ds es vs n m hn hm h4 k4
 |tup es=>
  obtain⟨a',us,e,k2,k3,k4⟩:=q;cases e;obtain⟨its,_,⟨o1,n1,e1,c1,_⟩,_⟩:=I.list (Rd.oY h2);obtain⟨its2,_,⟨o2,e2,c2,_⟩,_⟩:=I.tuple (tupS k2).jf;rw[e1]at e2;cases e2;rw[c1]at c2;exact absurd c2 (by decide)
 |str z=>cases q.1
 |cst es=>cases hm
 |exc C ks es=>cases hm
 |_=>cases q
|.tup ds,dy,v,n,m,hn,hm,r,q=>by
 obtain⟨a,vs,rfl,h2,h3,h4⟩:=r;cases n with
 |zero=>cases hn
 |succ n=>
 cases dy with
 |tup es=>
  obtain⟨a',us,e,k2,k3,k4⟩:=q;cases e;cases m with
  |zero=>cases hm
  |succ m=>
  have e:=I.pU (tupS h2).jf (tupS k2).jf;subst e;exact v_ I ds es vs n m hn hm h4 k4
 |lst o es=>
  obtain⟨a',us,e,k2,k3,k4⟩:=q;cases e;obtain⟨its,_,⟨o1,n1,e1,c1,_⟩,_⟩:=I.list (Rd.oY k2);obtain⟨its2,_,⟨o2,e2,c2,_⟩,_⟩:=I.tuple (tupS h2).jf;rw[e1]at e2;cases e2;rw[c1]at c2;exact absurd c2 (by decide)
 |str z=>cases q.1
 |cst es=>cases hm
 |exc C ks es=>cases hm
 |_=>cases q
|.cst _,dy,v,n,m,hn,hm,r,q=>by cases hn
|.exc _ _ _,dy,v,n,m,hn,hm,r,q=>by cases hn
theorem v_(I:L2.Inv X pins O H s):∀(ds es:List D) (vs:List V) (n m:Nat),fE ds n=true->fE es m=true->aF X.K H ds vs->aF X.K H es vs->lS ds es=true
|[],es,vs,n,m,hn,hm,r,q=>by
 cases r;cases es with
 |nil=>rfl
 |cons e es=>obtain⟨_,_,z,_⟩:=q;cases z
|d::ds,es,vs,n,m,hn,hm,r,q=>by
 obtain⟨v,r',rfl,r1,r2⟩:=r;cases es with
 |nil=>cases q
 |cons e es=>
  obtain⟨w,q',z,q1,q2⟩:=q;cases z;have hn':lq d n=true/\fE ds n=true:=by simpa[fE]using hn
  have hm':lq e m=true/\fE es m=true:=by simpa[fE]using hm
  show(iD d e&&lS ds es)=true;rw[yx I d e v n m hn'.1 hm'.1 r1 q1,v_ I ds es r' n m hn'.2 hm'.2 r2 q2];rfl
end
structure Eqs (A:bU) (s:ah) (v u:Value) (b:Bool):Prop where
 eq:EqAt A s v u b
 rc:RcAt A s v u b
 ne:RcNeAt A s v u (!b)
def mS(A:bU)(s:ah):List D->List D->List Value->List Value->Prop
|d::ds,e::es,v::vs,u::us=>EqAt A s v u (iD d e)/\mS A s ds es vs us
|_,_,_,_=>True
theorem mS.get:∀{ds es:List D}{vs us:List Value} (j:Nat) {d e:D}{v u:Value},mS A s ds es vs us->ds[j]?=some d->es[j]?=some e->vs[j]?=some v->us[j]?=some u->EqAt A s v u (iD d e)
|d::ds,e::es,v::vs,u::us,0,_,_,_,_,h,a,b,c,f=>by
 simp at a b c f;subst a b c f;exact h.1
|d::ds,e::es,v::vs,u::us,j+1,_,_,_,_,h,a,b,c,f=>mS.get j h.2 (by simpa using a) (by simpa using b) (by simpa using c) (by simpa using f)
|[],_,_,_,j,_,_,_,_,_,a,_,_,_=>by simp at a
|_::_,[],_,_,j,_,_,_,_,_,_,b,_,_=>by simp at b
|_::_,_::_,[],_,j,_,_,_,_,_,_,_,c,_=>by simp at c
|_::_,_::_,_::_,[],j,_,_,_,_,_,_,_,_,f=>by simp at f
noncomputable def eqAt'(ds es:List D)(j:Nat):Bool:=match ds[j]?,es[j]? with
|some d,some e=>iD d e
|_,_=>true
theorem wc:∀(ds es:List D),ds.length=es.length->(bq ds.length).all (eqAt' ds es)=lS ds es
|[],[],_=>rfl
|d::ds,e::es,h=>by
 have ih:=wc ds es (by simpa using h);rw[bP,iS,nU,mq];show(iD d e&&(bq ds.length).all (eqAt' (d::ds) (e::es)∘Nat.succ))=(iD d e&&lS ds es);rw[<-ih];congr 1
|[],_::_,h=>by simp at h
|_::_,[],h=>by simp at h
theorem we:∀(ds es:List D),ds.length≠es.length->lS ds es=false
|[],[],h=>absurd rfl h
|[],_::_,_=>rfl
|_::_,[],_=>rfl
|d::ds,e::es,h=>by
 show(iD d e&&lS ds es)=false;rw[we ds es (fun z=>h (by simp[z]))];simp
theorem Gz{its:List Value}(hl:s.heap.IsList a its.toArray)(hb:s.heap.IsList b its2.toArray)(l1:its.length=ds.length)(l2:its2.length=es.length)(hu:A.units<c_)(he:mS A.in1 s ds es its its2) :
  RcAt A s (.ref a) (.ref b) (lS ds es)/\RcNeAt A s (.ref a) (.ref b) (!lS ds es):=by
 by_cases hz:ds.length=es.length
 ·have hsz:its.toArray.size=its2.toArray.size:=by simp;omega
  have he':∀j (h1:j<its.toArray.size) (h2:j<its2.toArray.size),EqAt A.in1 s its.toArray[j] its2.toArray[j] (eqAt' ds es j):=by
   intro j h1 h2;have g1:j<its.length:=by simpa using h1
   have g2:j<its2.length:=by simpa using h2
   have e1:=ak (l:=ds) (i:=j) (by omega);have e2:=ak (l:=es) (i:=j) (by omega);have:=he.get j e1 e2 (ak g1) (ak g2);unfold eqAt';rw[e1,e2];simpa using this
  have r1:=RcAt.lists hl hb hsz hu he';have r2:=RcNeAt.lists hl hb hsz hu he';have ez:its.toArray.size=ds.length:=by simp;omega
  rw[ez,wc ds es hz]at r1 r2;exact⟨r1,r2⟩
 ·have hsz:(its.toArray.size != its2.toArray.size)=true:=by simp;omega
  rw[we ds es hz];exact⟨RcAt.lists_lengths hl hb hsz hu,RcNeAt.lists_lengths hl hb hsz hu⟩
theorem EI{its:List Value}(hl:s.heap.IsTuple a its.toArray)(hb:s.heap.IsTuple b its2.toArray)(l1:its.length=ds.length)(l2:its2.length=es.length)(hu:A.units<c_)(he:mS A.in1 s ds es its its2) :
  RcAt A s (.ref a) (.ref b) (lS ds es)/\RcNeAt A s (.ref a) (.ref b) (!lS ds es):=by
 have he':∀j (h1:j<its.toArray.size) (h2:j<its2.toArray.size),EqAt A.in1 s its.toArray[j] its2.toArray[j] (eqAt' ds es j):=by
  intro j h1 h2;have g1:j<its.length:=by simpa using h1
  have g2:j<its2.length:=by simpa using h2
  have e1:=ak (l:=ds) (i:=j) (by omega);have e2:=ak (l:=es) (i:=j) (by omega);have:=he.get j e1 e2 (ak g1) (ak g2);unfold eqAt';rw[e1,e2];simpa using this
 have r1:=RcAt.tuples hl hb hu he';have r2:=RcNeAt.tuples hl hb hu he';have key:((bq (min its.toArray.size its2.toArray.size)).all (eqAt' ds es)&&its.toArray.size==its2.toArray.size)=lS ds es:=by
  by_cases hz:ds.length=es.length
  ·have e1:min its.toArray.size its2.toArray.size=ds.length:=by simp;omega
   have e2:(its.toArray.size==its2.toArray.size)=true:=by simp;omega
   rw[e1,e2,wc ds es hz,sZ]
  ·have e2:(its.toArray.size==its2.toArray.size)=false:=by simp;omega
   rw[e2,m5,we ds es hz]
 rw[key]at r1 r2;exact⟨r1,r2⟩
theorem PlainL.is(p:PlainL h a its):h.IsList a its:=by
 obtain⟨o,n,e,c,_,d⟩:=p;exact⟨o,e,c,n,d⟩
theorem IsTup.is(p:IsTup h a its):h.IsTuple a its:=p
mutual
theorem AK(I:L2.Inv X pins O H s):∀(dx dy:D) (n m:Nat) (x y:V) (v u:Value) (A:bU),lq dx n=true->lq dy m=true->aP X.K H dx x->L2.RelV x v->aP X.K H dy y->L2.RelV y u->A.units+n<c_->Eqs A s v u (iD dx dy)
|.non,dy,n,m,x,y,v,u,A,hn,hm,r,rv,q,qu,hu=>by
 have hu':A.units<c_:=by omega
 cases r;cases rv;cases dy with
 |non=>cases q;cases qu;exact⟨EqAt.same _,RcAt.none_none,RcNeAt.none_none⟩
 |bl b=>cases q;cases qu;exact⟨EqAt.none_bool b,RcAt.none_bool b,RcNeAt.none_bool b⟩
 |int i=>cases q;obtain⟨t,rfl⟩:=qu;exact⟨EqAt.none_int i t,RcAt.none_int i t,RcNeAt.none_int i t⟩
 |str z=>obtain⟨rfl,_⟩:=q;obtain⟨t,rfl⟩:=qu;exact⟨EqAt.none_str z t,RcAt.none_str z t,RcNeAt.none_str z t⟩
 |lst o es=>
  obtain⟨b,us,rfl,k2,k3,k4⟩:=q;cases qu;obtain⟨its,_,p,_⟩:=I.list (Rd.oY k2);exact⟨EqAt.none_list (PlainL.is p) hu',RcAt.none_list (PlainL.is p) hu',RcNeAt.none_list (PlainL.is p) hu'⟩
 |tup es=>
  obtain⟨b,us,rfl,k2,k3,k4⟩:=q;cases qu;obtain⟨its,_,p,_⟩:=I.tuple (tupS k2).jf;exact⟨EqAt.none_tuple (IsTup.is p) hu',RcAt.none_tuple (IsTup.is p) hu',RcNeAt.none_tuple (IsTup.is p) hu'⟩
 |cst _=>cases hm
 |exc _ _ _=>cases hm
|.bl a,dy,n,m,x,y,v,u,A,hn,hm,r,rv,q,qu,hu=>by
 have hu':A.units<c_:=by omega
 cases r;cases rv;cases dy with
 |non=>cases q;cases qu;exact⟨EqAt.bool_none a,RcAt.bool_none a,RcNeAt.bool_none a⟩
 |bl b=>cases q;cases qu;exact⟨EqAt.bool_bool a b,RcAt.bool_bool a b,RcNeAt.bool_bool a b⟩
 |int i=>cases q;obtain⟨t,rfl⟩:=qu;exact⟨EqAt.bool_int a i t,RcAt.bool_int a i t,RcNeAt.bool_int a i t⟩
 |str z=>obtain⟨rfl,_⟩:=q;obtain⟨t,rfl⟩:=qu;exact⟨EqAt.bool_str a z t,RcAt.bool_str a z t,RcNeAt.bool_str a z t⟩
 |lst o es=>
  obtain⟨b,us,rfl,k2,k3,k4⟩:=q;cases qu;obtain⟨its,_,p,_⟩:=I.list (Rd.oY k2);exact⟨EqAt.bool_list a (PlainL.is p) hu',RcAt.bool_list a (PlainL.is p) hu',RcNeAt.bool_list a (PlainL.is p) hu'⟩
 |tup es=>
  obtain⟨b,us,rfl,k2,k3,k4⟩:=q;cases qu;obtain⟨its,_,p,_⟩:=I.tuple (tupS k2).jf;exact⟨EqAt.bool_tuple a (IsTup.is p) hu',RcAt.bool_tuple a (IsTup.is p) hu',RcNeAt.bool_tuple a (IsTup.is p) hu'⟩
 |cst _=>cases hm
 |exc _ _ _=>cases hm
|.int a,dy,n,m,x,y,v,u,A,hn,hm,r,rv,q,qu,hu=>by
 have hu':A.units<c_:=by omega
 cases r;obtain⟨tt,rfl⟩:=rv;cases dy with
 |non=>cases q;cases qu;exact⟨EqAt.int_none a tt,RcAt.int_none a tt,RcNeAt.int_none a tt⟩
 |bl b=>cases q;cases qu;exact⟨EqAt.int_bool a tt b,RcAt.int_bool a tt b,RcNeAt.int_bool a tt b⟩
 |int i=>cases q;obtain⟨t,rfl⟩:=qu;exact⟨EqAt.int_int a tt i t,RcAt.int_int a tt i t,RcNeAt.int_int a tt i t⟩
 |str z=>obtain⟨rfl,_⟩:=q;obtain⟨t,rfl⟩:=qu;exact⟨EqAt.int_str a tt z t,RcAt.int_str a tt z t,RcNeAt.int_str a tt z t⟩
 |lst o es=>
  obtain⟨b,us,rfl,k2,k3,k4⟩:=q;cases qu;obtain⟨its,_,p,_⟩:=I.list (Rd.oY k2);exact⟨EqAt.int_list a tt (PlainL.is p) hu',RcAt.int_list a tt (PlainL.is p) hu',RcNeAt.int_list a tt (PlainL.is p) hu'⟩
 |tup es=>
  obtain⟨b,us,rfl,k2,k3,k4⟩:=q;cases qu;obtain⟨its,_,p,_⟩:=I.tuple (tupS k2).jf;exact⟨EqAt.int_tuple a tt (IsTup.is p) hu',RcAt.int_tuple a tt (IsTup.is p) hu',RcNeAt.int_tuple a tt (IsTup.is p) hu'⟩
 |cst _=>cases hm
 |exc _ _ _=>cases hm
|.str a,dy,n,m,x,y,v,u,A,hn,hm,r,rv,q,qu,hu=>by
 have hu':A.units<c_:=by omega
 obtain⟨rfl,_⟩:=r;obtain⟨tt,rfl⟩:=rv;cases dy with
 |non=>cases q;cases qu;exact⟨EqAt.str_none a tt,RcAt.str_none a tt,RcNeAt.str_none a tt⟩
 |bl b=>cases q;cases qu;exact⟨EqAt.str_bool a tt b,RcAt.str_bool a tt b,RcNeAt.str_bool a tt b⟩
 |int i=>cases q;obtain⟨t,rfl⟩:=qu;exact⟨EqAt.str_int a tt i t,RcAt.str_int a tt i t,RcNeAt.str_int a tt i t⟩
 |str z=>obtain⟨rfl,_⟩:=q;obtain⟨t,rfl⟩:=qu;exact⟨EqAt.str_str a tt z t,RcAt.str_str a tt z t,RcNeAt.str_str a tt z t⟩
 |lst o es=>
  obtain⟨b,us,rfl,k2,k3,k4⟩:=q;cases qu;obtain⟨its,_,p,_⟩:=I.list (Rd.oY k2);exact⟨EqAt.str_list a tt (PlainL.is p) hu',RcAt.str_list a tt (PlainL.is p) hu',RcNeAt.str_list a tt (PlainL.is p) hu'⟩
 |tup es=>
  obtain⟨b,us,rfl,k2,k3,k4⟩:=q;cases qu;obtain⟨its,_,p,_⟩:=I.tuple (tupS k2).jf;exact⟨EqAt.str_tuple a tt (IsTup.is p) hu',RcAt.str_tuple a tt (IsTup.is p) hu',RcNeAt.str_tuple a tt (IsTup.is p) hu'⟩
 |cst _=>cases hm
 |exc _ _ _=>cases hm
|.lst o ds,dy,n,m,x,y,v,u,A,hn,hm,r,rv,q,qu,hu=>by
 have hu':A.units<c_:=by omega
 have hr:=r;obtain⟨a,vs,rfl,h2,h3,h4⟩:=r;cases rv;obtain⟨its,rits,p,_⟩:=I.list (Rd.oY h2);have hn0:=hn;cases n with
 |zero=>cases hn
 |succ n=>
 cases dy with
 |non=>cases q;cases qu;exact⟨EqAt.list_none (PlainL.is p) hu',RcAt.list_none (PlainL.is p) hu',RcNeAt.list_none (PlainL.is p) hu'⟩
 |bl b=>cases q;cases qu;exact⟨EqAt.list_bool b (PlainL.is p) hu',RcAt.list_bool b (PlainL.is p) hu',RcNeAt.list_bool b (PlainL.is p) hu'⟩
 |int i=>cases q;obtain⟨t,rfl⟩:=qu;exact⟨EqAt.list_int i t (PlainL.is p) hu',RcAt.list_int i t (PlainL.is p) hu',RcNeAt.list_int i t (PlainL.is p) hu'⟩
 |str z=>obtain⟨rfl,_⟩:=q;obtain⟨t,rfl⟩:=qu;exact⟨EqAt.list_str z t (PlainL.is p) hu',RcAt.list_str z t (PlainL.is p) hu',RcNeAt.list_str z t (PlainL.is p) hu'⟩
 |lst o' es=>
  have hq:=q;obtain⟨b,us,rfl,k2,k3,k4⟩:=q;cases qu;obtain⟨its2,rits2,p2,_⟩:=I.list (Rd.oY k2);have hm0:=hm;cases m with
  |zero=>cases hm
  |succ m=>
  obtain⟨r1,r2⟩:=Gz (A:=A) (ds:=ds) (es:=es) (PlainL.is p) (PlainL.is p2) (by rw[<-rits.length,aF.len' h4]) (by rw[<-rits2.length,aF.len' k4]) hu' (Bt I ds es n m vs us its its2 A.in1 hn hm h4 rits k4 rits2 (by show A.units+1+n<c_;omega));refine⟨?_,r1,r2⟩;by_cases e:a=b
  ·subst e;have z:=yx I (.lst o ds) (.lst o' es) (.ref a) (n+1) (m+1) hn0 hm0 hr hq;rw[z];exact EqAt.same _
  ·exact EqAt.of_refs e r1
 |tup es=>
  obtain⟨b,us,rfl,k2,k3,k4⟩:=q;cases qu;obtain⟨its2,_,p2,_⟩:=I.tuple (tupS k2).jf;exact⟨EqAt.list_tuple (PlainL.is p) (IsTup.is p2) hu',RcAt.list_tuple (PlainL.is p) (IsTup.is p2) hu',RcNeAt.list_tuple (PlainL.is p) (IsTup.is p2) hu'⟩
 |cst _=>cases hm
 |exc _ _ _=>cases hm
|.tup ds,dy,n,m,x,y,v,u,A,hn,hm,r,rv,q,qu,hu=>by
 have hu':A.units<c_:=by omega
 have hr:=r;obtain⟨a,vs,rfl,h2,h3,h4⟩:=r;cases rv;obtain⟨its,rits,p,_⟩:=I.tuple (tupS h2).jf;have hn0:=hn;cases n with
 |zero=>cases hn
 |succ n=>
 cases dy with
 |non=>cases q;cases qu;exact⟨EqAt.tuple_none (IsTup.is p) hu',RcAt.tuple_none (IsTup.is p) hu',RcNeAt.tuple_none (IsTup.is p) hu'⟩
 |bl b=>cases q;cases qu;exact⟨EqAt.tuple_bool b (IsTup.is p) hu',RcAt.tuple_bool b (IsTup.is p) hu',RcNeAt.tuple_bool b (IsTup.is p) hu'⟩
 |int i=>cases q;obtain⟨t,rfl⟩:=qu;exact⟨EqAt.tuple_int i t (IsTup.is p) hu',RcAt.tuple_int i t (IsTup.is p) hu',RcNeAt.tuple_int i t (IsTup.is p) hu'⟩
 |str z=>obtain⟨rfl,_⟩:=q;obtain⟨t,rfl⟩:=qu;exact⟨EqAt.tuple_str z t (IsTup.is p) hu',RcAt.tuple_str z t (IsTup.is p) hu',RcNeAt.tuple_str z t (IsTup.is p) hu'⟩
 |tup es=>
  have hq:=q;obtain⟨b,us,rfl,k2,k3,k4⟩:=q;cases qu;obtain⟨its2,rits2,p2,_⟩:=I.tuple (tupS k2).jf;have hm0:=hm;cases m with
  |zero=>cases hm
  |succ m=>
  obtain⟨r1,r2⟩:=EI (A:=A) (ds:=ds) (es:=es) (IsTup.is p) (IsTup.is p2) (by rw[<-rits.length,aF.len' h4]) (by rw[<-rits2.length,aF.len' k4]) hu' (Bt I ds es n m vs us its its2 A.in1 hn hm h4 rits k4 rits2 (by show A.units+1+n<c_;omega));refine⟨?_,r1,r2⟩;by_cases e:a=b
  ·subst e;have z:=yx I (.tup ds) (.tup es) (.ref a) (n+1) (m+1) hn0 hm0 hr hq;rw[z];exact EqAt.same _
  ·exact EqAt.of_refs e r1
 |lst o es=>
  obtain⟨b,us,rfl,k2,k3,k4⟩:=q;cases qu;obtain⟨its2,_,p2,_⟩:=I.list (Rd.oY k2);exact⟨EqAt.tuple_list (IsTup.is p) (PlainL.is p2) hu',RcAt.tuple_list (IsTup.is p) (PlainL.is p2) hu',RcNeAt.tuple_list (IsTup.is p) (PlainL.is p2) hu'⟩
 |cst _=>cases hm
 |exc _ _ _=>cases hm
|.cst _,dy,n,m,x,y,v,u,A,hn,hm,r,rv,q,qu,hu=>by cases hn
|.exc _ _ _,dy,n,m,x,y,v,u,A,hn,hm,r,rv,q,qu,hu=>by cases hn
theorem Bt(I:L2.Inv X pins O H s):∀(ds es:List D) (n m:Nat) (vs us:List V) (its its2:List Value) (A:bU),fE ds n=true->fE es m=true->aF X.K H ds vs->bh vs its->aF X.K H es us->bh us its2->A.units+n<c_->mS A s ds es its its2
|[],es,n,m,vs,us,its,its2,A,hn,hm,r,rv,q,qu,hu=>by cases its<;>trivial
|d::ds,[],n,m,vs,us,its,its2,A,hn,hm,r,rv,q,qu,hu=>by cases its<;>trivial
|d::ds,e::es,n,m,vs,us,its,its2,A,hn,hm,r,rv,q,qu,hu=>by
 have hn':lq d n=true/\fE ds n=true:=by simpa[fE]using hn
 have hm':lq e m=true/\fE es m=true:=by simpa[fE]using hm
 obtain⟨x,vr,rfl,r1,r2⟩:=r;obtain⟨y,ur,rfl,q1,q2⟩:=q;cases rv with
 |cons rv1 rv2=>
  cases qu with
  |cons qu1 qu2=>
   exact⟨(AK I d e n m x y _ _ A hn'.1 hm'.1 r1 rv1 q1 qu1 hu).eq,Bt I ds es n m vr ur _ _ A hn'.2 hm'.2 r2 rv2 q2 qu2 hu⟩
end
end
theorem Rl(hu:X.A.units+60<c_):iB X (fj .Eq) (fun x y H Q=>∃dx dy,aP X.K H dx x/\aP X.K H dy y/\di dx=true/\di dy=true/\Q (.bl (iD dx dy)) H):=by
 intro pins s O H x y v u Q I rx ry h;obtain⟨dx,dy,h1,h2,h3,h4,q⟩:=h;exact(AK I dx dy 12 12 x y v u X.A h3 h4 h1 rx h2 ry (by omega)).rc X.prog X.w X.xe _ ⟨.bl (iD dx dy),H,I,rfl,q⟩
theorem Rm(hu:X.A.units+60<c_):iB X (fj .NotEq) (fun x y H Q=>∃dx dy,aP X.K H dx x/\aP X.K H dy y/\di dx=true/\di dy=true/\Q (.bl (!iD dx dy)) H):=by
 intro pins s O H x y v u Q I rx ry h;obtain⟨dx,dy,h1,h2,h3,h4,q⟩:=h;exact(AK I dx dy 12 12 x y v u X.A h3 h4 h1 rx h2 ry (by omega)).ne X.prog X.w X.xe _ ⟨.bl (!iD dx dy),H,I,rfl,q⟩
theorem xC{x:Value}:∀(ds:List D) (its:List Value),its.length=ds.length->(∀(j:Nat) d v,ds[j]?=some d->its[j]?=some v->PySem.SeqAt.EqAt A s v x (iD d dx))->
  ∃e:Value->Bool,(∀y,y∈its.toArray->PySem.SeqAt.EqAt A s y x (e y))/\its.toArray.any e=memD dx ds:=by
 intro ds its hl he
 classical
 refine⟨fun v=>decide (∃(j:Nat) (d:D),its[j]?=some v/\ds[j]?=some d/\iD d dx=true),fun y hy=>?_,?_⟩
 ·have hy:y∈its:=by simpa using hy
  obtain⟨j,hj,ej⟩:=jC hy;dsimp only;by_cases h:∃(j:Nat) (d:D),its[j]?=some y/\ds[j]?=some d/\iD d dx=true
  ·rw[decide_eq_true h];obtain⟨k,d,h1,h2,h3⟩:=h;have:=he k d y h2 h1;rw[h3]at this;exact this
  ·rw[decide_eq_false h];have e1:ds[j]?=some ds[j]:=ak (by omega);have e2:its[j]?=some y:=by rw[ak hj,ej]
   have:=he j _ y e1 e2;cases q:iD ds[j] dx with
   |true=>exact absurd ⟨j,_,e2,e1,q⟩ h
   |false=>rw[q]at this;exact this
 ·rw[qw];unfold memD;simp only[List.any_toArray,List.any_eq_true,decide_eq_true_eq];constructor
  ·rintro⟨v,_,j,d,h1,h2,h3⟩;exact⟨d,eG h2,h3⟩
  ·rintro⟨d,hd,h3⟩;obtain⟨j,hj,ej⟩:=jC hd;have g1:its[j]?=some its[j]:=ak (by omega);exact⟨its[j],f7 _,j,d,g1,by rw[ak hj,ej],h3⟩
theorem oZ(hu:X.A.units+60<c_)(I:L2.Inv X pins O H s){x:V}{v:Value}(rx:aP X.K H dx x)(rv:L2.RelV x v)(hx:lq dx 12=true) :
 ∀{ds:List D}{xs:List V}{its:List Value},aF X.K H ds xs->bh xs its->fE ds 12=true->∀(j:Nat) d w,ds[j]?=some d->its[j]?=some w->PySem.SeqAt.EqAt X.A.in1 s w v (iD d dx)
|[],_,_,_,_,_,j,d,w,h,_=>by simp at h
|e::ds,_,_,r,rr,ho,j,d,w,h1,h2=>by
 obtain⟨y,ys,rfl,r1,r2⟩:=r;have ho':lq e 12=true/\fE ds 12=true:=by simpa[fE]using ho
 cases rr with
 |cons ra rb=>
  cases j with
  |zero=>
   simp at h1 h2;subst h1 h2;exact(AK I e dx 12 12 y x _ v X.A.in1 ho'.1 hx r1 ra rx rv (by show X.A.units+1+12<c_;omega)).eq
  |succ j=>exact oZ hu I rx rv hx r2 rb ho'.2 j d w (by simpa using h1) (by simpa using h2)
theorem uY(hu:X.A.units+60<c_)(op:qo):iB X (fj op) (lu X.K op):=by
 intro pins s O H x y v u Q I rx ry h;unfold lu at h;split at h
 ·exact Q3 pins s O H _ _ v u Q I rx ry ⟨_,_,rfl,rfl,h⟩
 ·exact Q4 pins s O H _ _ v u Q I rx ry ⟨_,_,rfl,rfl,h⟩
 ·exact Q5 pins s O H _ _ v u Q I rx ry ⟨_,_,rfl,rfl,h⟩
 ·exact Q6 pins s O H _ _ v u Q I rx ry ⟨_,_,rfl,rfl,h⟩
 ·exact Ga pins s O H _ _ v u Q I rx ry ⟨_,_,rfl,rfl,h⟩
 ·exact Gy pins s O H _ _ v u Q I rx ry ⟨_,_,rfl,rfl,h⟩
 ·exact Rl hu pins s O H _ _ v u Q I rx ry h
 ·exact Rm hu pins s O H _ _ v u Q I rx ry h
 ·exact ON pins s O H _ _ v u Q I rx ry ⟨rfl,h⟩
 ·exact MF pins s O H _ _ v u Q I rx ry ⟨rfl,h⟩
 ·rename_i a;cases(show u=aN a from ry);rcases h with⟨t,xs,dx,ds,hx,h1,h2,h3,h4,q⟩|⟨kvs,k,hk,rfl,q⟩
  ·cases t with
   |false=>
    obtain⟨its,r,p,_⟩:=I.list hx.Gx;obtain⟨e,e1,e2⟩:=xC (A:=X.A.in1) (s:=s) (x:=v) (dx:=dx) ds its (by rw[<-r.length,aF.len' h2]) (oZ hu I h1 rx h3 h2 r h4);exact PySem.SeqAt.in_listAt e (PlainL.is p) e1 ⟨.bl (its.toArray.any e),H,I,rfl,by rw[e2];exact q⟩
   |true=>
    obtain⟨its,r,p,_⟩:=I.tuple hx.jf;obtain⟨e,e1,e2⟩:=xC (A:=X.A.in1) (s:=s) (x:=v) (dx:=dx) ds its (by rw[<-r.length,aF.len' h2]) (oZ hu I h1 rx h3 h2 r h4);exact PySem.SeqAt.in_tupleAt e (IsTup.is p) e1 ⟨.bl (its.toArray.any e),H,I,rfl,by rw[e2];exact q⟩
  ·exact Sx (by omega) I (.inl ⟨kvs,k,hk,rfl,rfl⟩) rx fun s3 I3=>⟨.bl (jj kvs k).isSome,H,I3,rfl,q⟩
 ·rename_i a;cases(show u=aN a from ry);rcases h with⟨t,xs,dx,ds,hx,h1,h2,h3,h4,q⟩|⟨kvs,k,hk,rfl,q⟩
  ·cases t with
   |false=>
    obtain⟨its,r,p,_⟩:=I.list hx.Gx;obtain⟨e,e1,e2⟩:=xC (A:=X.A.in1) (s:=s) (x:=v) (dx:=dx) ds its (by rw[<-r.length,aF.len' h2]) (oZ hu I h1 rx h3 h2 r h4);exact PySem.SeqAt.notIn_listAt e (PlainL.is p) e1 ⟨.bl (!its.toArray.any e),H,I,rfl,by rw[e2];exact q⟩
   |true=>
    obtain⟨its,r,p,_⟩:=I.tuple hx.jf;obtain⟨e,e1,e2⟩:=xC (A:=X.A.in1) (s:=s) (x:=v) (dx:=dx) ds its (by rw[<-r.length,aF.len' h2]) (oZ hu I h1 rx h3 h2 r h4);exact PySem.SeqAt.notIn_tupleAt e (IsTup.is p) e1 ⟨.bl (!its.toArray.any e),H,I,rfl,by rw[e2];exact q⟩
  ·exact MR (by omega) I (.inl ⟨kvs,k,hk,rfl,rfl⟩) rx fun s3 I3=>⟨.bl (!(jj kvs k).isSome),H,I3,rfl,q⟩
 ·exact h.elim
theorem LX:OC X (fun x H Q=>ic X.K x H fun b=>Q b H):=by
 intro pins s O H x v Q I rx h;refine OO pins s O H x v Q I rx ?_;cases x with
 |bl b=>exact⟨b,rfl,h⟩
 |non=>exact⟨false,rfl,h⟩
 |int i=>exact⟨_,rfl,h⟩
 |str z=>
  obtain⟨hz,h⟩:=h;refine⟨_,⟨hz,rfl⟩,?_⟩;have e:((z.length:Int) != 0)=(z.length != 0):=by
   rw[qw];simp
  rw[e];exact h
 |ref a=>
  rcases h with⟨t,xs,hx,h⟩|⟨kvs,hk,h⟩
  ·refine⟨_,?_,h⟩;rcases hx.sq with⟨_,z⟩|⟨_,z⟩
   ·exact .inl ⟨xs,z,rfl⟩
   ·exact .inr (.inl ⟨xs,z,rfl⟩)
  ·exact⟨_,.inr (.inr ⟨kvs,hk,rfl⟩),h⟩
 |_=>exact ay h
theorem M2(hu:X.A.units+60<c_):A6 X (fun x y H Q=>∃a kvs k v,x=.ref a/\Rd H a (.dK kvs)/\y=kV k/\jj kvs k=some v/\Q v H):=by
 intro value slice pins s O H x y v u Q I rx ry h hs;obtain⟨a,kvs,k,z,rfl,hk,rfl,e,q⟩:=h;cases(show v=aN a from rx);have g:yq H a (kV k) (some z):=.inl ⟨kvs,k,hk,rfl,e.symm⟩;have hT:=vC I g;unfold nQ;refine aa ?_;rw[rF hT.not_modules];refine aa (qx hT PySem.F.slot_dict_getitem.lookup ?_);have fin:aq (az X.prog X.w) X.A (qP slice false (.ref a) u) (fun r TY=>aq (az X.prog X.w) X.A (zc value (.ref a) r >>= fun _=>pure r) (EP X pins O Q) X.xe TY) X.xe s:=by
  rw[hs];exact yj (cj (zx (by omega) I g ry fun w' s3 I3 rw'=>(⟨z,H,I3,rw',q⟩:EP X pins O Q w' s3)) (fun r TY T4=>aa (sM (aD T4))) fun _ _ x=>x)
 first
  |exact aD (aa fin)
  |exact aa (aD (aa fin))
  |exact aa fin
theorem JA(hu:X.A.units+60<c_):A6 X (fun x y H Q=>∃a kvs k b v,x=.ref a/\Rd H a (.dT kvs)/\y=.ref b/\H b=some (.tup (k.map kV))/\jj kvs k=some v/\Q v H):=by
 intro value slice pins s O H x y v u Q I rx ry h hs;obtain⟨a,kvs,k,b,z,rfl,hk,rfl,hb,e,q⟩:=h;cases(show v=aN a from rx);have g:yq H a (.ref b) (some z):=.inr ⟨kvs,k,b,hk,rfl,hb,e.symm⟩;have hT:=vC I g;unfold nQ;refine aa ?_;rw[rF hT.not_modules];refine aa (qx hT PySem.F.slot_dict_getitem.lookup ?_);have fin:aq (az X.prog X.w) X.A (qP slice false (.ref a) u) (fun r TY=>aq (az X.prog X.w) X.A (zc value (.ref a) r >>= fun _=>pure r) (EP X pins O Q) X.xe TY) X.xe s:=by
  rw[hs];exact yj (cj (zx (by omega) I g ry fun w' s3 I3 rw'=>(⟨z,H,I3,rw',q⟩:EP X pins O Q w' s3)) (fun r TY T4=>aa (sM (aD T4))) fun _ _ x=>x)
 first
  |exact aD (aa fin)
  |exact aa (aD (aa fin))
  |exact aa fin
theorem SE(hu:X.A.units+60<c_):A6 X (Bq X.K):=by
 intro value slice pins s O H x y v u Q I rx ry h;unfold Bq at h;split at h
 ·obtain⟨hz,c,e,q⟩:=h;exact OV value slice pins s O H _ _ v u Q I rx ry ⟨_,_,c,rfl,rfl,hz,e,q⟩
 ·rcases h with⟨t,xs,i,w,rfl,hx,e,q⟩|⟨kvs,k,w,hk,rfl,e,q⟩|⟨kvs,k,b,w,hk,rfl,hb,e,q⟩
  ·rcases hx.sq with⟨_,z⟩|⟨_,z⟩
   ·exact MN value slice pins s O H _ _ v u Q I rx ry ⟨_,xs,_,w,rfl,rfl,z,e,q⟩
   ·exact OU value slice pins s O H _ _ v u Q I rx ry ⟨_,xs,_,w,rfl,rfl,z,e,q⟩
  ·exact M2 hu value slice pins s O H _ _ v u Q I rx ry ⟨_,kvs,k,w,rfl,hk,rfl,e,q⟩
  ·exact JA hu value slice pins s O H _ _ v u Q I rx ry ⟨_,kvs,k,b,w,rfl,hk,rfl,hb,e,q⟩
 ·exact h.elim
end
theorem AL(n d:Nat)(v:Int):max 0 (min (if v<0 then v+(n:Int)else v) (n:Int))=((HT.iX n d (some v):Nat):Int):=by
 show max 0 (min (if v<0 then v+(n:Int)else v) (n:Int))=(((if v<0 then(v+(n:Int)).toNat else min v.toNat n):Nat):Int);by_cases hv:v<0
 ·simp only[if_pos hv];omega
 ·simp only[if_neg hv];omega
theorem yy(a b:Nat):FO (a:Int) (b:Int) 1=(bq (b-a)).map fun m=>a+m:=by
 unfold FO;have h1:(1:Int)>0:=by omega
 simp only[h1,if_true];have e3:(if(a:Int)<(b:Int)then((b:Int)-(a:Int)+1-1) / 1 else 0).toNat=b-a:=by
  split<;>omega
 rw[e3];congr 1;funext k;omega
theorem idx_eq(lo hi:Option Int)(n:Nat):cQ lo hi 1 n=(bq (HT.iX n n hi-HT.iX n 0 lo)).map fun m=>HT.iX n 0 lo+m:=by
 rw[<-yy];have h1:(1:Int)>0:=by omega
 unfold cQ;simp only[h1,if_true];cases lo with
 |none=>cases hi with
  |none=>rfl
  |some v=>simp only[AL n n v];rfl
 |some w=>cases hi with
  |none=>simp only[AL n 0 w];rfl
  |some v=>simp only[AL n n v,AL n 0 w]
variable{α:Type}
theorem EJ(l:List α)(i:Nat):∀k:Nat,((bq k).map fun(m:Nat)=>i+m).filterMap (l[·]?)=(l.drop i).take k:=by
 intro k;induction k with
 |zero=>simp
 |succ k ih=>
  rw[yk,cN,List.filterMap_append,ih,List.map_singleton,fW,List.filterMap_nil];cases h:l[i+k]? with
  |none=>
   have hl:l.length<=i+k:=List.getElem?_eq_none_iff.mp h;simp only[dM];rw[eY (by rw[f6];omega),eY (by rw[f6];omega)]
  |some c=>
   rw[zd,List.getElem?_drop,h];rfl
theorem Bu(a:Array Nat):∀is:List Nat,is.filterMap (a[·]?)=is.filterMap (a.toList[·]?)
|[]=>rfl
|i::r=>by
 rw[fW,fW,Bu a r,rG]
theorem Bv(x:Str)(lo hi:Option Int):(cQ lo hi 1 x.length).filterMap (x.cps[·]?)=cut x.cps.toList lo hi:=by
 have len:x.cps.toList.length=x.length:=by simp[gE]
 rw[Bu,idx_eq,EJ];unfold cut;rw[len]
theorem Pb(l:List α)(lo hi:Option Int):(cut l lo hi).length<=l.length:=by
 unfold cut;rw[eB,f6];omega
theorem M3(x:Str)(lo hi:Option Int)(h:(cQ lo hi 1 x.length).length=x.length):cut x.cps.toList lo hi=x.cps.toList:=by
 have len:x.cps.toList.length=x.length:=by simp[gE]
 rw[idx_eq,aC,n9]at h;have h2:=HT.OS x.length x.length (aT _) hi;unfold cut;rw[len];by_cases hz:x.length=0
 ·have:x.cps.toList=[]:=ed (by omega);rw[this];simp
 ·have e0:HT.iX x.length 0 lo=0:=by omega
  rw[e0,rH,eY (by omega)]
section
variable{X:Cx}
theorem SG:OT X (LU X.K):=by
 intro pins s O H x v vl vu lo hi sl Q I rx hs pl pu h;unfold LU at h;split at h
 ·rename_i z;obtain⟨hz,q⟩:=h;obtain⟨t,rfl⟩:=rx;refine⟨"str",_,wU.lookup,yd s z t,?_⟩;have key:∀l u:Option (Int×Tok),vl=partValue l->vu=partValue u->l.map (·.1)=lo->u.map (·.1)=hi->aq (az X.prog X.w) X.A (vc (.str z t) (.ref sl)) (EP X pins O Q) X.xe s:=by
   rintro l u rfl rfl rfl rfl;have hs':s.heap.IsSlice sl l u none:=hs;refine wpAny_getItem_str_slice (st:=none) hs' rfl ?_;have len:z.cps.toList.length=z.length:=by simp[gE]
   have hle:=Pb z.cps.toList (l.map (·.1)) (u.map (·.1));have ec:=Bv z (l.map (·.1)) (u.map (·.1));have fin:∀t' k,EP X pins O Q (.str ⟨(cut z.cps.toList (l.map (·.1)) (u.map (·.1))).toArray⟩ t') { s with toks:=k }:=fun t' k=>⟨V.str ⟨(cut z.cps.toList (l.map (·.1)) (u.map (·.1))).toArray⟩,H,I.tok _,⟨t',rfl⟩,q⟩;show(if((1:Int)==1&&(cQ (l.map (·.1)) (u.map (·.1)) 1 z.length).length==z.length)=true then Made.val (.str z t)else Made.str ⟨((cQ (l.map (·.1)) (u.map (·.1)) 1 z.length).filterMap (z.cps[·]?)).toArray⟩).post (EP X pins O Q) s;rw[ec];by_cases hc:((1:Int)==1&&(cQ (l.map (·.1)) (u.map (·.1)) 1 z.length).length==z.length)=true
   ·rw[if_pos hc];have hall:cut z.cps.toList (l.map (·.1)) (u.map (·.1))=z.cps.toList:=M3 z _ _ (by
     rw[bx]at hc;simpa using hc.2)
    have f:=fin t s.toks;rw[hall]at f;exact f
   ·rw[if_neg hc];exact⟨by show(List.toArray _).size<=ai;rw[aL];omega,fin _ _⟩
  cases pl with
  |none=>cases pu with
   |none=>exact key none none rfl rfl rfl rfl
   |int j tj=>exact key none (some (j,tj)) rfl rfl rfl rfl
  |int i ti=>cases pu with
   |none=>exact key (some (i,ti)) none rfl rfl rfl rfl
   |int j tj=>exact key (some (i,ti)) (some (j,tj)) rfl rfl rfl rfl
 ·rcases h with⟨t,xs,hx,ht,q⟩|⟨n,xs,hx,rfl,rfl,h1,h2,q⟩
  ·rcases hx.sq with⟨_,z⟩|⟨hf,z⟩
   ·exact MO pins s O H _ v vl vu lo hi sl Q I rx hs pl pu ⟨_,xs,rfl,z,q⟩
   ·rw[ht]at hf;cases hf
  ·cases rx;obtain⟨its,r,pt,hz⟩:=I.tuple hx.jf;have hlen:=r.length;cases pl with
   |int _ tl=>
    cases pu;refine⟨"tuple",_,uG.lookup,IsTup.typeIs pt,?_⟩;refine getItem_tuple_from pt hs h1 (by rw[aL];omega) ?_ (by rw[aL];omega);refine⟨.ref s.heap.objs.size,_,I.laid (t':=s.toks) (o:=.tup (xs.drop n)) (fun b ob q=>aj _ q) (aT _) ⟨by rw[f6];omega,its.drop n,r.drop n,IsTup.new _ _⟩,rfl,q _ (I.hok.fresh (aT _))⟩
 ·exact h.elim
end
noncomputable def Bf.val:Bf->Value
|.len=>.builtin "len"|.all=>.builtin "all"|.int=>.type "int"|.str=>.type "str"|.sum=>.builtin "sum"|.max=>.builtin "max"|.sorted=>.builtin "sorted"
theorem Bf.boot:∀f:Bf,jX f.name=some f.val:=by
 intro f;cases f<;>decide +kernel
theorem Bf.ok(f:Bf):f.name≠"__name__"/\(f.name==("__debug__":Str))=false:=by
 cases f<;>decide +kernel
section
variable{X:Cx}
theorem xD{Q:Value->ah->Prop}{E:Value->ah->Prop}(hc:X.calm=true)(I:L2.Inv X pins O H s)(hx:fy X.K H a xs)
  (h:∀(its:List Value),bh xs its->xs.length<=ai->∀TL:ah,TL={ s with heap:=s.heap.push { cls:=.type "list_iterator",data:=.fields #[.ref a,.int 0 0] } }->
   Walks X.prog X.w X.A.in1 s.heap.objs.size [s.heap.objs.size,a] [s.heap.objs.size] its.toArray.size (fun i v=>its.toArray[i]?=some v) (fun i h=>h.IsListIter s.heap.objs.size a i/\h.IsList a its.toArray)->
   (TL.heap.IsListIter s.heap.objs.size a 0/\TL.heap.IsList a its.toArray)->(∀b∈[s.heap.objs.size,a],b<TL.heap.objs.size)->
   (∀h' tk,(∀b o,b∉[s.heap.objs.size]->TL.heap.get? b=some o->h'.get? b=some o)->L2.Inv X pins O H { TL with heap:=h',toks:=tk })->Q (.ref s.heap.objs.size) TL) :
  aq (az X.prog X.w) X.A.in1 (pK (.ref a)) Q E s:=by
 obtain⟨its,r,pl,hz⟩:=I.list hx;have hlt:a<s.heap.objs.size:=by obtain⟨o,n,e,_⟩:=pl;exact au e
 refine n_ pl.isList ?_;have hh:X.A.in1.handled=none:=I.ok.hd hc;refine h its r hz _ rfl (Walks.list hh s.heap.objs.size a (be hlt) its.toArray) ⟨⟨_,aO _ rfl,rfl,rfl⟩,pl.isList.push _⟩ (fun b hb=>?_) fun h' tk k=>?_
 ·show b<(s.heap.push _).objs.size;rw[dG];rcases aQ.mp hb with rfl|hb
  ·exact lG _
  ·rw[bR.mp hb];exact oh hlt
 ·exact I.kept fun b o e=>k b o (fun z=>absurd (au e) (by rw[bR.mp z];exact cV _)) (aj _ e)
theorem range_all{p:Nat->Bool}(f:V->Bool)(h:∀i x,xs[i]?=some x->p i=f x):(bq xs.length).all p=xs.all f:=by
 rw[qw,bz,bz];constructor
 ·intro q x hx;obtain⟨i,hi⟩:=List.getElem?_of_mem hx;rw[<-h i x hi];exact q i (mZ.mpr (bB.mp hi).1)
 ·intro q i hi;have hi:=mZ.mp hi;rw[h i xs[i] (ak hi)];exact q _ (f7 hi)
theorem An(hc:X.calm=true):jG X (.builtin "all") (fun vs H Q=>∃a xs,vs=[.ref a]/\fy X.K H a xs/\xy xs=true/\Q (.bl (xs.all mR)) H):=by
 intro pins s O H vs us Q I r h;obtain⟨a,xs,rfl,hx,hb,q⟩:=h;obtain⟨u,rfl,ru⟩:=vals1 r;cases ru;refine AD (xD hc I hx fun its rv hz TL e W st hfp fin=>⟨_,_,_,_,_,_,fun i=>(xs[i]?.map mR).getD false,rfl,W,st,?_,fun h' tk k=>?_⟩)
 ·intro i v s' Q' E' hP hQ;have hi:its[i]?=some v:=by simpa using hP
  have hlen:=rv.length;have hl:i<xs.length:=by
   have:=(bB.mp hi).1;omega
  have hxi:xs[i]?=some xs[i]:=ak hl;obtain⟨u,hu,ru⟩:=rv.get hxi;rw[hi]at hu;cases hu;have hQ:Q' ((xs[i]?.map mR).getD false) s':=hQ;rw[hxi]at hQ;have hbl:∃b,xs[i]=.bl b:=by
   have:=bz.mp hb _ (f7 hl);revert this;cases xs[i]<;>intro this<;>first|exact⟨_,rfl⟩|(exact absurd (show false=true from this) aE)
  obtain⟨b,eb⟩:=hbl;rw[eb]at ru hQ;cases ru;refine dX ?_;cases b<;>exact hQ
 ·have e1:its.toArray.size=xs.length:=by rw[aL];exact rv.length.symm
  rw[e1];have e2:=range_all (p:=fun i=>(xs[i]?.map mR).getD false) (xs:=xs) mR (fun i x hi=>by rw[hi];rfl);rw[e2];exact⟨.bl _,H,fin h' tk k,rfl,q⟩
theorem preSum_eq:∀(xs:List V) (val:Nat->Int),(∀i x,xs[i]?=some x->val i=intOf x)->uL val xs.length=nA xs:=by
 have snoc:∀(n:Nat) (val:Nat->Int),uL val (n+1)=uL val n+val n:=fun n val=>by
  first|rfl|simp[uL,yk]
 intro xs;have gen:∀(n:Nat) (val:Nat->Int),n<=xs.length->(∀i x,xs[i]?=some x->val i=intOf x)->uL val n=nA (xs.take n):=by
  intro n;induction n with
  |zero=>intro val _ _;first|rfl|simp[uL,nA]
  |succ n ih=>
   intro val hn hv;rw[snoc,ih val (by omega) hv];have hl:n<xs.length:=by omega
   rw[zd,ak hl];unfold nA;rw[cN,List.sum_append];rw[hv n xs[n] (ak hl)];simp
 intro val hv;have:=gen xs.length val (aT _) hv;rw[List.take_length]at this;exact this
theorem Ao(hc:X.calm=true):jG X (.builtin "sum") (fun vs H Q=>∃a xs,vs=[.ref a]/\fy X.K H a xs/\xA xs=true/\Q (.int (nA xs)) H):=by
 intro pins s O H vs us Q I r h;obtain⟨a,xs,rfl,hx,hb,q⟩:=h;obtain⟨u,rfl,ru⟩:=vals1 r;cases ru;refine call_sum_walkG (xD hc I hx fun its rv hz TL e W st hfp fin=>⟨_,_,_,_,_,_,fun i=>(xs[i]?.map intOf).getD 0,rfl,W,st,hfp,?_,fun h' tk t' k=>?_⟩)
 ·intro i v hP;have hi:its[i]?=some v:=by simpa using hP
  have hlen:=rv.length;have hl:i<xs.length:=by
   have:=(bB.mp hi).1;omega
  have hxi:xs[i]?=some xs[i]:=ak hl;obtain⟨u,hu,ru⟩:=rv.get hxi;rw[hi]at hu;cases hu;have hbl:∃b,xs[i]=.int b:=by
   have:=bz.mp hb _ (f7 hl);revert this;cases xs[i]<;>intro this<;>first|exact⟨_,rfl⟩|(exact absurd (show false=true from this) aE)
  obtain⟨b,eb⟩:=hbl;rw[eb]at ru;obtain⟨t,rfl⟩:=ru;refine⟨t,?_⟩;show jW b t=jW ((xs[i]?.map intOf).getD 0) t;rw[hxi,eb];rfl
 ·have e1:its.toArray.size=xs.length:=by rw[aL];exact rv.length.symm
  rw[e1];have e2:=preSum_eq xs (fun i=>(xs[i]?.map intOf).getD 0) (fun i x hi=>by rw[hi];rfl);rw[e2];exact⟨.int _,H,fin h' tk k,⟨_,rfl⟩,q⟩
theorem Bw:jG X (.type "int") (fun vs H Q=>∃z n,vs=[.str z]/\z.length<=640/\intText? z=some n/\Q (.int n) H):=by
 intro pins s O H vs us Q I r h;obtain⟨z,n,rfl,hz,hn,q⟩:=h;obtain⟨u,rfl,ru⟩:=vals1 r;obtain⟨t,rfl⟩:=ru;exact PySem.W.KIN.call_text hn hz ⟨.int n,H,I.tok _,⟨_,rfl⟩,q⟩
theorem uS{P:a_}{w:bC}{k:Key}{u:Value}(h:RelV (kV k) u):(fZ P w).is k u=true:=by
 cases k with
 |inl i=>obtain⟨t,rfl⟩:=h;exact vt P w i t
 |inr x=>obtain⟨t,rfl⟩:=h;exact vv P w x t
theorem Rn(hc:X.calm=true)(hu:X.A.units+60<c_)(f:Bf):jG X f.val (qF X.K f):=by
 intro pins s O H vs us Q I r h;cases f<;>cases vs<;>first|exact ay h|skip
 case len.cons y w=>
  cases y<;>first|exact ay h|(cases w<;>first|exact ay h|skip)
  ·obtain⟨hz,q⟩:=h;exact tN pins s O H _ us Q I r ⟨_,rfl,hz,q⟩
  ·rcases h with⟨t,xs,hx,q⟩|⟨kvs,hk,q⟩
   ·refine tM pins s O H _ us Q I r ⟨_,xs,rfl,?_,q⟩;rcases hx.sq with⟨_,z⟩|⟨_,z⟩
    ·exact .inl z
    ·exact .inr z
   ·obtain⟨u,rfl,ru⟩:=vals1 r;cases ru;exact LP I hk fun t s' I'=>⟨.int kvs.length,H,I',⟨t,rfl⟩,q⟩
 case all.cons y w=>
  cases y<;>first|exact ay h|(cases w<;>first|exact ay h|skip)
  ·obtain⟨t,xs,hx,ht,hb,q⟩:=h;subst ht;exact An hc pins s O H _ us Q I r ⟨_,xs,rfl,hx.Gx,hb,q⟩
 case int.cons y w=>
  cases y<;>first|exact ay h|(cases w<;>first|exact ay h|skip)
  ·exact zj pins s O H _ us Q I r (.inr ⟨_,rfl,h⟩)
  ·exact zj pins s O H _ us Q I r (.inl ⟨_,rfl,h⟩)
  ·obtain⟨hz,n,hn,q⟩:=h;exact Bw pins s O H _ us Q I r ⟨_,n,rfl,hz,hn,q⟩
 case str.cons y w=>
  cases y<;>first|exact ay h|(cases w<;>first|exact ay h|skip)
  ·exact A3 pins s O H _ us Q I r ⟨_,rfl,h.1,h.2⟩
 case sum.cons y w=>
  cases y<;>first|exact ay h|(cases w<;>first|exact ay h|skip)
  ·obtain⟨t,xs,hx,ht,hb,q⟩:=h;subst ht;exact Ao hc pins s O H _ us Q I r ⟨_,xs,rfl,hx.Gx,hb,q⟩
 case max.cons y w=>
  cases y<;>first|exact ay h|(cases w<;>first|exact ay h|skip)
  rename_i y w;cases y<;>first|exact ay h|(cases w<;>first|exact ay h|skip)
  ·exact Gb hc pins s O H _ us Q I r ⟨_,_,rfl,h⟩
 case sorted.cons y w=>
  cases y<;>first|exact ay h|(cases w<;>first|exact ay h|skip)
  ·obtain⟨xs,kss,h1,h2,h3,h4⟩:=h;exact Bh pins s O H _ us Q I r ⟨_,xs,kss,rfl,h1,h2,h3,h4⟩
end
end L3
end
section
namespace L3
open PySem PySem.Spec PyProof.Rows L2
open PySem.Builtin PySem.Builtin.Str
variable{pins:List (Addr×Obj)}{O:L2.St}{H:Hp}{s:ah}{m:Mt}{x:V}{v:Value}
section
variable{X:Cx}
noncomputable def AM:Mt->V->String
|_,.str _=>"str"
|_,_=>"list"
noncomputable def EK:Mt->V->String
|.append,_=>"list.append"
|.extend,_=>"list.extend"
structure M4 (T:String) (m:Mt) (id:String):Prop where
 pa:PlainAttrs T
 slot:Slot T m.name id
 ty:typeOf (.builtin id)=pure (.type "method_descriptor")
theorem Bx(m:Mt)(x:V)(H:Hp)(h:p6 m x H):M4 (AM m x) m (EK m x):=by
 cases m<;>cases x<;>first
  |exact ay h
  |exact⟨F.plainAttrs_list,F.slot_list_append,F.type_list_append⟩
  |exact⟨F.plainAttrs_list,F.slot_list_insert,F.type_list_insert⟩
  |exact⟨F.plainAttrs_str,F.slot_str_startswith,F.type_str_startswith⟩
  |exact⟨F.plainAttrs_str,F.slot_str_upper,F.type_str_upper⟩
  |exact⟨F.plainAttrs_str,F.slot_str_split,F.type_str_split⟩
  |exact⟨F.plainAttrs_str,F.slot_str_count,F.type_str_count⟩
  |exact⟨F.plainAttrs_str,F.slot_str_index,F.type_str_index⟩
  |exact⟨F.plainAttrs_str,F.slot_str_join,F.type_str_join⟩
  |exact⟨F.plainAttrs_dict,F.slot_dict_get,F.type_dict_get⟩
  |exact⟨F.plainAttrs_list,F.slot_list_pop,F.type_list_pop⟩
  |exact⟨F.plainAttrs_list,F.slot_list_count,F.type_list_count⟩
  |exact⟨F.plainAttrs_list,F.slot_list_index,F.type_list_index⟩
  |exact⟨F.plainAttrs_list,F.slot_list_extend,F.type_list_extend⟩
  |exact⟨F.plainAttrs_list,F.slot_list_clear,F.type_list_clear⟩
theorem DF(I:L2.Inv X pins O H s)(r:RelV x v)(h:p6 m x H) :
  s.TypeIs v (AM m x)/\∀a,v=.ref a->∃ob,s.heap.get? a=some ob/\ob.dict=none:=by
 have hl:∀a,x=.ref a->jH H a->pV X.K "list" x H:=by
  rintro a rfl h;unfold jH at h;split at h
  ·exact .inl ⟨rfl,_,.inl (.inl (by assumption))⟩
  ·exact h.elim
 have hd:∀a,x=.ref a->LV H a->pV X.K "dict" x H:=by
  rintro a rfl h;unfold LV at h;split at h
  ·exact .inr (.inr (.inl ⟨rfl,.inl ⟨_,by assumption⟩⟩))
  ·exact .inr (.inr (.inl ⟨rfl,.inr ⟨_,by assumption⟩⟩))
  ·exact h.elim
 have hr:∀a,x=.ref a->(∃xs,Rd H a (.lst xs))->pV X.K "list" x H:=by
  rintro a rfl ⟨xs,h⟩;exact .inl ⟨rfl,xs,.inl h⟩
 cases m<;>cases x<;>first|exact ay h|exact xh I r (hl _ rfl h)|exact xh I r (hr _ rfl h)|exact xh I r rfl|exact xh I r (hd _ rfl h)
theorem DG{vs:List V}{us:List Value}{Q:VK}(hu:X.A.units+60<c_)(I:L2.Inv X pins O H s)(rx:RelV x v)(rv:bh vs us)(h:rO X.K m x vs H Q) :
  aq (az X.prog X.w) X.A (call (.builtin (EK m x)) (v::us)) (EP X pins O Q) X.xe s:=by
 cases m<;>cases x<;>first|exact ay h|skip
 case append.ref l=>
  cases vs<;>first|exact ay h|skip
  rename_i y r;cases r<;>first|exact ay h|skip
  ·dsimp only[rO]at h;split at h
   ·exact Gi pins s O H _ _ v us Q I rx rv ⟨_,_,_,rfl,rfl,by assumption,h.1,h.2⟩
   ·exact h.elim
 case extend.ref l=>
  cases vs<;>first|exact ay h|skip
  rename_i c r;cases c<;>first|exact ay h|(cases r<;>first|exact ay h|skip)
  rename_i b
  ·dsimp only[rO]at h;split at h
   ·obtain⟨zs,h1,h2,h3⟩:=h;exact Gj pins s O H _ _ v us Q I rx rv ⟨_,_,_,zs,rfl,rfl,by assumption,h1,h2,h3⟩
   ·exact h.elim
noncomputable def Ty.val:Ty->Value
|.int=>.type "int"|.bool=>.type "bool"|.str=>.type "str"|.list=>.type "list"|.tuple=>.type "tuple"|.dict=>.type "dict"|.none=>.type "NoneType"
theorem Ty.boot:∀t:Ty,t≠.none->jX t.name=some t.val:=by
 intro t h;cases t<;>first|decide +kernel|exact absurd rfl h
theorem Pc{ty:Ty}{Q:Bool->Prop}(I:L2.Inv X pins O H s)(rx:RelV x v)(h:oX X.K ty x H Q)(ht:ty≠.none) :
  aq (az X.prog X.w) X.A (call (.builtin "isinstance") [v,ty.val]) (EP X pins O fun u H'=>H'=H/\∃b,u=.bl b/\Q b) X.xe s:=by
 have key:∀(t:Value) (b:Bool),mQ X.K H x t->PySem.W.kitOne X.K t ty.val=some b->Q b->aq (az X.prog X.w) X.A (call (.builtin "isinstance") [v,ty.val]) (EP X pins O fun u H'=>H'=H/\∃b,u=.bl b/\Q b) X.xe s:=
  fun t b h1 h2 h3=>Gg I rx h1 h2 fun tk=>⟨.bl b,H,I.tok _,rfl,rfl,b,rfl,h3⟩
 cases x with
 |non=>exact key _ false .non (by cases ty<;>first|rfl|exact absurd rfl ht) h
 |bl b=>
  cases ty with
  |bool=>exact key _ true (.bl b) rfl h
  |int=>exact key _ true (.bl b) rfl h
  |none=>exact absurd rfl ht
  |_=>exact key _ false (.bl b) rfl h
 |int i=>
  cases ty with
  |int=>exact key _ true (.int i) rfl h
  |none=>exact absurd rfl ht
  |_=>exact key _ false (.int i) rfl h
 |str z=>
  cases ty with
  |str=>exact key _ true (.str z) rfl h
  |none=>exact absurd rfl ht
  |_=>exact key _ false (.str z) rfl h
 |ref a=>
  rcases h with⟨xs,hx,h⟩|⟨xs,hx,h⟩|⟨kvs,hk,h⟩
  ·rcases hx with e|⟨o,e⟩
   ·cases ty with
    |list=>exact key _ true (.lst e) rfl h
    |none=>exact absurd rfl ht
    |_=>exact key _ false (.lst e) rfl h
   ·cases ty with
    |list=>exact key _ true (.bG e) rfl h
    |none=>exact absurd rfl ht
    |_=>exact key _ false (.bG e) rfl h
  ·obtain⟨its,_,⟨o,h1,h2,_⟩,_⟩:=I.tuple hx.jf;cases(show v=aN a from rx);have key2:∀b:Bool,PySem.W.kitOne X.K (.type "tuple") ty.val=some b->Q b->aq (az X.prog X.w) X.A (call (.builtin "isinstance") [.ref a,ty.val]) (EP X pins O fun u H'=>H'=H/\∃b,u=.bl b/\Q b) X.xe s:=
    fun b e q=>PySem.W.kia_one PySem.W.kitx_tuple I.dR ⟨o,h1,h2⟩ e (fun z=>nomatch z) fun tk=>⟨.bl b,H,I.tok _,rfl,rfl,b,rfl,q⟩
   cases ty with
   |tuple=>exact key2 true rfl h
   |none=>exact absurd rfl ht
   |_=>exact key2 false rfl h
  ·rcases hk with hk|⟨ob,hk⟩
   ·cases ty with
    |dict=>exact key _ true (.dK hk) rfl h
    |none=>exact absurd rfl ht
    |_=>exact key _ false (.dK hk) rfl h
   ·cases(show v=aN a from rx);obtain⟨_,_,_,vs,_,o,es,ep,h1,h2,_⟩:=(show cU X.prog X.w H s.heap a (.bG ob (.dK kvs))from I.hok a _ hk);have key2:∀b:Bool,PySem.W.kitOne X.K (.type "dict") ty.val=some b->Q b->aq (az X.prog X.w) X.A (call (.builtin "isinstance") [.ref a,ty.val]) (EP X pins O fun u H'=>H'=H/\∃b,u=.bl b/\Q b) X.xe s:=
     fun b e q=>PySem.W.kia_one PySem.W.kitx_dict I.dR ⟨o,h1,h2.1⟩ e (fun z=>nomatch z) fun tk=>⟨.bl b,H,I.tok _,rfl,rfl,b,rfl,q⟩
    cases ty with
    |dict=>exact key2 true rfl h
    |none=>exact absurd rfl ht
    |_=>exact key2 false rfl h
 |_=>exact ay h
end
end L3
end
section
namespace L3
open PySem PySem.Spec PyProof.Rows L2
noncomputable def LY(z:Str):It:=⟨fun i _=>i<z.length,fun i H x H'=>H'=H/\∃c,z.cps[i]?=some c/\x=.str ⟨#[c]⟩,fun i _=>z.length<=i⟩
variable{P:a_}{w:bC}{K:PySem.W.Frag}{tg:Expr}
theorem JB(it:Addr)(z:Str)(t:Tok)(T:String)(hT:T="str_ascii_iterator"\/T="str_iterator") :
  Turn P w K tg (LY z) [it] it (fun i h=>h.IsStrIter it T z t i) where
 mem:=by simp
 obj:=fun i h st b hb=>by
  have e:b=it:=by simpa using hb
  subst e;obtain⟨o,e,c,d⟩:=st;exact⟨o,e,fun v z=>by rw[d]at z;cases z⟩
 keep:=fun i h h' st k=>let⟨o,ho,r⟩:=st;⟨o,k it (by simp) o ho,r⟩
 item:=by
  intro X hP hw hK hc i pins s O H E I hf st hg;subst hP hw hK;obtain⟨f0,f1,f2,f3,f4,f5⟩:=hf it (by simp);have hh:X.A.handled=none:=I.ok.hd hc;have W:Walks X.prog X.w X.A it [it] [it] z.cps.size (SignAt z) (fun i h=>h.IsStrIter it T z t i):=by
   rcases hT with rfl|rfl
   ·exact Walks.strAscii hh it z t
   ·exact Walks.strWide hh it z t
  refine W.item i s _ _ hg st fun v h' tk hv st' kk=>?_;obtain⟨c,u,hc,rfl⟩:=hv;have I1:L2.Inv X pins O H { s with heap:=h',toks:=tk }:=I.turned (fun b o hb e=>kk b o (by simpa using hb) e) f0 f1 f3 f4 f5;obtain⟨o,e,c',d⟩:=id st';refine⟨_,rfl,AG (s:={ s with heap:=h',toks:=tk }) (n:=T) e c' d (by rcases hT with rfl|rfl<;>decide) ⟨.str ⟨#[c]⟩,H,I1,⟨u,rfl⟩,⟨rfl,c,hc,rfl⟩,st',fun b hb=>(hf b hb).1⟩⟩
 done:=by
  intro X hP hw hK hc i pins s O H E I hf st hg;subst hP hw hK;obtain⟨f0,f1,f2,f3,f4,f5⟩:=hf it (by simp);have hg:z.cps.size<=i:=hg;have hn:z.cps[i]?=none:=Array.getElem?_eq_none_iff.mpr hg;rcases hT with rfl|rfl
  ·exact wpAny_pyNext_ascii_end (I.ok.hd hc) st hn fun h' eb=>⟨rfl,I.turned (t':=s.toks) (fun b o hb e=>eb b o hb e) f0 f1 f3 f4 f5⟩
  ·exact wpAny_pyNext_wide_end (I.ok.hd hc) st hn fun h' eb=>⟨rfl,I.turned (t':=s.toks) (fun b o hb e=>eb b o hb e) f0 f1 f3 f4 f5⟩
 self:=fun _ _ _ _ _ st h=>by
  rcases hT with rfl|rfl
  ·exact wpAny_pyIter_striter_ascii st h
  ·exact wpAny_pyIter_striter_wide st h
variable{X:Cx}{pins:List (Addr×Obj)}{O:L2.St}{H:Hp}{s:ah}{h':Heap}
theorem Inv.oJ{H':Hp}{t':Nat}{ch:List Addr}(I:L2.Inv X pins O H s)(hf:∀b∈ch,gS X pins H b)(k:∀b o,b∉ch->s.heap.get? b=some o->h'.get? b=some o)
  (free:∀b o,b∉ch->s.heap.get? b=some o->H b=none->H' b=none) (grow:∀b o,H b=some o->H' b=some o) (hok:d9 X.prog X.w H' h'):L2.Inv X pins O H' { s with heap:=h',toks:=t' }:=by
 refine I.step (g':=s.gens) (d':=s.drawn) (ch:=ch) (fun b hb=>?_) (fun b o _ _ hc e _=>k b o hc e) (fun b o _ _ hc e _=>⟨o.slots,k b o hc e⟩) free
  (fun b o hc e=>⟨o,k b o hc e⟩) (fun _ _ e=>grow _ _ e) (fun _ _ _ e=>grow _ _ e) (fun b ps e=>⟨#[],by rw[grow _ _ e];simp⟩) (fun m hm=>?_) hok I.bare
 ·obtain⟨f0,f1,f2,f3,f4,f5⟩:=hf b hb;exact⟨f3,f1,f4,f5⟩
 ·obtain⟨o,es,ep,ho,r⟩:=hm;exact⟨o,es,ep,k _ o (fun z=>(hf _ z).2.1 rfl) ho,r⟩
theorem j_{X:Cx}{pins:List (Addr×Obj)}{H:Hp}{h h':Heap}{ch:List Addr}(x:d9 X.prog X.w H h)(hf:∀b∈ch,H b=none)(k:∀b o,b∉ch->h.get? b=some o->h'.get? b=some o):d9 X.prog X.w H h':=fun b u e=>by
 refine(x b u e).stay (fun c v hc q=>k c v (fun z=>?_) q) (fun _ q=>q) fun _ _ q=>q;rcases hc with rfl|hc
 ·rw[hf c z]at e;cases e
 ·rw[hf c z]at hc;cases hc
noncomputable def Pd(a:Addr):It:=
 ⟨fun i H=>∃xs x,Rd H a (.lst xs)/\xs[i]?=some x,fun i H x H'=>∃p v,H p=none/\x=.ref p/\H'=upd H p (.tup [.int (i:Int),v])/\∀xs,Rd H a (.lst xs)->xs[i]?=some v,fun i H=>∃xs,Rd H a (.lst xs)/\xs.length<=i⟩
variable{elts:List Expr}{pos:Pos}
theorem GA{x1}(a e it:Addr)(hne:e≠it):Turn P w K (.Tuple elts x1 pos) (Pd a) [e,it] e (fun i h=>(∃old,IsEnum h e it (i:Int) old)/\h.IsListIter it a i) where
 mem:=by simp
 obj:=fun i h st b hb=>by
  obtain⟨⟨old,st1⟩,st2⟩:=st;have hb:b=e\/b=it:=by simpa using hb
  rcases hb with rfl|rfl
  ·exact⟨_,st1,fun v z=>by cases z⟩
  ·obtain⟨o,e,c,d⟩:=st2;exact⟨o,e,fun v z=>by rw[d]at z;cases z⟩
 keep:=fun i h h' st k=>by
  obtain⟨⟨old,st1⟩,st2⟩:=st;exact⟨⟨old,k e (by simp) _ st1⟩,st2.at fun o q=>k it (by simp) o q⟩
 item:=by
  intro X hP hw hK hc i pins s O H E I hf st hg;subst hP hw hK;obtain⟨⟨old,st1⟩,st2⟩:=st;obtain⟨xs,x,hq,hx⟩:=hg;obtain⟨its,rv,p,hz⟩:=I.list (.inl hq:fy X.K H a xs);obtain⟨u,hu,ru⟩:=rv.get hx;refine wpAny_pyNext_enum_item st1 st2 p.isList (x:=u) (by simpa using hu) hne fun h1 heo hit1 ht1 hz1 hk1=>?_;refine⟨_,rfl,wpAny_letOwnedTupleGo_enum (s:={ s with heap:=h1,toks:=s.toks+1 }) heo fun h2 he2 hs2=>?_⟩;have hs2:gZ e h1 h2:=hs2;have lee:e<s.heap.objs.size:=au st1;have ne_e:s.heap.objs.size≠e:=jb lee;have ht2:h2.get? s.heap.objs.size=some { cls:=.type "tuple",data:=.seq #[.int i s.toks,u] }:=(hs2.2 _ ne_e).trans ht1;have hk2:∀b o,b∉[e,it]->s.heap.get? b=some o->h2.get? b=some o:=fun b o hb q=>by
   have hb:b≠e/\b≠it:=by simpa using hb
   exact(hs2.2 b hb.1).trans (hk1 b o hb.1 hb.2 q)
  have hn:H s.heap.objs.size=none:=I.hok.fresh (aT _);have hfr:∀b∈[e,it],H b=none:=fun b hb=>(hf b hb).1;have hok2:d9 X.prog X.w (upd H s.heap.objs.size (.tup [.int (i:Int),x])) h2:=by
   have h0:d9 X.prog X.w H h2:=j_ (X:=X) (pins:=pins) I.hok hfr hk2;intro b o q;by_cases hb:b=s.heap.objs.size
   ·subst hb;rw[bu]at q;cases q;refine⟨by show(2:Nat)<=_;have:=cD;omega,[.int (i:Int) s.toks,u],.cons ⟨_,rfl⟩ (.cons ru .nil),⟨_,ht2,rfl,_,rfl⟩⟩
   ·rw[aK hb]at q;exact(h0 b o q).stay (fun _ _ _ r=>r) (fun c r=>by rw[aK (bQ r hn)];exact r) fun c ys r=>by rw[aK (bQ r hn)];exact r
  have I2:L2.Inv X pins O (upd H s.heap.objs.size (.tup [.int (i:Int),x])) { s with heap:=h2,toks:=s.toks+1 }:=
   Inv.oJ (ch:=[e,it]) I hf hk2 (fun b o hb q n=>by rw[aK (be (au q))];exact n) (fun b o q=>by rw[aK (bQ q hn)];exact q) hok2
  refine⟨.ref s.heap.objs.size,_,I2,rfl,⟨_,x,hn,rfl,rfl,fun ys hy=>by rw[I.oS (.inl hy) (.inl hq:fy X.K H a xs)];exact hx⟩,⟨⟨u,?_⟩,?_⟩,fun b hb=>?_⟩
  ·have:((i:Int)+1)=((i+1:Nat):Int):=by omega
   rw[<-this];exact he2
  ·exact hit1.at fun o q=>(hs2.2 it (cP hne)).trans q
  ·have hlt:b<s.heap.objs.size:=by
    have hb:b=e\/b=it:=by simpa using hb
    rcases hb with rfl|rfl
    ·exact lee
    ·obtain⟨o,q,_⟩:=st2;exact au q
   rw[aK (be hlt)];exact hfr b hb
 done:=by
  intro X hP hw hK hc i pins s O H E I hf st hg;subst hP hw hK;obtain⟨⟨old,st1⟩,st2⟩:=st;obtain⟨xs,hq,hx⟩:=hg;obtain⟨its,rv,p,hz⟩:=I.list (.inl hq:fy X.K H a xs);have hl:=rv.length;have hfr:∀b∈[e,it],H b=none:=fun b hb=>(hf b hb).1;refine wpAny_pyNext_enum_end (I.ok.hd hc) st1 st2 p.isList (by simp;omega) fun h' eb=>⟨rfl,?_⟩;have hk:∀b o,b∉[e,it]->s.heap.get? b=some o->h'.get? b=some o:=fun b o hb q=>eb b o (fun z=>hb (by simp[z])) q;exact Inv.oJ (t':=s.toks) (ch:=[e,it]) I hf hk (fun _ _ _ _ n=>n) (fun _ _ q=>q) (j_ (X:=X) (pins:=pins) I.hok hfr hk)
 self:=fun _ _ _ _ _ st h=>by
  obtain⟨⟨old,st1⟩,_⟩:=st;exact vn st1 h
structure ly (J:It) (ok:Hp->Prop) (items:List Item):Prop where
 go:∀i H it,ok H->items[i]?=some it->J.go i H
 yld:∀i H it x H',ok H->items[i]?=some it->J.yld i H x H'->∀k,mkItem it H k->k x H'
 stop:∀i H,ok H->items.length<=i->J.stop i H
variable{a:Addr}
theorem GB{xs:List V}:ly (RU K a) (fun H=>fy K H a xs) (xs.map .v) where
 go:=fun i H it ok hi=>by
  rw[aU]at hi;cases e:xs[i]? with
  |none=>rw[e]at hi;cases hi
  |some x=>exact⟨xs,x,ok,e⟩
 yld:=fun i H it x H' ok hi hy k hk=>by
  obtain⟨rfl,hy⟩:=hy;rw[aU,hy xs ok]at hi;cases hi;exact hk
 stop:=fun i H ok hi=>⟨xs,ok,by rw[aC]at hi;exact hi⟩
theorem tW:∀(xs:List V) (n i:Nat),(kQ n xs)[i]?=(xs[i]?).map fun x=>Item.tup [.int ((n+i:Nat):Int),x]
|[],n,i=>by simp[kQ]
|x::r,n,0=>by simp[kQ]
|x::r,n,i+1=>by
 simp only[kQ,iu,tW r (n+1) i];have:n+1+i=n+(i+1):=by omega
 rw[this]
theorem zD:∀(xs:List V) (n:Nat),(kQ n xs).length=xs.length
|[],_=>rfl
|x::r,n=>by simp[kQ,zD r (n+1)]
theorem GC{xs:List V}:ly (Pd a) (fun H=>Rd H a (.lst xs)) (kQ 0 xs) where
 go:=fun i H it ok hi=>by
  rw[tW]at hi;cases e:xs[i]? with
  |none=>rw[e]at hi;cases hi
  |some x=>exact⟨xs,x,ok,e⟩
 yld:=fun i H it x H' ok hi hy k hk=>by
  obtain⟨p,v,hp,rfl,rfl,hy⟩:=hy;rw[tW,hy xs ok,mw]at hi;cases hi;exact hk p hp
 stop:=fun i H ok hi=>⟨xs,ok,by rw[zD]at hi;exact hi⟩
theorem JC{xs:List V}:ly (RV K a) (fun H=>jF K H a xs) (xs.map .v) where
 go:=fun i H it ok hi=>by
  rw[aU]at hi;cases e:xs[i]? with
  |none=>rw[e]at hi;cases hi
  |some x=>exact⟨xs,x,ok,e⟩
 yld:=fun i H it x H' ok hi hy k hk=>by
  obtain⟨rfl,hy⟩:=hy;rw[aU,hy xs ok]at hi;cases hi;exact hk
 stop:=fun i H ok hi=>⟨xs,ok,by rw[aC]at hi;exact hi⟩
theorem JD{z:Str}:ly (LY z) (fun _=>True) ((chars z).map .v) where
 go:=fun i H it ok hi=>by
  have:=(bB.mp hi).1;have:i<z.length:=by simpa[chars,gE]using this
  exact this
 yld:=fun i H it x H' ok hi hy k hk=>by
  obtain⟨rfl,c,hc,rfl⟩:=hy;unfold chars at hi;rw[dH,aU,rG,hc]at hi;cases hi;exact hk
 stop:=fun i H ok hi=>by
  have:z.length<=i:=by simpa[chars,gE]using hi
  exact this
variable{lo:Int}{n:Nat}
theorem EL:ly (LL lo n) (fun _=>True) ((bq n).map fun(i:Nat)=>Item.v (.int (lo+(i:Int)))) where
 go:=fun i H it ok hi=>by
  have:=(bB.mp hi).1;have:i<n:=by simpa using this
  exact this
 yld:=fun i H it x H' ok hi hy k hk=>by
  obtain⟨rfl,rfl⟩:=hy;have hl:=(bB.mp hi).1;have hl:i<n:=by simpa using hl
  rw[aU,List.getElem?_range hl]at hi;cases hi;exact hk
 stop:=fun i H ok hi=>by
  have:n<=i:=by simpa using hi
  exact this
variable{J:It}{ok:Hp->Prop}
theorem ly.mono{ok':Hp->Prop}{items:List Item}(h:ly J ok items)(m:∀H,ok' H->ok H):ly J ok' items:=
 ⟨fun i H it o=>h.go i H it (m H o),fun i H it x H' o=>h.yld i H it x H' (m H o),fun i H o=>h.stop i H (m H o)⟩
theorem JE{items:List Item}{g:TG}{body:TS}{D:Ends}(hJ:ly J ok items)(h:forL ok g body D items O H) :
  ∃W:Nat->Nat->L2.St->Hp->Prop,(∃m,W 0 m O H)/\∀i m O H,W i m O H->
   (J.stop i H/\D.nx O H)\/(J.go i H/\∃N:L2.St->Hp->Prop,(∀TF H',N TF H'->∃m',m'<m/\W (i+1) m' TF H')/\∀x H',J.yld i H x H'->g x O H' fun TH H2=>body { D with nx:=N,ct:=N,bk:=D.nx } TH H2):=by
 refine⟨fun i m O H=>m=items.length-i/\i<=items.length/\forL ok g body D (items.drop i) O H,⟨items.length,by simp,gO _,by simpa using h⟩,?_⟩;rintro i m O H ⟨rfl,hi,p⟩;by_cases hlt:i<items.length
 ·rw[jN hlt]at p;obtain⟨hok,p⟩:=p;have e:items[i]?=some items[i]:=ak hlt;refine .inr ⟨hJ.go i H _ hok e,forL ok g body D (items.drop (i+1)),fun TF H' p'=>⟨items.length-(i+1),by omega,rfl,hlt,p'⟩,fun x H' y=>?_⟩;exact hJ.yld i H _ x H' hok e y _ p
 ·rw[qR (by omega)]at p;obtain⟨hok,p⟩:=p;exact .inl ⟨hJ.stop i H hok (by omega),p⟩
variable{iter:Expr}{body:List Stmt}{wi:Gw}
variable{e:Expr}{te:TE}
variable{E:Value->ah->Prop}
variable{tp p:Pos}
variable{es:List Expr}
section
variable{X:Cx}{tg:Expr}
def JF(X:Cx)(pins:List (Addr×Obj))(O:L2.St)(tg:Expr)(k:(Hp->Prop)->List Item->Hp->Prop)(itv:Value)(s2:ah):Prop:=
 ∃(it:Addr) (fp:List Addr) (tn:Nat->Heap->Prop) (J:It) (H':Hp),itv=.ref it/\L2.Inv X pins O H' s2/\Turn X.prog X.w X.K tg J fp it tn/\tn 0 s2.heap/\(∀b∈fp,gS X pins H' b)/\∃ok items,ly J ok items/\k ok items H'
def zE(X:Cx)(tg iter:Expr)(wi:Gw):Prop:=
 ∀(pins:List (Addr×Obj)) (s:ah) (O:L2.St) (H:Hp) (k:(Hp->Prop)->List Item->Hp->Prop),L2.Inv X pins O H s->wi O H k->
  aq (az X.prog X.w) X.A (eval iter X.env) (fun v s1=>aq (az X.prog X.w) X.A (pK v) (JF X pins O tg k) X.xe s1) X.xe s
theorem Ro{g:TG}{tb:TS}(hp:uC (az X.prog X.w) X.A X.env X.xe)(hc:X.calm=true)(hi:zE X tg iter wi)(hg:PG X tg g)(hb:lR X body tb)
  (hs:∀x,gz iter X.env x=pure x):PS X (.For tg iter body [] pos) (fun D O H=>wi O H fun ok items H1=>forL ok g tb D items O H1):=by
 intro pins s O H D I h;have hI:PI X tg iter (fun Ux H0 R=>wi Ux H0 (fun ok items H1=>forL ok g tb D items O H1)/\∀ok items H1 J,forL ok g tb D items O H1->ly J ok items->R J H1):=by
  intro pins' s' TF H' R I' h';refine aY (hi pins' s' TF H' _ I' h'.1) fun v s1 h1=>aY h1 fun itv s2 h2=>?_;obtain⟨it,fp,tn,J,H2,e,I2,T,st,hf,ok,items,hJ,hk⟩:=h2;exact⟨it,fp,tn,J,H2,e,I2,T,st,hf,h'.2 ok items H2 J hk hJ⟩
 exact OB hp hc hI hg hb hs pins s O H D I ⟨h,fun ok items H1 J hk hJ=>JE hJ hk⟩
theorem M5(he:PE X e te):zE X tg e (fun O H k=>te O H fun x H1=>yu X.K x H1 k):=by
 intro pins s O H k I h;refine aY (he pins s O H _ I h) fun v s1 ⟨x,H1,I1,r1,q1⟩=>?_;cases x with
 |str z=>
  obtain⟨t,rfl⟩:=r1;obtain⟨hz,q⟩:=q1;have fin:∀T,T="str_ascii_iterator"\/T="str_iterator"->JF X pins O tg k (.ref s1.heap.objs.size) { s1 with heap:=s1.heap.push { cls:=.type T,data:=.fields #[.str z t,.int 0 0] } }:=fun T hT=>by
   refine⟨s1.heap.objs.size,[s1.heap.objs.size],_,_,H1,rfl,I1.kept (t':=s1.toks) fun b o e=>aj _ e,JB s1.heap.objs.size z t T hT,⟨_,aO _ rfl,rfl,rfl⟩,fun b hb=>?_,_,_,JD,q⟩;have e:b=s1.heap.objs.size:=by simpa using hb
   subst e;exact I1.k9 (aT _) (I1.hok.fresh (aT _))
  cases ha:z.cps.all (·<128)
  ·exact wpAny_pyIter_wide ha (fin _ (.inr rfl))
  ·exact wpAny_pyIter_ascii ha (fin _ (.inl rfl))
 |ref a=>
  obtain⟨t,xs,hx,q⟩:=q1;cases r1;rcases hx.sq with⟨rfl,z⟩|⟨rfl,z⟩
  ·obtain⟨its,rv,p,hz⟩:=I1.list z;refine n_ p.isList ?_;refine⟨s1.heap.objs.size,[s1.heap.objs.size],_,_,H1,rfl,I1.kept (t':=s1.toks) fun b o e=>aj _ e,F8 a _,⟨_,aO _ rfl,rfl,rfl⟩,fun b hb=>?_,fun H'=>dO X.K H' a false xs,_,GB.mono fun H' o=>?_,q⟩
   ·have e:b=s1.heap.objs.size:=by simpa using hb
    subst e;exact I1.k9 (aT _) (I1.hok.fresh (aT _))
   ·rcases o.sq with⟨_,z⟩|⟨hf,_⟩
    ·exact z
    ·cases hf
  ·obtain⟨its,rv,p,hz⟩:=I1.tuple z;refine nG (show s1.heap.IsTuple a its.toArray from p) ?_;refine⟨s1.heap.objs.size,[s1.heap.objs.size],_,_,H1,rfl,I1.kept (t':=s1.toks) fun b o e=>aj _ e,En a _,⟨_,aO _ rfl,rfl,rfl⟩,fun b hb=>?_,fun H'=>dO X.K H' a true xs,_,JC.mono fun H' o=>?_,q⟩
   ·have e:b=s1.heap.objs.size:=by simpa using hb
    subst e;exact I1.k9 (aT _) (I1.hok.fresh (aT _))
   ·rcases o.sq with⟨hf,_⟩|⟨_,z⟩
    ·cases hf
    ·exact z
 |_=>exact ay q1
theorem range_it'{k:(Hp->Prop)->List Item->Hp->Prop}{hi:Int}{t u v:Tok}{tk:Nat}(I:L2.Inv X pins O H s)(h1:-(2 ^ 62)<=lo)(h2:lo<2 ^ 62)(h3:-(2 ^ 62)<=hi)(h4:hi<2 ^ 62)
  (q:k (fun _=>True) ((bq (hi-lo).toNat).map fun(i:Nat)=>Item.v (.int (lo+(i:Int)))) H) :
  aq (az X.prog X.w) X.A (pK (.ref s.heap.objs.size)) (JF X pins O tg k) E { s with heap:=s.heap.push { cls:=.type "range",data:=.fields #[.int lo t,.int hi u,.int 1 v] },toks:=tk }:=by
 refine aY (Jk (tg:=tg) (R:=fun J H'=>J=LL lo (hi-lo).toNat/\H'=H) I h1 h2 h3 h4 ⟨rfl,rfl⟩) fun itv s2 h=>?_;obtain⟨it,fp,tn,J,H',e,I2,T,st,hf,rfl,rfl⟩:=h;exact⟨it,fp,tn,_,H',e,I2,T,st,hf,_,_,EL,q⟩
theorem JG{x1:Nat}(hg:Gl X "enumerate")(hm:X.mg "enumerate"=none)(he:PE X e te)(hs:cy [e] X.env=[(false,eval e X.env)]) :
  zE X (.Tuple elts x1 tp) (.Call (.Name "enumerate" p) [e] [] pos) (fun O H k=>te O H fun x H1=>match x with
   |.ref b=>∃xs,Rd H1 b (.lst xs)/\k (fun H'=>Rd H' b (.lst xs)) (kQ 0 xs) H1
   |_=>False):=by
 intro pins s O H k I h;have ha:=ym he A4 hs;refine FP (iW I hg hm boot_enumerate (eV (aY (ha pos pins s O H (fun vs H1=>match vs with
   |[x]=>(match x with
    |.ref b=>∃xs,Rd H1 b (.lst xs)/\k (fun H'=>Rd H' b (.lst xs)) (kQ 0 xs) H1
    |_=>False)
   |_=>False) I h) fun us s1 ⟨vs,H1,I1,r1,q⟩=>?_) hs rfl))
 match vs,r1,q with
 |[],r1,q=>exact q.elim
 |_::_::_,r1,q=>exact q.elim
 |[x],r1,q=>
  obtain⟨u,rfl,ru⟩:=vals1 r1;cases x with
  |ref b=>
   cases ru;obtain⟨xs,hx,q⟩:=q;obtain⟨its,rv,pl,hz⟩:=I1.list (.inl hx:fy X.K H1 b xs);refine call_enumerate_list pl.isList fun h' he' hi' hz' hk'=>?_;refine vn (s:={ s1 with heap:=h' }) he' ?_;refine⟨s1.heap.objs.size+1,[s1.heap.objs.size+1,s1.heap.objs.size],_,_,H1,rfl,I1.kept (t':=s1.toks) hk',GA b _ _ (Nat.succ_ne_self _),⟨⟨_,he'⟩,hi'⟩,fun c hc=>?_,_,_,GC,q⟩;have hc:c=s1.heap.objs.size+1\/c=s1.heap.objs.size:=by simpa using hc
   rcases hc with rfl|rfl
   ·exact I1.k9 (kP _) (I1.hok.fresh (kP _))
   ·exact I1.k9 (aT _) (I1.hok.fresh (aT _))
  |_=>exact ay q
theorem GD{ta:TA}(hg:Gl X "range")(hm:X.mg "range"=none)(ha:PA X (e::es) ta)(he:cy (e::es) X.env=(false,eval e X.env)::cy es X.env)(hpl:(kO pos (cy es X.env)).any (·.1)=false) :
  zE X tg (.Call (.Name "range" p) (e::es) [] pos) (fun O H k=>ta O H fun vs H1=>tV vs H1 k):=by
 intro pins s O H k I h;refine FP (iW I hg hm boot_range (eV (aY (ha pos pins s O H _ I h) fun us s1 ⟨vs,H1,I1,r1,q⟩=>?_) he hpl));have q:tV vs H1 k:=q;unfold tV at q;split at q
 ·obtain⟨⟨q1,q2⟩,q⟩:=q;obtain⟨u,rfl,ru⟩:=vals1 r1;obtain⟨t,rfl⟩:=ru;refine call_range_1 (range_it' I1 (by omega) (by omega) q1 q2 ?_);simpa using q
 ·obtain⟨⟨q1,q2,q3,q4⟩,q⟩:=q;obtain⟨u,u',rfl,ru,ru'⟩:=vals2 r1;obtain⟨t,rfl⟩:=ru;obtain⟨t',rfl⟩:=ru';exact call_range_2 (range_it' I1 q1 q2 q3 q4 q)
 ·exact q.elim
end
section
variable{P:a_}{w:bC}{H:Hp}{h h':Heap}{a:Addr}{o:HO}
theorem GF(x:d9 P w H h)(hn:H a=none)(new:cU P w (upd H a o) h a o):d9 P w (upd H a o) h:=fun b u e=>by
 by_cases hb:b=a
 ·subst hb;rw[bu]at e;cases e;exact new
 ·rw[aK hb]at e;exact(x b u e).stay (fun c v _ q=>q) (fun c q=>by rw[aK (bQ q hn)];exact q) fun c xs q=>by rw[aK (bQ q hn)];exact q
end
noncomputable def mT(cells:List (Str×Addr)):List (Str×g9)->List (Str×Addr)->List (Str×Addr)
|[],acc=>acc
|(n,k)::r,acc=>if(k==.free)=true then(match cells.lookup n with|some c=>mT cells r ((n,c)::acc)|none=>mT cells r acc)else mT cells r acc
variable{env:Env}
theorem rP:∀(names:List (Str×g9)) (acc:List (Str×Addr)),(∀n,(n,bY)∈names->∃c,env.cells.lookup n=some c)->
 (forIn names acc fun(x:Str×g9) (r:List (Str×Addr))=>(match x with
  |(name,kind)=>if(kind==.free)=true then(do let a <-IW env name;pure (iJ ((name,a)::r)))else pure (iJ r):Sem (ForInStep (List (Str×Addr)))))=pure (mT env.cells names acc)
|[],acc,_=>rfl
|(n,k)::r,acc,hn=>by
 rw[jO];have hr:∀m,(m,bY)∈r->∃c,env.cells.lookup m=some c:=fun m hm=>hn m (ao _ hm);unfold mT;by_cases hk:(k==bY)=true
 ·have e:k=.free:=by simpa using hk
  subst e;obtain⟨c,hc⟩:=hn n aG;have hco:IW env n=pure c:=by unfold IW;rw[hc]
  simp only[hc,hco,beq_self_eq_true,if_true];exact rP r _ hr
 ·simp only[hk,if_false];exact rP r _ hr
variable{scope:eU}
theorem nK(h:∀n,(n,bY)∈scope.names->∃c,env.cells.lookup n=some c):FQ scope env=pure (mT env.cells scope.names []):=by
 have e:=rP (env:=env) scope.names [] h;unfold FQ;exact Eq.trans (congrArg (fun t=>t >>= fun cs=>pure cs) e) rfl
variable{cells:List (Str×Addr)}
theorem rQ:∀(names:List (Str×g9)) (acc:List (Str×Addr)),(∀x c,acc.lookup x=some c->cells.lookup x=some c)->∀x c,(mT cells names acc).lookup x=some c->cells.lookup x=some c
|[],acc,h=>h
|(n,k)::r,acc,h=>by
 unfold mT;by_cases hk:(k==bY)=true
 ·simp only[hk,if_true];cases hc:cells.lookup n with
  |none=>exact rQ r acc h
  |some c=>
   refine rQ r _ fun x d hx=>?_;rw[b_]at hx;cases e:x==n with
   |true=>
    rw[e]at hx;have:x=n:=by simpa using e
    subst this;cases hx;exact hc
   |false=>rw[e]at hx;exact h x d hx
 ·simp only[hk,if_false];exact rQ r acc h
theorem o4:∀(names:List (Str×g9)) (acc:List (Str×Addr)) (x:Str),((∃c,acc.lookup x=some c)\/((x,bY)∈names/\∃c,cells.lookup x=some c))->∃c,(mT cells names acc).lookup x=some c
|[],acc,x,h=>by
 rcases h with h|⟨h,_⟩
 ·exact h
 ·cases h
|(n,k)::r,acc,x,h=>by
 unfold mT;by_cases hk:(k==bY)=true
 ·simp only[hk,if_true];have ek:k=.free:=by simpa using hk
  subst ek;cases hc:cells.lookup n with
  |none=>
   refine o4 r acc x ?_;rcases h with h|⟨h,h2⟩
   ·exact .inl h
   ·rcases aQ.mp h with e|h
    ·cases e;obtain⟨c,hc2⟩:=h2;rw[hc]at hc2;cases hc2
    ·exact .inr ⟨h,h2⟩
  |some c=>
   refine o4 r _ x ?_;by_cases e:x=n
   ·subst e;exact .inl ⟨c,by rw[b_];simp⟩
   ·rcases h with⟨d,h⟩|⟨h,h2⟩
    ·exact .inl ⟨d,by rw[b_,beq_eq_false_iff_ne.mpr e];exact h⟩
    ·rcases aQ.mp h with q|h
     ·cases q;exact absurd rfl e
     ·exact .inr ⟨h,h2⟩
 ·simp only[hk,if_false];refine o4 r acc x ?_;rcases h with h|⟨h,h2⟩
  ·exact .inl h
  ·rcases aQ.mp h with e|h
   ·cases e;exact absurd rfl hk
   ·exact .inr ⟨h,h2⟩
variable{α:Type}{x:Str}
theorem lT{m:Str}{n c:α}{acc:List (Str×α)}(h:((m,n)::acc).lookup x=some c):(x=m/\c=n)\/((x=m->False)/\acc.lookup x=some c):=by
 rw[b_]at h;cases e:x==m with
 |true=>
  rw[e]at h;exact .inl ⟨by simpa using e,(cC h).symm⟩
 |false=>
  rw[e]at h;exact .inr ⟨fun z=>by rw[z]at e;simp at e,h⟩
theorem rR:∀(names:List (Str×g9)) (n:Nat) (acc:List (Str×Addr)) (x:Str) (c:Addr),(dj n names acc).lookup x=some c->(n<=c/\(x,cg)∈names)\/((x,cg)∉names/\acc.lookup x=some c)
|[],_,_,_,_,h=>.inr ⟨(fun z=>nomatch z),h⟩
|(m,k)::r,n,acc,x,c,h=>by
 unfold dj at h;by_cases hk:(k==cg)=true
 ·rw[if_pos hk]at h;have ek:k=.cell:=by simpa using hk
  subst ek;rcases rR r (n+1) _ x c h with⟨h1,h2⟩|⟨h1,h2⟩
  ·exact .inl ⟨by omega,ao _ h2⟩
  ·rcases lT h2 with⟨e1,e2⟩|⟨e1,e2⟩
   ·subst e1;subst e2;exact .inl ⟨aT _,aG⟩
   ·refine .inr ⟨fun z=>?_,e2⟩;rcases aQ.mp z with q|q
    ·cases q;exact e1 rfl
    ·exact h1 q
 ·rw[if_neg hk]at h;rcases rR r n acc x c h with⟨h1,h2⟩|⟨h1,h2⟩
  ·exact .inl ⟨h1,ao _ h2⟩
  ·refine .inr ⟨fun z=>?_,h2⟩;rcases aQ.mp z with q|q
   ·cases q;exact hk rfl
   ·exact h1 q
theorem wg:∀(names:List (Str×g9)) (n:Nat) (acc:List (Str×Addr)) (x:Str),(x,cg)∉names->(dj n names acc).lookup x=acc.lookup x
|[],_,_,_,_=>rfl
|(m,k)::r,n,acc,x,h=>by
 unfold dj;by_cases hk:(k==cg)=true
 ·rw[if_pos hk,wg r _ _ x fun z=>h (ao _ z),b_];have ek:k=.cell:=by simpa using hk
  have ne:(x==m)=false:=beq_eq_false_iff_ne.mpr fun z=>h (by rw[z,ek];exact aG);rw[ne]
 ·rw[if_neg hk];exact wg r _ _ x fun z=>h (ao _ z)
theorem yz:∀(names:List (Str×g9)) (n:Nat) (acc:List (Str×Addr)) (x:Str),(x,cg)∈names\/(∃c,acc.lookup x=some c)->∃c,(dj n names acc).lookup x=some c
|[],_,_,_,h=>by
 rcases h with h|h
 ·cases h
 ·exact h
|(m,k)::r,n,acc,x,h=>by
 unfold dj;by_cases hk:(k==cg)=true
 ·rw[if_pos hk];refine yz r _ _ x ?_;by_cases e:x=m
  ·subst e;exact .inr ⟨n,by rw[b_];simp⟩
  ·rcases h with h|⟨c,h⟩
   ·rcases aQ.mp h with q|q
    ·cases q;exact absurd rfl e
    ·exact .inl q
   ·exact .inr ⟨c,by rw[b_,beq_eq_false_iff_ne.mpr e];exact h⟩
 ·rw[if_neg hk];refine yz r _ _ x ?_;rcases h with h|h
  ·rcases aQ.mp h with q|q
   ·cases q;exact absurd rfl hk
   ·exact .inl q
  ·exact .inr h
theorem yC:∀(names:List (Str×g9)) (n:Nat) (acc:List (Str×Addr)),(∀x c,acc.lookup x=some c->c<n)->(∀x y c,acc.lookup x=some c->acc.lookup y=some c->x=y)->∀x y c,(dj n names acc).lookup x=some c->(dj n names acc).lookup y=some c->x=y
|[],_,_,_,h=>h
|(m,k)::r,n,acc,hb,h=>by
 unfold dj;by_cases hk:(k==cg)=true
 ·rw[if_pos hk];refine yC r _ _ (fun x c hx=>?_) fun x y c hx hy=>?_
  ·rcases lT hx with⟨_,e⟩|⟨_,e⟩
   ·rw[e];exact lG _
   ·exact oh (hb x c e)
  ·rcases lT hx with⟨e1,e2⟩|⟨_,e2⟩<;>rcases lT hy with⟨e3,e4⟩|⟨_,e4⟩
   ·rw[e1,e3]
   ·exact absurd (hb y c e4) (by rw[e2];exact cV _)
   ·exact absurd (hb x c e2) (by rw[e4];exact cV _)
   ·exact h x y c e2 e4
 ·rw[if_neg hk];exact yC r n acc hb h
theorem wj:∀(names:List (Str×g9)) (h:Heap) (acc:List (Str×Addr)) (x:Str) (c:Addr),(dj h.objs.size names acc).lookup x=some c->(pushCells h names).IsCell c none\/acc.lookup x=some c
|[],_,_,_,_,e=>.inr e
|(m,k)::r,h,acc,x,c,e=>by
 unfold dj at e;unfold pushCells;by_cases hk:(k==cg)=true
 ·rw[if_pos hk]at e ⊢;have e':(dj (h.push { cls:=.type "cell",data:=.cell none }).objs.size r ((m,h.objs.size)::acc)).lookup x=some c:=by rw[dG];exact e
  rcases wj r _ _ x c e' with q|q
  ·exact .inl q
  ·rcases lT q with⟨_,e2⟩|⟨_,e2⟩
   ·subst e2;exact .inl ⟨_,qy r _ _ _ (aO _ rfl),rfl⟩
   ·exact .inr e2
 ·rw[if_neg hk]at e ⊢;exact wj r h acc x c e
variable{A:bU}
theorem JH{M:AX}{closure:List (Str×Addr)}{Q:Env->ah->Prop}
  (hQ:∀h',h'.Ns s.heap.objs.size (fun _=>none)->(∀b o,s.heap.get? b=some o->h'.get? b=some o)->(∀x c,(dj (s.heap.objs.size+1) scope.names closure).lookup x=some c->h'.IsCell c none\/closure.lookup x=some c)->
   Q { scope,locals:=s.heap.objs.size,globals:=env.globals,cells:=dj (s.heap.objs.size+1) scope.names closure,qual:=env.qual,func:=none,code:=env.code,frame:=env.frame,builtins:=env.builtins } { s with heap:=h' }) :
  aq M A (rJ scope env.globals closure [] env.qual none .none (some env)) Q E s:=by
 simp only[rJ,uJ,if_true];refine aa (Dh ?_);refine aa (wpAny_layCells _ (fun name kind cells=>by cases hkc:kind==cg<;>simp[hkc]) _ _ _ _ ?_);have hc:=wj scope.names (s.heap.push { cls:=.type "dict",data:=.dict #[] }) closure;rw[dG]at hc;rw[show({ s with heap:=s.heap.push { cls:=.type "dict",data:=.dict #[] } }:ah).heap.objs.size=s.heap.objs.size+1 from dG ..];rw[ku];exact aa (aD (aD (hQ _ ((QS s.heap (.type "dict")).keeps (qy _ _)) (fun b o e=>qy _ _ b o (aj _ e)) hc)))
noncomputable def ee(X:Cx)(N:List Str)(scope:eU)(C:Addr)(Tz:ah)(T6:Hp)(ex:List Addr):Cx where
 prog:=X.prog
 w:=X.w
 K:=X.K
 mg:=X.mg
 base:=X.base
 A:=X.A
 N:=N
 Tz:=Tz
 T6:=T6
 env:=compEnvC scope (dj (C+1) scope.names (mT X.env.cells scope.names [])) C X.env
 outer:=X.stack
 stack:=X.stack
 ex:=ex
 fn:=fun x=>scope.names.lookup x==some .cell
 calm:=X.calm
 pn:=[]
 xe:=fun _ _=>False
def eS(X:Cx):Prop:=∃e oe vs,X.A.handled=some (.ref e)/\X.Tz.heap.get? e=some oe/\oe.data=.fields vs/\vs[2]?=some .none/\X.T6 e=none/\e∉X.fs/\e∉X.ex
def By(X:Cx)(ifs:List Expr)(t:TT):Prop:=
 ∀(pins:List (Addr×Obj)) (s:ah) (O:L2.St) (H:Hp) (Q:Bool->Hp->Prop),L2.Inv X pins O H s->t O H Q->
  aq (az X.prog X.w) X.A (forIn ifs true fun c r=>if r=true then do let ok <-pH c X.env (eval c X.env);pure (iJ ok)else pure (iJ r)) (TP X pins O Q) X.xe s
theorem M6:By X [] (fun _ H Q=>Q true H):=fun _ _ _ H _ I h=>wpAny_tests_nil ⟨H,I,h⟩
variable{c:Expr}
theorem M7{t:TT}(h:PT X c t):By X [c] t:=fun pins s O H Q I q=>wpAny_tests_one (h pins s O H Q I q)
variable{elt:Expr}{ifs:List Expr}
section
variable{prog:a_}{w:bC}{A:bU}{R:Ct->ah->Prop}{s:ah}
theorem GG{target:Expr}{it acc:Value}(I:Nat->ah->Prop)
  (turn:∀n s,I n s->aq (az prog w) A (gk it) (fun r TJ=>match r with
   |none=>R (.ok .next) TJ
   |some v=>aq (az prog w) A (jL target it v) (fun _ TL=>aq (az prog w) A (l8 target env v) (fun _ TY=>
     aq (az prog w) A (forIn ifs true fun c r=>if r=true then do let ok <-pH c env (eval c env);pure (iJ ok)else pure (iJ r))
      (fun ok Ua=>if ok=true then aq (az prog w) A (eval elt env) (fun x Ul=>aq (az prog w) A (call (.builtin "list.append") [acc,x]) (fun _ Um=>∃m,m<n/\I m Um) (fun _ _=>False) Ul) (fun _ _=>False) Ua
       else ∃m,m<n/\I m Ua) (fun _ _=>False) TY) (fun _ _=>False) TL) (fun _ _=>False) TJ) (fun _ _=>False) s)
  (n:Nat) (h:I n s):jc (az prog w) A (.compLoop (.ListComp elt [⟨target,iter,ifs,0⟩] scope pos) 0 it acc env) R s:=by
 refine codeAny_loop rfl I (fun n s hI=>?_) n h;show aq _ A ((compTurn (.ListComp elt [⟨target,iter,ifs,0⟩] scope pos) 0 it acc env).onRaise (fun x=>do Aj x env;theTreesLotGoes x)) _ _ s;refine wpAny_noted (wpAny_noRaise ?_);rw[compTurn_list];refine aa (ju (aa (aY (turn n s hI) fun r TJ TN=>?_)));cases r with
 |none=>exact aD TN
 |some v=>
  refine aa (aY TN fun _ TL TV=>aa (aY TV fun _ TY T4=>aa (aY T4 fun ok Ua Ud=>?_)));cases ok with
  |false=>exact aD ⟨rfl,Ud⟩
  |true=>exact aa (aa (aY Ud fun x Ul Uo=>aa (aY Uo fun _ Um Uy=>aD (aD ⟨rfl,Uy⟩))))
end
structure xE (Cm:Cx->Prop) (P:a_) (w:bC) (K:PySem.W.Frag) (tg:Expr) (J:It) (fp:List Addr) (it:Addr) (tn:Nat->Heap->Prop):Prop where
 obj:∀i h,tn i h->∀b∈fp,∃o,h.get? b=some o/\∀v,o.data≠.cell v
 keep:∀i h h',tn i h->(∀b∈fp,∀o,h.get? b=some o->h'.get? b=some o)->tn i h'
 item:∀(X:Cx),X.prog=P->X.w=w->X.K=K->Cm X->∀(i:Nat) (pins:List (Addr×Obj)) (s:ah) (O:L2.St) (H:Hp) (E:Value->ah->Prop),L2.Inv X pins O H s->(∀b∈fp,gS X pins H b)->tn i s.heap->J.go i H->
  aq (az P w) X.A (gk (.ref it)) (fun r s1=>∃u,r=some u /\
   aq (az P w) X.A (jL tg (.ref it) u) (fun _ s2=>∃x H',L2.Inv X pins O H' s2/\RelV x u/\J.yld i H x H'/\tn (i+1) s2.heap/\∀b∈fp,H' b=none) E s1) E s
 done:∀(X:Cx),X.prog=P->X.w=w->X.K=K->Cm X->∀(i:Nat) (pins:List (Addr×Obj)) (s:ah) (O:L2.St) (H:Hp) (E:Value->ah->Prop),L2.Inv X pins O H s->(∀b∈fp,gS X pins H b)->tn i s.heap->J.stop i H->
  aq (az P w) X.A (gk (.ref it)) (fun r s1=>r=none/\L2.Inv X pins O H s1) E s
 self:∀(A:bU) (i:Nat) (s:ah) (Q:Value->ah->Prop) (E:Value->ah->Prop),tn i s.heap->Q (.ref it) s->aq (az P w) A (pK (.ref it)) Q E s
variable{fp:List Addr}{it:Addr}
theorem LZ{tn:Nat->Heap->Prop}(T:Turn P w K tg J fp it tn):xE (fun X=>X.calm=true) P w K tg J fp it tn:=⟨T.obj,T.keep,T.item,T.done,T.self⟩
noncomputable abbrev mU(its:List Value)(n:Nat):Obj:={ cls:=.type "list",data:=.seq its.toArray n }
variable{Cm:Cx->Prop}
section
variable{X:Cx}{pins:List (Addr×Obj)}{O:L2.St}{H:Hp}{TL:ah}{tgt iter elt:Expr}{ifs:List Expr}{scope:eU}{pos:Pos}{N:List Str}{TF:L2.St}{it:Addr}{fp:List Addr}{tn:Nat->Heap->Prop}{J:It}
 {ok:Hp->Prop}{items:List Item}{g:TG}{cond:TT}{te:TE}{k:List V->Hp->Prop}{E:Value->ah->Prop}{RR:Value->Addr->Ct->ah->Prop}
theorem rS(hc:∀(C:Addr) (Tz:ah) (ex:List Addr),(∀b o,TL.heap.get? b=some o->Tz.heap.get? b=some o)->(∀b∈ex,TL.heap.objs.size<=b\/b∈fp)->Cm (ee X N scope C Tz H ex))(I:L2.Inv X pins O H TL)(T:xE Cm X.prog X.w X.K tgt J fp it tn)(st:tn 0 TL.heap)(hf:∀b∈fp,gS X pins H b)(hJ:ly J ok items)
  (hcell:∀y∈scope.names,y.2=.free->(y.1,cg)∉scope.names) (hkind:scope.kind=.function) (hfree:∀n,(n,bY)∈scope.names->∃c,X.env.cells.lookup n=some c) (hlen:TF.length=N.length)
  (Ub:∀(i:Nat) (x:Str) (v:V),N[i]?=some x->TF[i]?=some (some v)->(x,bY)∈scope.names/\(kB scope X.env).names.lookup x≠some .local/\∃c u,X.env.cells.lookup x=some c/\RelV v u/\TL.heap.IsCell c (some u))
  (hvis:∀x,(kB scope X.env).names.lookup x=some .cell\/(kB scope X.env).names.lookup x=some .free->(x,bY)∈scope.names\/(x,cg)∈scope.names)
  (hg:∀(C:Addr) (Tz:ah) (ex:List Addr),Cm (ee X N scope C Tz H ex)->PG (ee X N scope C Tz H ex) tgt g)
  (ht:∀(C:Addr) (Tz:ah) (ex:List Addr),Cm (ee X N scope C Tz H ex)->By (ee X N scope C Tz H ex) ifs cond)
  (he:∀(C:Addr) (Tz:ah) (ex:List Addr),Cm (ee X N scope C Tz H ex)->PE (ee X N scope C Tz H ex) elt te)
  (h:m_ ok g cond te k items [] TF H)
  (hRR:∀D C s' H2 vs,H2 D=none->k vs H2->L2.Inv X pins O (upd H2 D (.lst vs)) s'->gS X pins (upd H2 D (.lst vs)) C->(∃m,s'.heap.Ns C m)->RR (.ref D) C (.ok .next) s') :
  aq (az X.prog X.w) X.A (newList []) (fun acc TY=>aq (az X.prog X.w) X.A (rJ scope X.env.globals (mT X.env.cells scope.names []) [] X.env.qual none .none (some X.env)) (fun cenv Ua=>
   jc (az X.prog X.w) X.A (.compStart (.ListComp elt [⟨tgt,iter,ifs,0⟩] scope pos) 0 (.ref it) acc { cenv with scope:=kB scope X.env }) (RR acc cenv.locals) Ua) E TY) E TL:=by
 refine gD (JH fun TN Ue Ug Uh=>?_);dsimp only at Ue Ug Uh ⊢;generalize Uc:({ TL with heap:=TL.heap.push { cls:=.type "list",dict:=none,data:=.seq ([]:List Value).toArray } }:ah)=Tz at Ue Ug Uh ⊢;have Ui:Tz.heap=TL.heap.push { cls:=.type "list",dict:=none,data:=.seq ([]:List Value).toArray }:=by rw[<-Uc]
 have hH2:TL.heap.push { cls:=.type "list",dict:=none,data:=.seq ([]:List Value).toArray }=Tz.heap:=Ui.symm;have eos:Tz.os=TL.os:=by rw[<-Uc]
 have egn:Tz.gens=TL.gens:=by rw[<-Uc]
 have etk:Tz.toks=TL.toks:=by rw[<-Uc]
 rw[hH2]at Ue Ug Uh ⊢;have hsz:Tz.heap.objs.size=TL.heap.objs.size+1:=by rw[Ui,dG]
 generalize hD:TL.heap.objs.size=D at *;generalize hC:Tz.heap.objs.size=C at *;have hDC:D≠C:=by rw[hsz];exact be (lG _)
 have up:∀b o,TL.heap.get? b=some o->Tz.heap.get? b=some o:=fun b o e=>by rw[Ui];exact aj _ e
 have lt2:∀b o,TL.heap.get? b=some o->b<D:=fun b o e=>by rw[<-hD];exact au e
 have up1:∀b o,Tz.heap.get? b=some o->TN.get? b=some o:=Ug;have Uz:Tz.heap.get? D=some (mU [] 0):=by rw[Ui,<-hD];exact aO _ rfl
 have fpD:∀b∈fp,b<D:=fun b hb=>by obtain⟨o,e,_⟩:=T.obj 0 _ st b hb;exact lt2 b o e
 have cellD:∀x c,X.env.cells.lookup x=some c->c<D:=fun x c e=>by obtain⟨v,q⟩:=I.cell x c e;obtain⟨o,ho,_⟩:=q;exact lt2 c o ho
 have DltC:D<C:=by rw[hsz];exact lG _
 have fpC:∀b∈fp,b≠C:=fun b hb=>be (j3 (fpD b hb) DltC);have fpnD:∀b∈fp,b≠D:=fun b hb=>be (fpD b hb);have freshH:∀b,D<=b->H b=none:=fun b hb=>I.hok.fresh (by rw[hD];exact hb)
 let ex:=D::fp
 let X':=ee X N scope C Tz H ex
 have hcm:Cm X':=hc C Tz ex up fun b hb=>(aQ.mp hb).elim (fun z=>.inl (l_ z.symm)) .inr;have clsub0:∀x c,(mT X.env.cells scope.names []).lookup x=some c->X.env.cells.lookup x=some c:=rQ _ _ (fun x c e=>by simp at e);have clsub:∀x c,X'.env.cells.lookup x=some c->C<c\/X.env.cells.lookup x=some c:=fun x c e=>by
  rcases rR _ _ _ _ _ e with⟨q,_⟩|⟨_,q⟩
  ·exact .inl q
  ·exact .inr (clsub0 x c q)
 have neD:∀x c,X'.env.cells.lookup x=some c->c≠D:=fun x c e z=>by
  rcases clsub x c e with q|q
  ·rw[z]at q;exact cV _ (j3 q DltC)
  ·exact be (cellD x c q) z
 have neF:∀x c,X'.env.cells.lookup x=some c->∀b∈fp,c≠b:=fun x c e b hb z=>by
  rcases clsub x c e with q|q
  ·rw[z]at q;exact cV _ (j3 (j3 q (fpD b hb)) DltC)
  ·exact(hf b hb).2.2.2.2.1 x c q z
 have stkD:∀b∈frs X.stack,b<D:=fun b hb=>by
  rcases aQ.mp (I.nt b hb)with e|hb
  ·rw[e,<-hD];exact I.lt
  ·obtain⟨_,o,ho,_⟩:=I.kG.mem hb;exact lt2 b o ho
 have ok':X'.Ok:=by
  refine⟨I.ok.mod,?_,I.ok.glob,I.ok.blt,l_ hC,yC _ _ _ (fun x c e=>oh (j3 (cellD x c (clsub0 x c e)) DltC)) fun x y c h1 h2=>I.ok.inj x y c (clsub0 x c h1) (clsub0 y c h2),fun x hx=>?_,fun x c hx=>?_,I.ok.hd,I.ok.frames,.inl rfl,fun b hb=>?_,fun b o e=>?_,?_,fun b o e hb=>?_,fun b hb z=>?_,?_,I.uQ⟩
  ·exact hkind
  ·refine yz _ _ _ x ?_;rcases hvis x hx with q|q
   ·obtain⟨c,hc'⟩:=hfree x q;exact .inr (o4 _ _ x (.inr ⟨q,c,hc'⟩))
   ·exact .inl q
  ·intro hx2;have hm:(x,cg)∈scope.names:=PySem.mem_of_lookup (by simpa using(show(scope.names.lookup x==some .cell)=true from hx));rcases rR _ _ _ _ _ hx2 with⟨q,_⟩|⟨q,_⟩
   ·show Tz.heap.objs.size<=c;rw[hC];exact gY q
   ·exact absurd hm q
  ·rcases aQ.mp hb with e|hb
   ·subst e;exact⟨hDC,neD⟩
   ·refine⟨?_,fun x c e=>neF x c e b hb⟩;exact fpC b hb
  ·exact⟨up b o (I.bs b o e).1,(I.bs b o e).2⟩
  ·show X.base.objs.size<=Tz.heap.objs.size;refine c9 (c9 I.ok.bsz I.sz) ?_;rw[hD,hC];exact gY DltC
  ·have hbD:b<D:=lt2 b o (I.bk b o e);rcases aQ.mp hb with q|hb
   ·exact be hbD q
   ·rcases(hf b hb).2.2.2.1 with q|q
    ·exact I.ok.noex b o e q
    ·have h1:=au (I.ok.bs b o e).1;exact absurd (bw h1 q) (cV _)
  ·rcases aQ.mp hb with q|hb
   ·exact be (stkD b z) q
   ·obtain⟨_,f1,f2,_⟩:=hf b hb;rcases aQ.mp (I.nt b z)with q|q
    ·exact f1 q
    ·exact f2 q
  ·have hfr:=I.stack;have keepF:∀l:List Env,TL.heap.FunFrames X.base l->Tz.heap.FunFrames X.base l:=by
    intro l;induction l with
    |nil=>intro _;trivial
    |cons env r ih=>
     intro hl;obtain⟨hk,⟨Tu,o,hf',hn,ho,hd⟩,hr⟩:=hl;exact⟨hk,⟨Tu,o,hf',hn,up Tu o ho,hd⟩,ih hr⟩
   exact keepF _ hfr
 have fpok:∀(H':Hp) (its:List Value) (n:Nat),(∀b∈fp,H' b=none)->∀b∈fp,gS X' [(D,mU its n)] H' b:=fun H' its n hn b hb=>by
  refine⟨hn b hb,?_,?_,.inl (ao _ hb),fun x c e=>neF x c e b hb,fun p hp=>?_⟩
  ·exact fpC b hb
  ·intro z;obtain⟨_,f1,f2,_⟩:=hf b hb;rcases aQ.mp (I.nt b z)with q|q
   ·exact f1 q
   ·exact f2 q
  ·have hp:p∈[(D,mU its n)]:=hp;have e:p=(D,mU its n):=by simpa using hp
   subst e;exact cP (fpnD b hb)
 have pinD:∀(s:ah) (H':Hp) (its:List Value) (n:Nat),s.heap.get? D=some (mU its n)->H' D=none->∀p∈[(D,mU its n)],s.heap.get? p.1=some p.2/\H' p.1=none/\p.1≠X'.env.locals/\p.1∉X'.fs/\∀v,p.2.data≠.cell v:=by
  intro s H' its n e hn p hp;have q:p=(D,mU its n):=by simpa using hp
  subst q;refine⟨e,hn,hDC,fun z=>?_,fun v z=>nomatch z⟩;exact cV _ (stkD D z)
 let Iv:Nat->ah->Prop:=fun n s=>∃(i:Nat) (acc:List V) (its:List Value) (m:Nat) (TU:L2.St) (H1:Hp),n=items.length+1-i/\i<=items.length/\L2.Inv X' [(D,mU its m)] TU H1 s/\tn i s.heap/\(∀b∈fp,H1 b=none)/\bh acc its/\acc.length<=ai /\
  m_ ok g cond te k (items.drop i) acc TU H1
 have start:∀tk,L2.Inv X' [(D,mU [] 0)] TF H { Tz with heap:=TN,toks:=tk }:=fun tk=>by
  refine⟨ok',rfl,by show jy Tz.gens;rw[egn];exact I.bare,Un.kept up1,⟨_,Ue,fun i x v h1 h2 h3=>?_⟩,fun x c e=>?_,freshH C (gY DltC),fun x c e=>?_,fun p hp=>?_,?_,hlen⟩
  ·obtain⟨hx,hnl,c,u,hcu,ru,cellu⟩:=Ub i x v h1 h2;refine⟨u,ru,.inr ⟨?_,?_⟩⟩
   ·rcases h3 with q|q|q
    ·exact absurd q hnl
    ·exact .inl q
    ·exact .inr q
   ·obtain⟨c',hc'⟩:=o4 (cells:=X.env.cells) scope.names [] x (.inr ⟨hx,c,hcu⟩);have e1:=clsub0 x c' hc';rw[hcu]at e1;cases e1;obtain⟨o,ho,hd⟩:=cellu;exact⟨c,(wg _ _ _ x (hcell _ hx rfl)).trans hc',o,up1 _ _ (up _ _ ho),hd⟩
  ·rcases Uh x c e with q|q
   ·exact⟨none,q⟩
   ·obtain⟨v,o,ho,hd⟩:=I.cell x c (clsub0 x c q);exact⟨v,o,up1 _ _ (up _ _ ho),hd⟩
  ·rcases clsub x c e with q|q
   ·exact freshH c (gY (j3 DltC q))
   ·exact I.freeC x c q
  ·exact pinD { Tz with heap:=TN,toks:=tk } H [] 0 (up1 _ _ Uz) (freshH D (aT _)) p hp
  ·have hk:d9 X.prog X.w H TN:=I.hok.kept fun b u e=>up1 b u (up b u e);exact hk
 have loop:∀tk,jc (az X.prog X.w) X.A (.compLoop (.ListComp elt [⟨tgt,iter,ifs,0⟩] scope pos) 0 (.ref it) (.ref D) X'.env) (RR (.ref D) C) { Tz with heap:=TN,toks:=tk }:=fun tk=>by
  refine GG Iv ?_ (items.length+1) ⟨0,[],[],0,TF,H,rfl,gO _,start tk,T.keep 0 _ _ st fun b hb o e=>up1 b o (up b o e),fun b hb=>(hf b hb).1,.nil,gO _,by simpa using h⟩;rintro n s ⟨i,acc,its,m,TU,H1,rfl,hi,J1,st1,fr1,rv,hz,q⟩;by_cases hlt:i<items.length
  ·rw[jN hlt]at q;obtain⟨hok,hz1,q⟩:=q;have ei:items[i]?=some items[i]:=ak hlt;refine aY (T.item X' rfl rfl rfl hcm i _ s TU H1 _ J1 (fpok H1 its m fr1) st1 (hJ.go i H1 _ hok ei)) fun r s4 ⟨u,hr,h4⟩=>?_;subst hr;refine aY h4 fun _ s5 ⟨x,H5,I5,r5,y5,st5,fr5⟩=>?_;have I5':=I5.pinned (fpok H5 its m fr5) (T.obj _ _ st5);refine aY (hg C Tz ex hcm _ s5 TU H5 x u _ I5' r5 (hJ.yld i H1 _ x H5 hok ei y5 _ q)) fun _ s6 ⟨T3,H6,I6,q6⟩=>?_;refine aY (ht C Tz ex hcm _ s6 T3 H6 _ I6 q6) fun b s7 ⟨H7,I7,q7⟩=>?_;have keepT:∀{Up:L2.St}{H8:Hp}{s8:ah},L2.Inv X' ([(D,mU its m)]++tG fp s5.heap) Up H8 s8->tn (i+1) s8.heap/\(∀b∈fp,H8 b=none):=fun{Up H8 s8} I8=>by
    refine⟨T.keep _ _ _ st5 fun b hb o e=>(I8.pin (b,o) (aA _ (aA _ (oi hb e)))).1,fun b hb=>?_⟩;obtain⟨o,e,_⟩:=T.obj _ _ st5 b hb;exact(I8.pin (b,o) (aA _ (aA _ (oi hb e)))).2.1
   cases b with
   |false=>
    have q7:=(if_neg aE)▸q7;obtain⟨t1,t2⟩:=keepT I7;exact⟨items.length+1-(i+1),by omega,i+1,acc,its,m,T3,H7,rfl,hlt,I7.rM,t1,t2,rv,hz,by simpa using q7⟩
   |true=>
    have q7:te T3 H7 (fun y H4=>m_ ok g cond te k (items.drop (i+1)) (acc++[y]) T3 H4):=by simpa using q7
    refine aY (he C Tz ex hcm _ s7 T3 H7 _ I7 q7) fun yv s8 ⟨y,H8,I8,r8,q8⟩=>?_;obtain⟨t1,t2⟩:=keepT I8;have hD8:=I8.pin (D,mU its m) (aA _ (aM _ (bR.mpr rfl)));obtain⟨e8,n8,_⟩:=hD8;have hl:=rv.length;refine oE F.slot_list_append ⟨_,e8,rfl⟩ F.entry_list_append (F.args_list_append_2 _ _) (PySem.list_append D its.toArray m yv (by rw[aL];omega)) ⟨e8,?_⟩;have I9:L2.Inv X' [] T3 H8 s8:=I8.uR fun p hp=>nomatch hp
    have kk:∀b o,b≠D->s8.heap.get? b=some o->(s8.heap.update D (eK fun x=>x.push yv)).get? b=some o:=fun b o hb e=>(dh _ _ (cP hb)).trans e;have I10:L2.Inv X' [] T3 H8 { s8 with heap:=s8.heap.update D (eK fun x=>x.push yv),toks:=s8.toks }:=
     I9.turned kk n8 hDC (.inl aG) neD (fun p hp=>nomatch hp)
    have e9:=PySem.IsL.update e8 (fun x=>x.push yv);rw[List.push_toArray]at e9;obtain⟨m',e10⟩:∃m',({ s8 with heap:=s8.heap.update D (eK fun x=>x.push yv),toks:=s8.toks }:ah).heap.get? D=some (mU (its++[yv]) m'):=⟨_,e9⟩;refine⟨items.length+1-(i+1),by omega,i+1,acc++[y],its++[yv],m',T3,H8,rfl,hlt,I10.uR (pinD _ H8 _ m' e10 n8),?_,t2,rv.append (.cons r8 .nil),by rw[aR,dF];omega,q8⟩;exact T.keep _ _ _ t1 fun b hb o e=>kk b o (fpnD b hb) e
  ·rw[qR (by omega)]at q;obtain⟨hok,q⟩:=q;refine aY (T.done X' rfl rfl rfl hcm i _ s TU H1 _ J1 (fpok H1 its m fr1) st1 (hJ.stop i H1 hok (by omega))) fun r s4 ⟨hr,I4⟩=>?_;subst hr;obtain⟨e4,n4,_⟩:=I4.pin (D,mU its m) (aA _ (bR.mpr rfl));obtain⟨mC,hnC,_⟩:=I4.loc;have hCn:H1 C=none:=I4.free;have exD:∀b,b<D->b∉fp->b∉X'.ex:=fun b hb hn z=>by
    rcases aQ.mp z with q|q
    ·exact be hb q
    ·exact hn q
   have hok':d9 X.prog X.w (upd H1 D (.lst acc)) s4.heap:=GF I4.hok n4 ⟨hz,its,m,rv,e4⟩;have hU:Un (frs X.stack) fp H (upd H1 D (.lst acc)) TL.heap s4.heap:=by
    have b4:=I4.base;refine⟨fun b o e n hb hx=>?_,fun b o e n hb hx=>?_,fun b o e n hx=>?_,fun b o e hx=>?_,fun b xs e=>?_,fun b o u e=>?_,fun b ps e=>?_⟩
    ·exact b4.keep b o (up b o e) n hb (exD b (lt2 b o e) hx)
    ·exact b4.slot b o (up b o e) n hb (exD b (lt2 b o e) hx)
    ·rw[aK (be (lt2 b o e))];exact b4.free b o (up b o e) n (exD b (lt2 b o e) hx)
    ·exact b4.there b o (up b o e) (exD b (lt2 b o e) hx)
    ·have z:=b4.tups b xs e;rw[aK (bQ z n4)];exact z
    ·have z:=b4.aB b o u e;rw[aK (bQ z n4)];exact z
    ·obtain⟨more,z⟩:=b4.tbls b ps e;exact⟨more,by rw[aK (bQ z n4)];exact z⟩
   have I5:L2.Inv X pins O (upd H1 D (.lst acc)) s4:=I.call' (ch:=fp) (I4.os.trans eos) hU hok' I4.bare fun b hb=>by
    obtain⟨f0,f1,f2,f3,f4,f5⟩:=hf b hb;exact⟨f3,f1,f4,f5⟩
   refine hRR D C s4 H1 acc n4 q I5 ?_ ⟨mC,hnC⟩;have hle:TL.heap.objs.size<=C:=by rw[hD];exact gY DltC
   have z:=I.k9 (H':=upd H1 D (.lst acc)) (b:=C) hle (by rw[aK (cP hDC)];exact hCn);exact z
 subst Uc;exact codeAny_compStart_list (loop _) (T.self _ 0 _ _ _ (T.keep 0 _ _ st fun b hb o e=>up1 b o (up b o e)) (loop _))
end
noncomputable def fm(N nl:List Str)(fr:List Nat):List Str:=nl++fr.map fun i=>N.getD i Ah
noncomputable def p7(nl:List Str)(fr:List Nat)(O:L2.St):L2.St:=nl.map (fun _=>none)++fr.map fun i=>O.getD i none
structure o5 (sc:eU) (N:List Str) (scope:eU) (nl:List Str) (fr:List Nat):Prop where
 kind:scope.kind=.function
 cell:∀y∈scope.names,y.2=.free->(y.1,cg)∉scope.names
 names:∀x∈scope.names,x.2=.local->scope.names.lookup x.1=some .local
 free:∀n,(n,bY)∈scope.names->sc.names.lookup n=some .cell\/sc.names.lookup n=some .free
 fr:∀i∈fr,∃x,N[i]?=some x/\scope.names.lookup x=some .free
theorem o6(x:Str)(h:(kB scope env).names.lookup x=some .cell\/(kB scope env).names.lookup x=some .free):(x,bY)∈scope.names\/(x,cg)∈scope.names:=by
 have key:∃k,(x,k)∈(kB scope env).names/\(k=.cell\/k=.free):=by
  rcases h with h|h
  ·exact⟨_,PySem.mem_of_lookup h,.inl rfl⟩
  ·exact⟨_,PySem.mem_of_lookup h,.inr rfl⟩
 obtain⟨k,hm,hk⟩:=key;unfold kB at hm;simp only[fP]at hm;obtain⟨⟨n,k0⟩,h0,e⟩:=hm;simp only at e;split at e
 ·rename_i hc;have:k0=.free:=by
   simp only[bx,beq_iff_eq]at hc;exact hc.1.1
  subst this;cases e;exact .inl h0
 ·cases e;rcases hk with rfl|rfl
  ·exact .inr h0
  ·exact .inl h0
theorem tX{env:Env}:∀{names:List (Str×g9)}{x:Str},names.lookup x=some .free->
 (names.map fun(n,k)=>if(k==bY&&env.scope.kind==.function&&env.kindOf n==some .cell)then(n,cg)else(n,k)).lookup x≠some .local
|[],_,h=>by simp at h
|(n,k)::r,x,h=>by
 have ih:=@tX env r x;show iR x ((if(k==bY&&env.scope.kind==.function&&env.kindOf n==some .cell)=true then(n,cg)else(n,k))::_)≠_;cases hx:x==n with
 |true=>
  simp only[b_,hx]at h;cases h;by_cases hc:(bY==bY&&env.scope.kind==.function&&env.kindOf n==some .cell)=true
  ·rw[if_pos hc];simp only[b_,hx];decide
  ·rw[if_neg hc];simp only[b_,hx];decide
 |false=>
  simp only[b_,hx]at h;by_cases hc:(k==bY&&env.scope.kind==.function&&env.kindOf n==some .cell)=true
  ·rw[if_pos hc];simp only[b_,hx];exact ih h
  ·rw[if_neg hc];simp only[b_,hx];exact ih h
variable{i:Nat}{y:Str}{py:Pos}
section
variable{X:Cx}{tgt iter elt:Expr}{ifs:List Expr}{scope:eU}{pos:Pos}{nl:List Str}{fr:List Nat}{wi:Gw}{g:TG}{cond:TT}{te:TE}
theorem rT(S:o5 X.env.scope X.N scope nl fr)(I:L2.Inv X pins O H s)(i:Nat)(x:Str)(v:V)(h1:(fm X.N nl fr)[i]?=some x)(h2:(p7 nl fr O)[i]?=some (some v)) :
  (x,bY)∈scope.names/\(kB scope X.env).names.lookup x≠some .local/\∃c u,X.env.cells.lookup x=some c/\RelV v u/\s.heap.IsCell c (some u):=by
 unfold fm at h1;unfold p7 at h2;by_cases hi:i<nl.length
 ·rw[bW (by simpa using hi),aU,ak hi]at h2;cases h2
 ·rw[cG (by omega)]at h1;rw[cG (by simp;omega)]at h2;rw[aU]at h1 h2;rw[aC]at h2;cases e:fr[i-nl.length]? with
  |none=>rw[e]at h1;cases h1
  |some j=>
   rw[e]at h1 h2;have h1:X.N.getD j Ah=x:=cC h1;have h2:O.getD j none=some v:=cC h2;obtain⟨y,hy,hf⟩:=S.fr j (eG e);have exy:y=x:=by
    rw[<-h1];simp[hy]
   subst exy;have Ub:O[j]?=some (some v):=by
    cases q:O[j]? with
    |none=>simp[q]at h2
    |some o=>
     simp[q]at h2;rw[h2]
   have hm:=PySem.mem_of_lookup hf;refine⟨hm,tX hf,?_⟩;obtain⟨m,hn,hl⟩:=I.loc;have hk:=S.free y hm;obtain⟨u,ru,l⟩:=hl j y v hy Ub (by rcases hk with q|q;exact .inr (.inl q);exact .inr (.inr q));rcases l with⟨l,_⟩|⟨_,c,hc,hcell⟩
   ·exfalso;have l:X.env.scope.names.lookup y=some .local:=l;rcases hk with q|q<;>rw[q]at l<;>cases l
   ·exact⟨c,u,hc,ru,hcell⟩
theorem lJ(S:o5 X.env.scope X.N scope nl fr)(I:L2.Inv X pins O H s):∀n,(n,bY)∈scope.names->∃c,X.env.cells.lookup n=some c:=fun n hn=>I.ok.has n (S.free n hn)
theorem M8(hc:X.calm=true)(S:o5 X.env.scope X.N scope nl fr)(hi:zE X tgt iter wi)(hs:∀x,gz iter X.env x=pure x)
  (hg:∀(C:Addr) (Tz:ah) (H:Hp) (ex:List Addr),PG (ee X (fm X.N nl fr) scope C Tz H ex) tgt g)
  (ht:∀(C:Addr) (Tz:ah) (H:Hp) (ex:List Addr),By (ee X (fm X.N nl fr) scope C Tz H ex) ifs cond)
  (he:∀(C:Addr) (Tz:ah) (H:Hp) (ex:List Addr),PE (ee X (fm X.N nl fr) scope C Tz H ex) elt te) :
  PE X (.ListComp elt [⟨tgt,iter,ifs,0⟩] scope pos) (fun O H Q=>wi O H fun ok items H1=>m_ ok g cond te (fun vs H2=>∀p,H2 p=none->Q (.ref p) (upd H2 p (.lst vs))) items [] (p7 nl fr O) H1):=by
 intro pins s O H Q I h;rw[AE];refine j4 (use:=none) rfl hs (nK (lJ S I)) S.kind S.names (aY (hi pins s O H _ I h) fun v TJ TN=>aY TN fun itv TL TV=>?_);obtain⟨it,fp,tn,J,H2,e,I2,T,st,hf,ok,items,hJ,hk⟩:=TV;subst e;refine rS (RR:=fun acc C=>CK (az X.prog X.w) X.A X.xe none (EP X pins O Q) acc C) (fun _ _ _ _ _=>hc) I2 (LZ T) st hf hJ S.cell S.kind (lJ S I2) ?_ (rT S I2) o6
  (fun C Tz ex _=>hg C Tz H2 ex) (fun C Tz ex _=>ht C Tz H2 ex) (fun C Tz ex _=>he C Tz H2 ex) hk fun D C s' H3 vs hD q I3 f3 hn=>?_
 ·unfold p7 fm;simp
 ·obtain⟨m,hn⟩:=hn;obtain⟨f0,f1,f2,f3,f4,f5⟩:=f3;refine⟨m,hn,fun h' hsb=>⟨.ref D,_,I3.turned (t':=s'.toks) (fun b o hb e=>hsb.extBut b o hb e) f0 f1 f3 f4 f5,rfl,q D hD⟩⟩
theorem M9{spos:Pos}(hc:X.calm=true)(hN:X.N.Nodup)(hiy:X.N[i]?=some y)(hy:X.env.scope.names.lookup y=some .local)(S:o5 X.env.scope X.N scope nl fr)(hi:zE X tgt iter wi)(hs:∀x,gz iter X.env x=pure x)
  (hsw:lP (.ListComp elt [⟨tgt,iter,ifs,0⟩] scope pos) (some (.Name y py)) spos.line X.env=pure true)
  (hg:∀(C:Addr) (Tz:ah) (H:Hp) (ex:List Addr),PG (ee X (fm X.N nl fr) scope C Tz H ex) tgt g)
  (ht:∀(C:Addr) (Tz:ah) (H:Hp) (ex:List Addr),By (ee X (fm X.N nl fr) scope C Tz H ex) ifs cond)
  (he:∀(C:Addr) (Tz:ah) (H:Hp) (ex:List Addr),PE (ee X (fm X.N nl fr) scope C Tz H ex) elt te) :
  PS X (.Assign [.Name y py] (.ListComp elt [⟨tgt,iter,ifs,0⟩] scope pos) spos) (fun D O H=>wi O H fun ok items H1=>m_ ok g cond te (fun vs H2=>∀p,H2 p=none->D.nx (O.set i (some (.ref p))) (upd H2 p (.lst vs))) items [] (p7 nl fr O) H1):=by
 intro pins s O H D I h;rw[PySem.exec_Assign_Name_used _ _ _ _ hsw];refine aa (ju (aa ?_));show aq _ X.A (do let _ <-comprehension (.ListComp elt [⟨tgt,iter,ifs,0⟩] scope pos) scope X.env _ (newList []) false (eval iter X.env) (some (l8 (.Name y py) X.env))) _ _ s;refine aa (cj (j4 (use:=some (l8 (.Name y py) X.env)) (Q:=fun _ s'=>SP X pins D .next s') rfl hs (nK (lJ S I)) S.kind S.names
  (aY (hi pins s O H _ I h) fun v TJ TN=>aY TN fun itv TL TV=>?_)) (fun _ s' hq=>aD (aD hq)) fun _ _ e=>e)
 obtain⟨it,fp,tn,J,H2,e,I2,T,st,hf,ok,items,hJ,hk⟩:=TV;subst e;refine rS (RR:=fun acc C=>CK (az X.prog X.w) X.A X.xe (some (l8 (.Name y py) X.env)) (fun _ s'=>SP X pins D .next s') acc C) (fun _ _ _ _ _=>hc) I2 (LZ T) st hf hJ S.cell S.kind (lJ S I2) ?_ (rT S I2) o6
  (fun C Tz ex _=>hg C Tz H2 ex) (fun C Tz ex _=>ht C Tz H2 ex) (fun C Tz ex _=>he C Tz H2 ex) hk fun DD C s' H3 vs hD q I3 f3 hn=>?_
 ·unfold p7 fm;simp
 ·obtain⟨m,hn⟩:=hn;obtain⟨f0,f1,f2,f3,f4,f5⟩:=f3;refine vg (zg (v:=.ref DD) (u:=.ref DD) I3 hN hiy (.inl hy) rfl (fun s'' I4 hsame=>?_) (.inr hy));obtain⟨a,hs',ha⟩:=hsame;have hCa:C≠a:=by
   rcases ha with q|q
   ·rw[q];exact f1
   ·exact fun z=>f4 y a q z.symm
  refine⟨m,hn.sameBut hs' hCa,fun h' hsb=>⟨_,_,I4.turned (t':=s''.toks) (fun b o hb e=>hsb.extBut b o hb e) f0 f1 f3 f4 f5,q DD hD⟩⟩
end
structure Tab where
 N:List Str
 sc:eU
 gl:List Str
 bn:List Str
 own:Str->Bool
 calm:Bool
 semi:Bool
noncomputable def EM(sc:eU)(x:Str):Bool:=match sc.names.lookup x with
|some .local=>true
|some .cell=>true
|some .free=>true
|_=>false
noncomputable def JI(T:Tab)(x:Str):Bool:=match T.sc.names.lookup x with
|some .local=>true
|some .cell=>T.own x
|_=>false
noncomputable def lU(sc:eU)(x:Str):Bool:=decide (sc.names.lookup x=some .globalImplicit)
noncomputable def noStar:Expr->Bool
|.Starred ..=>false
|_=>true
noncomputable def br(es:List Expr):Bool:=es.all noStar
noncomputable def rV:Expr->Bool
|.Call (.Name id _) [] [] _=>!(id==("super":Str))
|_=>true
noncomputable def rW:Expr->Bool
|.Slice ..=>false
|_=>true
noncomputable def BA:Expr->Bool
|.Set ..=>false
|_=>true
noncomputable def mV:Expr->Bool
|.ListComp ..=>false
|.SetComp ..=>false
|.DictComp ..=>false
|_=>true
noncomputable def notTuple:Expr->Bool
|.Tuple ..=>false
|.List ..=>false
|_=>true
noncomputable def Pe:V->Const->Bool
|.int i,.int j=>decide (i=j)
|.bl a,.bool b=>decide (a=b)
|.str a,.str b=>decide (a=b)
|.non,.none=>true
|_,_=>false
noncomputable def zF(scope sc:eU):eU:=
 { scope with names:=scope.names.map fun(n,k)=>if(k==.free&&sc.kind==.function&&sc.names.lookup n==some .cell)then(n,.cell)else(n,k) }
noncomputable def AN(T:Tab)(scope:eU)(nl:List Str)(fr:List Nat):Tab:={ N:=fm T.N nl fr,sc:=zF scope T.sc,gl:=T.gl,bn:=T.bn,own:=(fun x=>scope.names.lookup x==some .cell),calm:=T.calm,semi:=T.semi }
noncomputable def oK(sc:eU)(N:List Str)(scope:eU)(nl:List Str)(fr:List Nat):Bool:=
 decide (scope.kind=.function)&&scope.names.all (fun y=>decide (y.2=.free->(y.1,cg)∉scope.names))&&scope.names.all (fun x=>decide (x.2=.local->scope.names.lookup x.1=some .local))
 && scope.names.all (fun x=>decide (x.2=.free->sc.names.lookup x.1=some .cell\/sc.names.lookup x.1=some .free))&&fr.all (fun i=>match N[i]? with|some x=>decide (scope.names.lookup x=some .free)|none=>false)
 && decide (fm N nl fr).Nodup
noncomputable def EN:CI->Expr->Bool
|.enum _,e=>match e with
 |.Tuple ..=>true
 |_=>false
|.zip _,e=>match e with
 |.Tuple ..=>true
 |_=>false
|_,_=>true
noncomputable def EO(sc:eU):Expr->Bool
|.Name y _=>!decide (sc.names.lookup y=some .local)
|_=>true
noncomputable def AO(sc scope:eU)(t:Str)(pos vpos:Pos):Bool:=decide (sc.names.lookup t=some .local)&&decide (pos.line=vpos.line)&&!(scope.names.any fun(n,k)=>n==t&&(k==.local||k==.cell))
noncomputable def om(T:Tab)(g:Nat):Expr->Bool
|.Name y _=>decide (T.gl[g]?=some y)&&lU T.sc y&&!(y==("__debug__":Str))
|_=>false
noncomputable def nc(T:Tab):List Nat->List Expr->Bool
|[],es=>es.isEmpty
|g::gs,es=>match es with
 |e::er=>om T g e&&nc T gs er
 |_=>false
noncomputable def ER(T:Tab)(one:Bool)(gs:List Nat)(e:Expr):Bool:=match one with
|true=>match gs with
 |[g]=>om T g e
 |_=>false
|false=>match e with
 |.Tuple es _ _=>br es&&nc T gs es
 |_=>false
noncomputable def fI(k:Nat):Expr->Bool
|.Call f _ _ _=>f.ctorIdx==k
|_=>false
noncomputable def aI:Expr->Bool
|.Call _ [_,c] _ _=>c.ctorIdx==23
|_=>false
noncomputable def uI:Expr->Bool
|.Subscript _ r _=>r.ctorIdx==26
|_=>false
noncomputable def cI2:Stmt->Bool
|.Assign (t::_) e _=>t.ctorIdx==23&&e.ctorIdx==8
|_=>false
noncomputable def rI:Stmt->Bool
|.Raise (some e) _ _=>e.ctorIdx==16&&fI 23 e
|_=>false
noncomputable def tI:Stmt->Bool
|.Try _ (.ExceptHandler (some a) _ _ _::_) _ _ _=>a.ctorIdx==23
|_=>false
noncomputable def bI1:List Stmt->Bool
|s::_=>s.ctorIdx==24&&match s with
 |.Expr e _=>e.ctorIdx==16&&fI 23 e
 |_=>false
|_=>false
noncomputable def bI2:List Stmt->Bool
|s::_=>s.ctorIdx==12
|_=>false
noncomputable def Rp:List (Str×Int)->List (Option Expr)->List Expr->Bool
|[],ks,vs=>ks.isEmpty&&vs.isEmpty
|p::r,ks,vs=>match ks,vs with
 |some (.Constant (.str x) _ _)::ks,.Constant (.int i) _ _::vs=>decide (x=p.1/\i=p.2)&&Rp r ks vs
 |_,_=>false
noncomputable def SH(T:Tab)(c:Expr):Bool:=c.ctorIdx==25&&match c with
|.Tuple [.Name y _,.Name z _] _ _=>decide (y=("list":Str))&&lU T.sc y&&T.bn.contains y&&decide (z=("tuple":Str))&&lU T.sc z&&T.bn.contains z
|_=>false
noncomputable def Rq(T:Tab):List (Str×Nat)->List Expr->Bool
|[],es=>es.isEmpty
|p::r,es=>match es with
 |.Constant (.str x) _ _::.FormattedValue (.Name y _) c none _::es=>decide (x=p.1)&&decide (c=-1)&&decide (T.N[p.2]?=some y)&&EM T.sc y&&!(y==("__debug__":Str))&&!(y==("__classdict__":Str))&&Rq T r es
 |_=>false
noncomputable def L4:CI->Bool
|.zip _=>true
|_=>false
noncomputable def L5:Bf->Bool
|.all=>true
|.len=>true
|_=>false
mutual
noncomputable def cR(T:Tab):CE->Expr->Bool
|.var i,e=>e.ctorIdx==23&&match e with
 |.Name x _=>decide (T.N[i]?=some x)&&EM T.sc x&&!(x==("__debug__":Str))&&!(x==("__classdict__":Str))
 |_=>false
|.con v,e=>e.ctorIdx==19&&match e with
 |.Constant c _ _=>Pe v c
 |_=>false
|.glo g,e=>e.ctorIdx==23&&match e with
 |.Name x _=>decide (T.gl[g]?=some x)&&lU T.sc x&&!(x==("__debug__":Str))
 |_=>false
|.bin op a b,e=>e.ctorIdx==2&&match e with
 |.BinOp l o r _=>decide (op=o)&&cR T a l&&cR T b r
 |_=>false
|.neg a,e=>e.ctorIdx==3&&match e with
 |.UnaryOp .USub l _=>cR T a l
 |_=>false
|.not a,e=>e.ctorIdx==3&&match e with
 |.UnaryOp .Not l _=>cR T a l
 |_=>false
|.and a b,e=>e.ctorIdx==0&&match e with
 |.BoolOp .And [x,y] _=>cR T a x&&cR T b y
 |.BoolOp .And (x::y::z::r) pos=>cR T a x&&cR T b (.BoolOp .And (y::z::r) pos)
 |_=>false
|.or a b,e=>e.ctorIdx==0&&match e with
 |.BoolOp .Or [x,y] _=>cR T a x&&cR T b y
 |.BoolOp .Or (x::y::z::r) pos=>cR T a x&&cR T b (.BoolOp .Or (y::z::r) pos)
 |_=>false
|.ite c a b,e=>e.ctorIdx==5&&match e with
 |.IfExp t x y _=>cR T c t&&cR T a x&&cR T b y
 |_=>false
|.cmp op a b,e=>e.ctorIdx==15&&match e with
 |.Compare l [o] [r] _=>decide (op=o)&&!sY o r&&cR T a l&&cR T b r
 |_=>false
|.chain o1 o2 a b c,e=>e.ctorIdx==15&&match e with
 |.Compare l [p1,p2] [m,r] _=>decide (o1=p1)&&decide (o2=p2)&&!Ak [p1,p2] [m,r]&&cR T a l&&cR T b m&&cR T c r
 |_=>false
|.call g as,e=>e.ctorIdx==16&&(fI 23 e&&match e with
 |.Call (.Name x _) es [] _=>decide (T.gl[g]?=some x)&&lU T.sc x&&!(x==("__debug__":Str))&&br es&&kR T as es
 |_=>false)
|.blt f as,e=>e.ctorIdx==16&&(fI 23 e&&match e with
 |.Call (.Name x _) es [] _=>(T.calm||T.semi&&L5 f)&&(decide (x=f.name)&&lU T.sc x&&T.bn.contains x&&br es&&!es.isEmpty&&kR T as es)
 |_=>false)
|.isi a t,e=>e.ctorIdx==16&&(fI 23 e&&(if t=.none then(match e with
 |.Call (.Name x _) [l,c] [] _=>decide (x=("isinstance":Str))&&lU T.sc x&&T.bn.contains x&&SH T c&&noStar l&&cR T a l
 |_=>false)else aI e&&match e with
 |.Call (.Name x _) [l,.Name y _] [] _=>decide (x=("isinstance":Str))&&lU T.sc x&&T.bn.contains x&&decide (y=t.name)&&decide (t≠.none)&&lU T.sc y&&T.bn.contains y&&noStar l&&cR T a l
 |_=>false))
|.mth m o as,e=>e.ctorIdx==16&&(fI 20 e&&match e with
 |.Call (.Attribute l nm apos) es [] cpos=>decide (nm=m.name)&&rV l&&(apos.endLine==cpos.line)&&br es&&decide (es.length<30)&&cR T o l&&kR T as es
 |_=>false)
|.ix a b,e=>e.ctorIdx==21&&match e with
 |.Subscript l r _=>rW r&&cR T a l&&cR T b r
 |_=>false
|.sl a lo hi,e=>e.ctorIdx==21&&(uI e&&match e with
 |.Subscript l (.Slice x y none _) _=>cR T a l&&JJ T lo x&&JJ T hi y
 |_=>false)
|.lst as,e=>e.ctorIdx==24&&match e with
 |.List es _=>br es&&kR T as es
 |_=>false
|.tup as,e=>e.ctorIdx==25&&match e with
 |.Tuple es _ _=>br es&&kR T as es
 |_=>false
|.comp nl fr elt tg src cond,e=>e.ctorIdx==8&&match e with
 |.ListComp l [⟨t,it,ifs,0⟩] sc _=>(T.calm&&!T.semi||T.semi&&L4 src)&&(oK T.sc T.N sc nl fr&&(BA it&&EN src t)&&ES T src it&&tY (AN T sc nl fr) tg t&&Pf (AN T sc nl fr) cond ifs&&cR (AN T sc nl fr) elt l)
 |_=>false
|.isx one gs a,e=>e.ctorIdx==16&&(fI 23 e&&match e with
 |.Call (.Name x _) [l,c] [] _=>decide (x=("isinstance":Str))&&lU T.sc x&&T.bn.contains x&&noStar l&&ER T one gs c&&cR T a l
 |_=>false)
|.isv g a,e=>e.ctorIdx==16&&(fI 23 e&&(aI e&&match e with
 |.Call (.Name x _) [l,.Name y _] [] _=>decide (x=("isinstance":Str))&&lU T.sc x&&T.bn.contains x&&decide (y=("ValueError":Str))&&lU T.sc y&&T.bn.contains y&&noStar l&&cR T a l&&decide (g<T.gl.length)
 |_=>false))
|.att g a f,e=>e.ctorIdx==20&&match e with
 |.Attribute l nm _=>decide (nm=f)&&rV l&&cR T a l&&decide (g<T.gl.length)
 |_=>false
noncomputable def kR(T:Tab):i0->List Expr->Bool
|.nil,es=>match es with
 |[]=>true
 |_=>false
|.cons a r,es=>match es with
 |e::er=>cR T a e&&kR T r er
 |_=>false
noncomputable def JJ(T:Tab):CO->Option Expr->Bool
|.none,e=>match e with
 |none=>true
 |_=>false
|.some a,e=>match e with
 |some x=>cR T a x
 |_=>false
noncomputable def Pf(T:Tab):CO->List Expr->Bool
|.none,es=>match es with
 |[]=>true
 |_=>false
|.some a,es=>match es with
 |[x]=>cR T a x
 |_=>false
noncomputable def tY(T:Tab):CG->Expr->Bool
|.name i,e=>e.ctorIdx==23&&match e with
 |.Name x _=>decide (T.N[i]?=some x)&&JI T x
 |_=>false
|.tup gs,e=>e.ctorIdx==25&&match e with
 |.Tuple es _ _=>(T.calm||T.semi)&&(br es&&AQ T gs es)
 |_=>false
|.sub o i,e=>e.ctorIdx==21&&match e with
 |.Subscript l r _=>rW r&&cR T o l&&cR T i r
 |_=>false
noncomputable def AQ(T:Tab):ny->List Expr->Bool
|.nil,es=>match es with
 |[]=>true
 |_=>false
|.cons g r,es=>match es with
 |e::er=>tY T g e&&AQ T r er
 |_=>false
noncomputable def ES(T:Tab):CI->Expr->Bool
|.seq a,e=>cR T a e
|.range as,e=>e.ctorIdx==16&&(fI 23 e&&match e with
 |.Call (.Name x _) es [] _=>decide (x=("range":Str))&&lU T.sc x&&T.bn.contains x&&br es&&!es.isEmpty&&kR T as es
 |_=>false)
|.zip as,e=>e.ctorIdx==16&&(fI 23 e&&match e with
 |.Call (.Name x _) es [] _=>decide (x=("zip":Str))&&lU T.sc x&&T.bn.contains x&&br es&&!es.isEmpty&&kR T as es
 |_=>false)
|.enum a,e=>e.ctorIdx==16&&(fI 23 e&&match e with
 |.Call (.Name x _) [l] [] _=>decide (x=("enumerate":Str))&&lU T.sc x&&T.bn.contains x&&noStar l&&cR T a l
 |_=>false)
end
noncomputable def ET(T:Tab):CB->List Stmt->Bool
|.call g as,sts=>bI1 sts&&match sts with
 |[.Expr (.Call (.Name x _) es [] _) _]=>decide (T.gl[g]?=some x)&&lU T.sc x&&!(x==("__debug__":Str))&&br es&&!es.isEmpty&&kR T as es
 |_=>false
|.ite c a b,sts=>bI2 sts&&match sts with
 |[.If t x y _]=>cR T c t&&ET T a x&&ET T b y
 |_=>false
noncomputable def EU(T:Tab):Tab:={ T with calm:=false,semi:=false }
mutual
noncomputable def Pg(T:Tab):CS->Stmt->Bool
|.expr c,st=>st.ctorIdx==24&&match st with
 |.Expr e _=>mV e&&cR T c e
 |_=>false
|.asg g c,st=>st.ctorIdx==5&&match st with
 |.Assign [t] e _=>(mV e||EO T.sc t)&&notTuple t&&tY T g t&&cR T c e
 |_=>false
|.acl i g as,st=>st.ctorIdx==5&&match st with
 |.Assign [t] e _=>(mV e||EO T.sc t)&&notTuple t&&tY T (.name i) t&&cR T (.call g as) e
 |_=>false
|.casg i c,st=>st.ctorIdx==5&&(cI2 st&&match st with
 |.Assign [.Name y py] (.ListComp l gs sc vpos) _=>(T.calm&&!T.semi)&&(decide (T.N[i]?=some y)&&AO T.sc sc y py vpos&&cR T c (.ListComp l gs sc vpos))
 |_=>false)
|.tasg g c,st=>match st with
 |.Assign [t] e _=>mV e&&notTuple e&&tY T g t&&cR T c e
 |_=>false
|.ret c,st=>st.ctorIdx==3&&match st with
 |.Return (some e) _=>cR T c e
 |_=>false
|.ifs c a b,st=>st.ctorIdx==12&&match st with
 |.If t x y _=>cR T c t&&kT T a x&&kT T b y
 |_=>false
|.forr g src b,st=>st.ctorIdx==9&&match st with
 |.For t it x [] _=>T.calm&&((BA it&&EN src t)&&ES T src it&&tY T g t&&kT T b x)
 |_=>false
|.brk,st=>st.ctorIdx==26&&match st with
 |.Break _=>true
 |_=>false
|.cont,st=>st.ctorIdx==27&&match st with
 |.Continue _=>true
 |_=>false
|.never,_=>true
|.rais g as,st=>st.ctorIdx==16&&(rI st&&match st with
 |.Raise (some (.Call (.Name x _) es [] _)) none _=>T.calm&&(decide (T.gl[g]?=some x)&&lU T.sc x&&!(x==("__debug__":Str))&&br es&&!es.isEmpty&&kR T as es)
 |_=>false)
|.tri i g b h,st=>st.ctorIdx==17&&(tI st&&match st with
 |.Try body [.ExceptHandler (some (.Name x _)) (some n) (s0::sr) _] [] [] _=>T.calm&&(decide (T.gl[g]?=some x)&&lU T.sc x&&!(x==("__debug__":Str))&&decide (T.N[i]?=some n)&&decide (T.sc.names.lookup n=some .local)&&ET T b body&&kT (EU T) h (s0::sr))
 |_=>false)
noncomputable def kT(T:Tab):dS->List Stmt->Bool
|.nil,sts=>match sts with
 |[]=>true
 |_=>false
|.cons s r,sts=>match sts with
 |st::sr=>Pg T s st&&kT T r sr
 |_=>false
end
noncomputable def qA(A:bU):bU:={ A with handled:=none }
def RZ(h:Heap)(e:Addr):Prop:=∃oe vs,h.get? e=some oe/\oe.data=.fields vs/\vs[2]?=some .none
structure lV (P:a_) (w:bC) (K:PySem.W.Frag) (mg:Str->Option Value) (base:Heap) (k:Nat) (f:Addr) (fd:dD) (ps:List Str) (sp:Sp):Prop where
 len:∀vs H Q,sp vs H Q E0->vs.length=ps.length
 run:∀(A:bU) (outer:List Env) (s:ah) (H:Hp) (args:Args) (us:List Value) (vs:List V) (Q:VK) (e:Addr),eW k (qA A)->A.handled=some (.ref e)->RZ s.heap e->H e=none->e∉frs outer->tK P w K mg base A outer s H->u_ s fd args (ps.zip us)->bh vs us->sp vs H Q E0->
  jc (az P w) A (.call (.ref f) args) (CR nW outer P w H s Q E0) s
variable{mg:Str->Option Value}{base:Heap}{j k:Nat}{f:Addr}{fd:dD}{ps:List Str}{sp:Sp}
theorem lV.mono(F:lV P w K mg base j f fd ps sp)(h:j<=k):lV P w K mg base k f fd ps sp:=
 ⟨F.len,fun A outer s H args us vs Q e hr=>F.run A outer s H args us vs Q e (hr.mono h)⟩
theorem mW{e:Addr}:oW H e e=none:=if_pos rfl
variable{b:Addr}
theorem off_ne{e:Addr}(h:b≠e):oW H e b=H b:=if_neg h
theorem rX{e:Addr}(h:H b=none):oW H e b=none:=by
 by_cases z:b=e
 ·rw[z];exact mW
 ·rw[off_ne z];exact h
variable{us:List Value}{vs:List V}
section
variable{X:Cx}{pins:List (Addr×Obj)}{O:L2.St}{H:Hp}{s:ah}{e C:Addr}{od:Option Addr}
theorem M_(I:L2.Inv X pins O H s)(q:H e=some (eF false e C od)):L2.Inv X pins O (oW H e) s:=by
 have ne:∀c u,H c=some u->(∀φ,u≠.ext φ)->c≠e:=fun c u z n y=>by rw[y,q]at z;cases z;exact n _ rfl
 refine⟨I.ok,I.os,I.bare,⟨I.base.keep,I.base.slot,fun c u z n x=>rX (I.base.free c u z n x),I.base.there,fun c xs z=>?_,fun c u w z=>?_,fun c ps z=>?_⟩,I.loc,I.cell,rX I.free,fun x c z=>rX (I.freeC x c z),fun p hp=>?_,fun a u z=>?_,I.len⟩
 ·have k:=I.base.tups c xs z;rw[off_ne (ne c _ k fun _ y=>nomatch y)];exact k
 ·have k:=I.base.aB c u w z;rw[off_ne (ne c _ k fun _ y=>nomatch y)];exact k
 ·obtain⟨more,k⟩:=I.base.tbls c ps z;exact⟨more,by rw[off_ne (ne c _ k fun _ y=>nomatch y)];exact k⟩
 ·obtain⟨h1,h2,h3⟩:=I.pin p hp;exact⟨h1,rX h2,h3⟩
 ·by_cases y:a=e
  ·rw[y,mW]at z;cases z
  ·rw[off_ne y]at z;exact(I.hok a u z).stay (fun _ _ _ k=>k) (fun c k=>by rw[off_ne (ne c _ k fun _ y=>nomatch y)];exact k) fun c xs k=>by rw[off_ne (ne c _ k fun _ y=>nomatch y)];exact k
theorem DH{Q:VK}(F:lV X.prog X.w X.K X.mg X.base k f fd ps sp)(hr:eW k (qA X.A))(hb:Binds X.K fd ps [])(hh:X.A.handled=some (.ref e))(hd:RZ s.heap e)(he:H e=none)(hs:e∉frs X.stack)
  (I:L2.Inv X pins O H s) (r:bh vs us) (h:sp vs H Q E0):aq (az X.prog X.w) X.A (call (.ref f) us) (fun u s'=>L2.CE X.stack X.prog X.w H s Q u s') X.xe s:=by
 have r2:bh vs (us++[]):=by rw[dM];exact r
 have hl:(us++[]).length=ps.length:=by rw[<-r2.length];exact F.len _ _ _ h
 refine kq (jd (F.run X.A X.stack s H ⟨us,[]⟩ (us++[]) vs Q e hr hh hd he hs I.Ez (hb s us I.dR hl) r2 h) fun r s' hq=>?_);cases r with
 |error v=>exact hq.elim
 |ok fl=>
  cases fl with
  |ret u=>exact hq
  |next=>exact ay hq
  |brk=>exact ay hq
  |cont=>exact ay hq
theorem Na{Q:VK}(F:lV X.prog X.w X.K X.mg X.base k f fd ps sp)(hr:eW k (qA X.A))(hb:Binds X.K fd ps [])(hh:X.A.handled=some (.ref e))(hx:e∈X.ex\/X.Tz.heap.objs.size<=e)
  (I:L2.Inv X pins O H s) (r:bh vs us) (h:Gv e sp vs H Q E0):aq (az X.prog X.w) X.A (call (.ref f) us) (EP X pins O Q) X.xe s:=by
 obtain⟨C,od,q,h⟩:=h;have J:=M_ I q;obtain⟨oe,vs',g1,g2,g3,g4,g5,g6⟩:=rN I.hok q;have hs:e∉frs X.stack:=fun z=>by have:=I.uQ e z;rw[q]at this;cases this
 refine cj (DH F hr hb hh ⟨oe,vs',g1,g4,g5.2⟩ mW hs J r h) (fun u s' hq=>?_) fun _ _ z=>z;have g1':s'.heap.get? e=some oe:=by
  obtain⟨_,H',_,_,un,_⟩:=id hq;exact un.keep e oe g1 mW hs aJ
 have n':∀(v:V) H',Un (frs X.stack) [] (oW H e) H' s.heap s'.heap->H' e=none:=fun v H' un=>un.free e oe g1 mW aJ;obtain⟨v,H',os,bare,un,hok,rv,hq⟩:=hq;obtain⟨v',H'',J',rv',z1,z2⟩:=J.after (Q:=fun v2 H2=>v2=v/\H2=H') ⟨v,H',os,bare,un,hok,rv,rfl,rfl⟩;subst z1 z2;have hn:=n' v' H'' un;refine⟨v',_,J'.LR ⟨hn,fun z=>?_,fun z=>?_,hx,fun x c z y=>?_,fun p hp z=>?_⟩ (xu ⟨oe,vs',g1',g2,g3,g4,g5,g6⟩),rv',hq hn⟩
 ·have:=I.free;rw[<-z,q]at this;cases this
 ·obtain⟨_,o,ho,_⟩:=I.ok.kG.mem z;have:=I.base.free e o ho (I.ok.frf e z) fun y=>I.ok.exfs e y z;rw[q]at this;cases this
 ·have:=I.freeC x c z;rw[y,q]at this;cases this
 ·have:=(I.pin p hp).2.1;rw[z,q]at this;cases this
end
variable{qual:Str}
theorem Ph{name:Str}{params:Ai}{dV kV doc pm cdv ct oc:Value}{an od:Option Addr}
  {osl:Array (Option Value)}{N ps:List Str}{sp:Sp} (lk:K.lookup f=some ⟨oc,od,.func (PySem.W.fnOf name qual params body scope dV kV doc pm an cdv ct),osl⟩) (hcd:PySem.W.codeIn K cdv qual=true) (S:iw N ps scope)
  (len:∀vs H Q,sp vs H Q E0->vs.length=ps.length)
  (hbody:∀(A:bU) (outer:List Env) (s:ah) (H:Hp) (vs:List V) (Q:VK) (e:Addr),eW k ((qA A).deeper (jv qual scope s.heap.objs.size f cdv))->eS ((gT nW P w K mg base N qual scope f cdv (qA A) outer s H E0).hand (.ref e))->sp vs H Q E0->
   ∃t,lR ((gT nW P w K mg base N qual scope f cdv (qA A) outer s H E0).hand (.ref e)) body t/\t { nx:=fun _ H'=>Q .non H',rt:=Q } (start N vs) H) :
  lV P w K mg base (k+1) f (PySem.W.fnOf name qual params body scope dV kV doc pm an cdv ct) ps sp:=by
 refine⟨len,fun A outer s H args us vs Q e hr hh hd he hs e0 hb r hsp=>?_⟩;obtain⟨hA,dA,fA,gA,uA⟩:=A;cases(show hA=some (.ref e)from hh);have hl:=len _ _ _ hsp;have KX:K.In s.heap:=e0.mod.kin.keeps fun b o e=>(e0.bs b o e).1;have lim:s.heap.NoLimit:=e0.mod.nolimit.keeps fun b o e=>(e0.bs b o e).1;have hkind:∀y∈ps.zip us,scope.names.lookup y.1=some .local\/(scope.names.lookup y.1=some .cell/\((dj (s.heap.objs.size+1) scope.names []).lookup y.1).isSome=true):=fun⟨n,v⟩ hy=>by
  rcases S.par n (l9 hy).1 with q|q
  ·exact .inl q
  ·exact .inr ⟨q,PySem.W.cellsFrom_some _ _ _ (.inl q)⟩
 refine rC hr.depth (KX _ _ lk) rfl S.co S.gen rfl (PySem.W.codeRec_of KX hcd) (hb _ _ _ _ ?_);refine nP S.kind hkind fun env he s1 x=>?_;subst he;refine⟨lim.keeps x.toInCall.keep,Cu ?_⟩;obtain⟨oe,vs',d1,d2,d3⟩:=hd;obtain⟨t,ht,hq⟩:=hbody ⟨some (.ref e),dA,fA,gA,uA⟩ outer s H vs Q e (hr.deeper _) ⟨e,oe,vs',rfl,d1,d2,d3,he,hs,aJ⟩ hsp;have I0:L2.Inv (gT nW P w K mg base N qual scope f cdv (qA ⟨some (.ref e),dA,fA,gA,uA⟩) outer s H E0) [] (start N vs) H s1:=zv S rfl ⟨e0.frames,e0.mod,e0.bs,e0.bsz,e0.kG,e0.frf,e0.hok,e0.bare⟩ hl r x;refine cj (ht [] s1 (start N vs) H _ (I0.hand (.ref e)) hq) (fun fl s' hs=>?_) fun e s' hs=>hs.elim;have fin:∀{TF:L2.St}{H':Hp}{v:V}{u:Value},L2.Inv ((gT nW P w K mg base N qual scope f cdv (qA ⟨some (.ref e),dA,fA,gA,uA⟩) outer s H E0).hand (.ref e)) [] TF H' s'->RelV v u->Q v H'->L2.CE outer P w H s Q u s':=
  fun{TF H' v u} J rv q=>⟨v,H',J.os,J.bare,J.base,J.hok,rv,q⟩
 cases fl with
 |ret u=>
  obtain⟨v,TF,H',J,rv,q⟩:=hs;exact fin J rv q
 |next=>
  obtain⟨TF,H',J,q⟩:=hs;exact fin (v:=V.non) (u:=bg) J rfl q
 |brk=>
  obtain⟨_,_,_,q⟩:=hs;exact ay q
 |cont=>
  obtain⟨_,_,_,q⟩:=hs;exact ay q
structure qH (K:PySem.W.Frag) (C:Addr):Prop extends tQ K C where
 ha:PySem.W.findIn K (.ref C) "__class__"=some (some (.builtin "object.__class__"))
 hn:PySem.W.specialIn K (.builtin "object.__class__") "__get__"=some (some (.builtin "getset_descriptor.__get__"))
 htk:PySem.W.takesIn K (.builtin "object.__class__")=some true
def gc(K:PySem.W.Frag)(D:Addr)(Cs:List Addr):Prop:=PySem.W.kitOne K (.type "NoneType") (.ref D)=some false/\∀C∈Cs,qH K C/\PySem.W.kitOne K (.ref C) (.ref D)=some (decide (C=D))
def p9(K:PySem.W.Frag)(Cs:List Addr)(as:List Str):Prop:=PySem.W.kitOne K (.type "NoneType") (.type "ValueError")=some false/\∀C∈Cs,qH K C/\PySem.W.kitOne K (.ref C) (.type "ValueError")=some true/\∀f∈as,iC K C f
def AR(P:a_)(w:bC)(K:PySem.W.Frag)(mg:Str->Option Value)(base:Heap)(k:Nat)(C:Addr)(fs:List (Str×Nat))(n:Nat):Prop:=
 ∃(fI:Addr) (fd:dD) (ps:List Str),Bm K C fI/\eO P w K mg base nW k fI fd ps (tR C fs ps.length)/\Binds K fd ps []/\ps.length<=1000/\(∀p∈fs,1<=p.2)/\ps.length=n
def HG(X:Cx)(E:XK)(x:Str)(sp:Sp)(dvs:List V):Prop:=E=E0/\X.calm=false/\dvs=[]/\∃(e:Addr) (k:Nat) (f:Addr) (fd:dD) (ps:List Str) (sp0:Sp),X.A.handled=some (.ref e)/\lV X.prog X.w X.K X.mg X.base k f fd ps sp0/\eW k (qA X.A)/\X.mg x=some (.ref f)/\PySem.W.keepIn X.K (.ref f)=true/\(Binds X.K fd ps []/\ps≠[])/\((eS X/\sp=sp0)\/((e∈X.ex\/X.Tz.heap.objs.size<=e)/\sp=Gv e sp0))
theorem HG.comp{X':Cx}{E:XK}{dvs:List V}(h:HG X E x sp dvs)(hc:X.calm=true\/eS X/\eS X')(e1:X'.A=X.A)(e2:X'.prog=X.prog)(e3:X'.w=X.w)(e4:X'.K=X.K)(e5:X'.mg=X.mg)(e6:X'.base=X.base)(e7:X'.calm=X.calm):HG X' E0 x sp dvs:=by
 obtain⟨_,h2,h3,e,k,f,fd,ps,sp0,q1,q2,q3,q4,q5,q6,q7⟩:=h;rcases hc with hc|⟨hc,hc'⟩
 ·rw[hc]at h2;cases h2
 ·refine⟨rfl,by rw[e7];exact h2,h3,e,k,f,fd,ps,sp0,by rw[e1];exact q1,by rw[e2,e3,e4,e5,e6];exact q2,by rw[e1];exact q3,by rw[e5];exact q4,by rw[e4];exact q5,by rw[e4];exact q6,.inl ⟨hc',?_⟩⟩;rcases q7 with q7|⟨q7,_⟩
  ·exact q7.2
  ·obtain⟨e',oe,vs,g1,g2,_,_,_,_,g3⟩:=hc;rw[q1]at g1;cases g1;rcases q7 with q7|q7
   ·exact absurd q7 g3
   ·exact absurd (au g2) (kC.mpr q7)
def GOk(X:Cx)(E:XK)(x:Str):G->Prop
|.val v=>∃u,X.mg x=some u/\RelV v u
|.tup a xs=>X.mg x=some (.ref a)/\LS X.K a true xs
|.fn sp dvs=>(∃(k:Nat) (f:Addr) (fd:dD) (ps:List Str) (ds:List Value),eO X.prog X.w X.K X.mg X.base (je X.prog X.w) k f fd ps sp/\eW k X.A/\X.mg x=some (.ref f)/\PySem.W.keepIn X.K (.ref f)=true/\Binds X.K fd ps ds/\bh dvs ds/\tL (je X.prog X.w) X E)\/HG X E x sp dvs
|.cls C fs n=>X.mg x=some (.ref C)/\∃k,eW (k+1) X.A/\AR X.prog X.w X.K X.mg X.base k C fs n
|.gy D Cs=>X.mg x=some (.ref D)/\gc X.K D Cs
|.mJ Cs as=>p9 X.K Cs as
|.exb B _=>X.mg x=some (.ref B)/\xx X.K B
|.fh sp=>∃(k:Nat) (f:Addr) (fd:dD) (ps:List Str),lV X.prog X.w X.K X.mg X.base k f fd ps sp/\eW k (qA X.A)/\X.mg x=some (.ref f)/\PySem.W.keepIn X.K (.ref f)=true/\(Binds X.K fd ps []/\ps≠[])
|.nop=>True
theorem JK{outer:List Env}{e:Value}{s':ah}(h:je P w outer H s E0 e s'):False:=by
 obtain⟨_,_,_,_,_,_,_,_,_,_,q⟩:=h;exact q
structure Ok (X:Cx) (T:Tab) (Y:List G) (E:XK):Prop where
 N:X.N=T.N
 nd:X.N.Nodup
 sc:X.env.scope=T.sc
 kind:X.env.scope.kind=.function
 gl:∀(i:Nat) (x:Str) (g:G),T.gl[i]?=some x->Y[i]?=some g->GOk X E x g
 bn:∀x∈T.bn,X.mg x=none
 own:∀x,T.own x=true->X.fn x=true
 calm:T.calm=true->X.calm=true
 semi:T.semi=true->eS X
 po:uC (az X.prog X.w) X.A X.env X.xe
 room:X.A.units+60<c_
variable{T:Tab}{Y:List G}{sc:eU}{nl:List Str}{fr:List Nat}
theorem jl{E:XK}(ok:Ok X T Y E)(h:oK T.sc T.N sc nl fr=true)(C:Addr)(Tz:ah)(H:Hp)(ex:List Addr)(hs:T.semi=true->eS (ee X (fm X.N nl fr) sc C Tz H ex))(hcs:T.calm=true\/T.semi=true) :
  Ok (ee X (fm X.N nl fr) sc C Tz H ex) (AN T sc nl fr) Y E0:=by
 unfold oK at h;simp only[bx,decide_eq_true_eq]at h;obtain⟨⟨⟨⟨⟨h1,h2⟩,h3⟩,h4⟩,h5⟩,h6⟩:=h;refine⟨?_,?_,?_,h1,fun i x g hx hg=>?_,ok.bn,fun x z=>z,ok.calm,hs,mz,ok.room⟩
 ·show fm X.N nl fr=fm T.N nl fr;rw[ok.N]
 ·show(fm X.N nl fr).Nodup;rw[ok.N];exact h6
 ·show kB sc X.env=zF sc T.sc;rw[<-ok.sc];rfl
 ·have q:=ok.gl i x g hx hg;cases g with
  |val v=>exact q
  |tup a xs=>exact q
  |fn sp dvs=>
   rcases q with⟨k,f,fd,ps,ds,q1,q2,q3,q4,q5,q6,q7⟩|q
   ·exact .inl ⟨k,f,fd,ps,ds,q1,q2,q3,q4,q5,q6,fun pins O H s e s' I z=>(JK z).elim⟩
   ·exact .inr ((q.comp (hcs.imp ok.calm fun z=>⟨ok.semi z,hs z⟩) rfl rfl rfl rfl rfl rfl rfl))
  |_=>exact q
variable{N:List Str}
theorem GH(h:oK sc N scope nl fr=true):o5 sc N scope nl fr:=by
 unfold oK at h;simp only[bx,decide_eq_true_eq]at h;obtain⟨⟨⟨⟨⟨h1,h2⟩,h3⟩,h4⟩,h5⟩,h6⟩:=h;refine⟨h1,fun y hy=>of_decide_eq_true (bz.mp h2 y hy),fun x hx=>of_decide_eq_true (bz.mp h3 x hx),fun n hn=>?_,fun i hi=>?_⟩
 ·exact of_decide_eq_true (bz.mp h4 (n,.free) hn) rfl
 ·have q:=bz.mp h5 i hi;revert q;cases N[i]? with
  |none=>intro q;exact absurd q aE
  |some x=>intro q;exact⟨x,rfl,of_decide_eq_true q⟩
variable{o:Expr}
section
variable{env:Env}
theorem cZ(h:noStar e=true):cy (e::es) env=(false,eval e env)::cy es env:=by
 cases e<;>first|rfl|exact absurd (show false=true from h) aE
theorem wk:∀{es:List Expr},br es=true->cy es env=es.map fun e=>(false,eval e env)
|[],_=>rfl
|e::es,h=>by
 have h':noStar e=true/\br es=true:=by simpa[br]using h
 rw[cZ h'.1,wk h'.2];rfl
theorem i9(h:br es=true):(kO pos (cy es env)).any (·.1)=false:=by
 rw[wk h];unfold kO;rw[dH,List.any_map];rw[vh];intro x _;simp
theorem JL(h:br es=true)(hl:es.length<30) :
  ((kO pos (cy es env)).all (fun x=>!x.1)&&(backToKw pos (keywordEach [] env)).all (fun x=>x.1.isSome)&&decide (es.length+([]:List ze).length+(if([]:List ze).isEmpty then 0 else 1)<30))=true:=by
 rw[wk h];unfold kO;rw[dH,mq];have e1:(es.all ((fun x:Bool×Sem Value=>!x.1)∘(fun x:Bool×Sem Value=>(x.1,if x.1 then do let v <-x.2;rq pos;pure v else x.2))∘fun e=>(false,eval e env)))=true:=by
  rw[bz];intro x _;rfl
 have e2:decide (es.length+([]:List ze).length+(if([]:List ze).isEmpty then 0 else 1)<30)=true:=by
  simpa using hl
 rw[e2,sZ];exact sN.mpr ⟨e1,rfl⟩
theorem yD{nm:Str}{whole:Sem Value}(h:rV o=true):nO o nm env whole=whole:=by
 unfold nO;split
 ·rename_i id p pos;have:(id==("super":Str))=false:=by simpa[rV]using h
  have h2:(id != ("super":Str))=true:=by simp[bne,this]
  simp only[h2,Cw,if_true]
 ·rfl
theorem EV{b:Expr}(h:rW b=true):Dy b:=by
 intro o i;cases b<;>first|rfl|exact absurd (show false=true from h) aE
theorem p_(h:BA e=true):∀x,gz e env x=pure x:=by
 intro x;cases e<;>first|rfl|exact absurd (show false=true from h) aE
theorem xF{t:Option Expr}(h:mV e=true):lP e t n env=pure false:=by
 cases e<;>first|rfl|exact absurd (show false=true from h) aE
theorem Pj(h:EM env.scope x=true):AY env.scope x:=by
 unfold EM at h;unfold AY;split at h
 ·exact .inl (by assumption)
 ·exact .inr (.inl (by assumption))
 ·exact .inr (.inr (by assumption))
 ·exact absurd h aE
theorem kM(h:noStar e=true):dZ (e::es) env=(false,l8 e env)::dZ es env:=by
 cases e<;>first|rfl|exact absurd (show false=true from h) aE
theorem lW:∀{es:List Expr},br es=true->(dZ es env).length=es.length/\(dZ es env).findIdx? (·.1)=none
|[],_=>⟨rfl,rfl⟩
|e::es,h=>by
 have h':noStar e=true/\br es=true:=by simpa[br]using h
 obtain⟨a,b⟩:=lW h'.2;rw[kM h'.1];refine⟨by simp[a],?_⟩;rw[List.findIdx?_cons];simp[b]
end
variable{rest:List Expr}
variable{op op':qo}
variable{er:List Expr}
section
variable{X:Cx}{a b c:Expr}{ta tb tc:TE}{pos:Pos}{o:Expr}{to:TE}{es:List Expr}{t:TA}{apos cpos:Pos}{m:Mt}
theorem pe_and'(ha:PE X a ta)(hb:PE X (.BoolOp .And (b::rest) pos) tb):PE X (.BoolOp .And (a::b::rest) pos) (fun O H Q=>ta O H fun x H1=>match x with
  |.bl c=>if c=true then tb O H1 Q else Q (.bl false) H1
  |_=>False):=by
 intro pins s O H Q I h;refine BoolOp_and (aY (ha pins s O H _ I h) fun v s1 ⟨x,H1,I1,r1,q1⟩=>?_);cases x with
 |bl c=>
  cases r1;refine dX ?_;cases c with
  |true=>exact hb pins s1 O H1 Q I1 q1
  |false=>exact⟨.bl false,H1,I1,rfl,q1⟩
 |_=>exact ay q1
theorem pe_or'(ha:PE X a ta)(hb:PE X (.BoolOp .Or (b::rest) pos) tb):PE X (.BoolOp .Or (a::b::rest) pos) (fun O H Q=>ta O H fun x H1=>match x with
  |.bl c=>if c=true then Q (.bl true) H1 else tb O H1 Q
  |_=>False):=by
 intro pins s O H Q I h;refine BoolOp_or (aY (ha pins s O H _ I h) fun v s1 ⟨x,H1,I1,r1,q1⟩=>?_);cases x with
 |bl c=>
  cases r1;refine dX ?_;cases c with
  |false=>exact hb pins s1 O H1 Q I1 q1
  |true=>exact⟨.bl true,H1,I1,rfl,q1⟩
 |_=>exact ay q1
theorem pe_not'(ha:PE X a ta):PE X (.UnaryOp .Not a pos) (fun O H Q=>ta O H fun x H1=>ic X.K x H1 fun b=>Q (.bl (!b)) H1):=by
 intro pins s O H Q I h;refine UnaryOp_ (aY (ha pins s O H _ I h) fun v s1 ⟨x,H1,I1,r1,q1⟩=>?_);refine not_of (aY (LX pins s1 O H1 x v (fun b H2=>Q (.bl (!b)) H2) I1 r1 ?_) fun b s2 ⟨H2,I2,q2⟩=>⟨.bl (!b),H2,I2,rfl,q2⟩);exact q1
theorem pe_neg'(ha:PE X a ta):PE X (.UnaryOp .USub a pos) (fun O H Q=>ta O H fun x H1=>match x with
  |.int i=>Q (.int (-i)) H1
  |_=>False):=by
 intro pins s O H Q I h;refine UnaryOp_ (aY (ha pins s O H _ I h) fun v s1 ⟨x,H1,I1,r1,q1⟩=>?_);cases x with
 |int i=>exact OM pins s1 O H1 (.int i) v Q I1 r1 ⟨i,rfl,q1⟩
 |_=>exact ay q1
theorem pe_chain'(hu:X.A.units+60<c_)(ha:PE X a ta)(hb:PE X b tb)(hc:PE X c tc)(hm:Ak [op,op'] [b,c]=false):PE X (.Compare a [op,op'] [b,c] pos) (fun O H Q=>ta O H fun x H1=>tb O H1 fun y H2=>lu X.K op x y H2 fun z H3=>match z with
  |.bl k=>if k=true then tc O H3 fun u H4=>lu X.K op' y u H4 Q else Q (.bl false) H3
  |_=>False):=by
 intro pins s O H Q I h;refine Compare_chain (aY (ha pins s O H _ I h) fun v s1 ⟨x,H1,I1,r1,q1⟩=>chain_link (aY (hb pins s1 O H1 _ I1 q1) fun u s2 ⟨y,H2,I2,r2,q2⟩=>
  aY (uY hu op pins s2 O H2 x y v u _ I2 r1 r2 q2) fun d s3 ⟨z,H3,I3,r3,q3⟩=>?_)) hm
 cases z with
 |bl k=>
  cases r3;refine dX ?_;cases k with
  |false=>exact ite_ff ⟨.bl false,H3,I3,rfl,q3⟩
  |true=>exact ite_tt (chain_last (aY (hc pins s3 O H3 _ I3 q3) fun w' s4 ⟨z',H4,I4,r4,q4⟩=>uY hu op' pins s4 O H4 y z' u w' Q I4 r2 r4 q4))
 |_=>exact ay q3
theorem pt_chain'(hu:X.A.units+60<c_)(ha:PE X a ta)(hb:PE X b tb)(hc:PE X c tc)(hm:Ak [op,op'] [b,c]=false):PT X (.Compare a [op,op'] [b,c] pos) (fun O H Q=>ta O H fun x H1=>tb O H1 fun y H2=>lu X.K op x y H2 fun z H3=>match z with
  |.bl k=>if k=true then tc O H3 fun u H4=>lu X.K op' y u H4 fun z H5=>match z with
   |.bl k=>Q k H5
   |_=>False
   else Q false H3
  |_=>False):=by
 intro pins s O H Q I h;refine isTrue_chain (aY (ha pins s O H _ I h) fun v s1 ⟨x,H1,I1,r1,q1⟩=>test_link (aY (hb pins s1 O H1 _ I1 q1) fun u s2 ⟨y,H2,I2,r2,q2⟩=>
  aY (uY hu op pins s2 O H2 x y v u _ I2 r1 r2 q2) fun d s3 ⟨z,H3,I3,r3,q3⟩=>?_)) hm
 cases z with
 |bl k=>
  cases r3;refine dX ?_;cases k with
  |false=>exact ite_ff ⟨H3,I3,q3⟩
  |true=>
   refine ite_tt (test_last (aY (hc pins s3 O H3 _ I3 q3) fun w' s4 ⟨z',H4,I4,r4,q4⟩=>aY (uY hu op' pins s4 O H4 y z' u w' _ I4 r2 r4 q4) fun d' s5 ⟨z2,H5,I5,r5,q5⟩=>?_));cases z2 with
   |bl k2=>
    cases r5;exact dX ⟨H5,I5,q5⟩
   |_=>exact ay q5
 |_=>exact ay q3
theorem pt_cmp'(hu:X.A.units+60<c_)(ha:PE X a ta)(hb:PE X b tb)(hm:sY op b=false):PT X (.Compare a [op] [b] pos) (fun O H Q=>ta O H fun x H1=>tb O H1 fun y H2=>lu X.K op x y H2 fun z H3=>match z with
  |.bl k=>Q k H3
  |_=>False):=by
 intro pins s O H Q I h;refine wpAny_isTrue_Compare1 (aY (ha pins s O H _ I h) fun v s1 ⟨x,H1,I1,r1,q1⟩=>aY (hb pins s1 O H1 _ I1 q1) fun u s2 ⟨y,H2,I2,r2,q2⟩=>aY (uY hu op pins s2 O H2 x y v u _ I2 r1 r2 q2) fun d s3 ⟨z,H3,I3,r3,q3⟩=>?_) hm;cases z with
 |bl k=>
  cases r3;exact dX ⟨H3,I3,q3⟩
 |_=>exact ay q3
theorem pt_val'(ha:PE X a ta)(he:∀whole,pH a X.env whole=(do let v <-whole;rq a.pos;lQ [v] (yb v))):PT X a (fun O H Q=>ta O H fun x H1=>ic X.K x H1 fun b=>Q b H1):=by
 intro pins s O H Q I h;exact isTrue_plain (aY (ha pins s O H _ I h) fun v s1 ⟨x,H1,I1,r1,q1⟩=>LX pins s1 O H1 x v Q I1 r1 q1) (he _)
theorem Pk(hu:X.A.units+60<c_)(ho:PE X o to)(ha:PA X (e::er) t)(hb:rV o=true)(hl:(apos.endLine==cpos.line)=true)(hs:br (e::er)=true)(hf:(e::er).length<30) :
  PE X (.Call (.Attribute o m.name apos) (e::er) [] cpos) (fun O H Q=>to O H fun x H1=>p6 m x H1/\t O H1 fun vs H2=>rO X.K m x vs H2 Q):=by
 intro pins s O H Q I h;refine wpAny_Call_method_late (yD hb) (JL hs hf) hl rfl (aY (ho pins s O H _ I h) fun v s1 ⟨x,H1,I1,r1,hr,q1⟩=>?_);obtain⟨h1,h2⟩:=DF I1 r1 hr;have fx:=Bx m x H1 hr;refine⟨AM m x,EK m x,fx.pa,fx.slot,fx.ty,h1,h2,?_⟩;have run:=aY (ha cpos pins s1 O H1 _ I1 q1) fun us s2 ⟨vs,H2,I2,r2,q2⟩=>DG hu I2 r1 r2 q2;have hs':noStar e=true/\br er=true:=by simpa[br]using hs
 rw[cZ hs'.1]at run ⊢;exact qS (by show(false||(kO cpos (cy er X.env)).any (·.1))=false;rw[i9 hs'.2]<;>rfl) (Calls.evalArgs_plain run)
theorem Nb(hu:X.A.units+60<c_)(ho:PE X o to)(hb:rV o=true)(hl:(apos.endLine==cpos.line)=true) :
  PE X (.Call (.Attribute o m.name apos) [] [] cpos) (fun O H Q=>to O H fun x H1=>p6 m x H1/\rO X.K m x [] H1 Q):=by
 intro pins s O H Q I h;refine wpAny_Call_method0_late (yD hb) hl (aY (ho pins s O H _ I h) fun v s1 ⟨x,H1,I1,r1,hr,q1⟩=>?_);obtain⟨h1,h2⟩:=DF I1 r1 hr;have fx:=Bx m x H1 hr;exact⟨AM m x,EK m x,fx.pa,fx.slot,fx.ty,h1,h2,qS rfl (PySem.evalArgs_none (DG (us:=[]) hu I1 r1 .nil q1))⟩
theorem Pn{ty:Ty}(hg:Gl X x)(hx:x="isinstance")(hm:X.mg x=none)(hgy:Gl X y)(hy:y=ty.name)(hty:ty≠.none)(hmy:X.mg y=none)(ha:PE X a ta)(hs:noStar a=true) :
  PE X (.Call (.Name x p) [a,.Name y py] [] pos) (fun O H Q=>ta O H fun v H1=>oX X.K ty v H1 fun b=>Q (.bl b) H1):=by
 subst hx hy;intro pins s O H Q I h;refine dc (iW I hg hm mD ?_);have hst:cy [a,.Name ty.name py] X.env=[(false,eval a X.env),(false,eval (.Name ty.name py) X.env)]:=by rw[cZ hs];rfl
 refine d7 ?_ (by rw[hst];rfl) rfl;rw[hst];show aq _ _ (oO ((false,eval a X.env)::[(false,eval (.Name ty.name py) X.env)])) _ _ s;refine cz (aY (ha pins s O H _ I h) fun u s1 ⟨v,H1,I1,r1,q1⟩=>?_);have hn:ty.name≠("__name__":Str):=by cases ty<;>decide +kernel
 have hd:(ty.name==("__debug__":Str))=false:=by cases ty<;>decide +kernel
 refine cz (iW I1 hgy hmy (Ty.boot ty hty) (fS ?_) hn hd);refine aY (Pc I1 r1 q1 hty) fun w s2 ⟨z,H2,I2,r2,e,b,ez,qb⟩=>?_;subst e ez;exact⟨.bl b,_,I2,r2,qb⟩
theorem Bf.Nc(f:Bf):(∃id,f.val=.builtin id)\/∃T,f.val=.type T:=by
 cases f<;>first|exact .inl ⟨_,rfl⟩|exact .inr ⟨_,rfl⟩
theorem Po{f:Bf}(hb:jG X f.val (qF X.K f))(hg:Gl X x)(hx:x=f.name)(hm:X.mg x=none)(ha:PA X (e::er) t)(hs:br (e::er)=true):PE X (.Call (.Name x p) (e::er) [] pos) (fun O H Q=>t O H fun vs H1=>qF X.K f vs H1 Q):=by
 subst hx;have hs':noStar e=true/\br er=true:=by simpa[br]using hs
 intro pins s O H Q I h;refine dc (iW I hg hm f.boot ?_ f.ok.1 f.ok.2);have run:=aY (ha pos pins s O H _ I h) fun us s1 ⟨vs,H1,I1,r1,q1⟩=>hb pins s1 O H1 vs us Q I1 r1 q1;rcases f.Nc with⟨id,ev⟩|⟨T,ev⟩
 ·rw[ev]at run ⊢;exact d7 run (cZ hs'.1) (i9 hs'.2)
 ·rw[ev]at run ⊢;exact eV run (cZ hs'.1) (i9 hs'.2)
end
variable{g:Nat}
variable{gs:List Nat}
variable{one:Bool}
section
variable{X:Cx}{T:Tab}{Y:List G}{E:XK}{a:Expr}{ta:TE}{pos:Pos}
theorem Ok.tE(ok:Ok X T Y E):Ok X.tE T Y E0:=by
 refine⟨ok.N,ok.nd,ok.sc,ok.kind,fun i x g hx hg=>?_,ok.bn,ok.own,ok.calm,ok.semi,mz,ok.room⟩;have q:=ok.gl i x g hx hg;cases g with
 |fn sp dvs=>
  rcases q with⟨k,f,fd,ps,ds,q1,q2,q3,q4,q5,q6,q7⟩|⟨_,q⟩
  ·exact .inl ⟨k,f,fd,ps,ds,q1,q2,q3,q4,q5,q6,fun pins O H s e s' I z=>(JK z).elim⟩
  ·exact .inr ⟨rfl,q⟩
 |_=>exact q
theorem Ok.hand(ok:Ok X T Y E){e:Addr}(he:e∈X.ex\/X.Tz.heap.objs.size<=e):Ok (X.hand (.ref e)) (EU T) (Y.map (G.hand e)) E0:=by
 refine⟨ok.N,ok.nd,ok.sc,ok.kind,fun i x g hx hg=>?_,ok.bn,ok.own,(fun z=>nomatch z),(fun z=>nomatch z),mz,ok.room⟩;rw[aU]at hg;cases e':Y[i]? with
 |none=>rw[e']at hg;cases hg
 |some g0=>
  rw[e']at hg;cases hg;have q:=ok.gl i x g0 hx e';cases g0 with
  |fn sp dvs=>exact cu
  |cls C fs n=>exact cu
  |fh sp=>
   obtain⟨k,f,fd,ps,q1,q2,q3,q4,q5⟩:=q;exact .inr ⟨rfl,rfl,rfl,e,k,f,fd,ps,sp,rfl,q1,q2,q3,q4,q5,.inr ⟨he,rfl⟩⟩
  |_=>exact q
noncomputable def pV:Option Addr->Value
|none=>.type "NoneType"
|some C=>.ref C
theorem xG{c:Option Addr}:∀(gs:List Nat) (b:Bool),(∀g∈gs,∀(D:Addr) (Cs:List Addr),Y[g]?=some (G.gy D Cs)->gc K D Cs)->qG Y gs c=some b->∀Ds,uX Y gs Ds->PySem.W.kitAny K (pV c) (Ds.map aN)=some b
|[],b,hK,h,Ds,hD=>by
 cases h;cases(show Ds=[]from hD);rfl
|g::gs,b,hK,h,Ds,hD=>by
 obtain⟨D,r,Cs,rfl,hg,hr⟩:=hD;have hK':=fun g' (hg':g'∈gs)=>hK g' (ao _ hg');unfold qG at h;rw[hg]at h;obtain⟨k1,k2⟩:=hK g aG D Cs hg;show(match PySem.W.kitOne K (pV c) (.ref D)with|some true=>some true|some false=>PySem.W.kitAny K (pV c) (r.map aN)|none=>none)=some b;cases c with
 |none=>
  rw[show PySem.W.kitOne K (pV none) (.ref D)=some false from k1];exact xG gs b hK' h r hr
 |some C=>
  dsimp only at h;split at h
  ·rename_i hC;rw[show PySem.W.kitOne K (pV (some C)) (.ref D)=some (decide (C=D))from(k2 C hC).2];split at h
   ·rename_i hD;rw[decide_eq_true hD];exact h
   ·rename_i hD;rw[decide_eq_false hD];exact xG gs b hK' h r hr
  ·cases h
theorem DJ{x:V}{u cv:Value}{Q:Bool->Prop}(I:L2.Inv X pins O H s)(rx:RelV x u)(h:Br Y gs x H Q)(hK:∀g∈gs,∀(D:Addr) (Cs:List Addr),Y[g]?=some (G.gy D Cs)->gc X.K D Cs)
  (run:∀(c:Option Addr) (b:Bool) (Hx:Heap->Prop),PySem.W.KitX X.K u (pV c) Hx->Hx s.heap->(u=.builtin "__main__.__loader__#opaque"->False)->qG Y gs c=some b->Q b->
   aq (az X.prog X.w) X.A (call (.builtin "isinstance") [u,cv]) (EP X pins O fun y H'=>H'=H/\∃b,y=.bl b/\Q b) X.xe s) :
  aq (az X.prog X.w) X.A (call (.builtin "isinstance") [u,cv]) (EP X pins O fun y H'=>H'=H/\∃b,y=.bl b/\Q b) X.xe s:=by
 obtain⟨hne,_,_,h⟩:=h;cases x with
 |non=>
  cases(show u=bg from rx);obtain⟨b,h1,h2⟩:=h;exact run none b _ PySem.W.kitx_none cu (fun z=>nomatch z) h1 h2
 |ref e=>
  cases(show u=aN e from rx);obtain⟨m,C,d,fs,he,hd,b,h1,h2⟩:=h;obtain⟨oe,vs,g1,g2,g3,g4,g5⟩:=rN I.hok he;obtain⟨mA,n1,_⟩:=AI I.hok hd;obtain⟨od,ho,_⟩:=nu n1;have J:PySem.W.InstAt s.heap e oe C (some od):=⟨g1,g2,by unfold PySem.W.notCls;rw[g4],by rw[g3];exact ho⟩;have xk:qH X.K C:=by
   cases gs with
   |nil=>exact absurd rfl hne
   |cons g gs=>
    unfold qG at h1;split at h1
    ·rename_i D Cs hg;split at h1
     ·rename_i z;cases z
     ·rename_i C' z;cases z;split at h1
      ·rename_i hC;exact((hK g aG D Cs hg).2 C hC).1
      ·cases h1
    ·cases h1
  exact run (some C) b _ (O3 xk.totQ xk.ha xk.hn xk.htk) J (fun z=>nomatch z) h1 h2
 |_=>exact h.elim
theorem Ok.gy(ok:Ok X T Y E):∀{gs:List Nat}{es:List Expr},nc T gs es=true->∀g∈gs,∀(D:Addr) (Cs:List Addr),Y[g]?=some (G.gy D Cs)->gc X.K D Cs
|[],es,h,g,hg=>absurd hg aJ
|g::gs,[],h,_,_=>absurd (show false=true from h) aE
|g::gs,e::er,h,g',hg=>by
 have h':om T g e=true/\nc T gs er=true:=by simpa[nc]using h
 rcases aQ.mp hg with rfl|hg
 ·intro D Cs e1;obtain⟨h1,_⟩:=h';unfold om at h1;split at h1
  ·simp only[bx,decide_eq_true_eq]at h1;exact(ok.gl g' _ _ h1.1.1 e1).2
  ·exact absurd h1 aE
 ·exact ok.gy h'.2 g' hg
theorem L6(ok:Ok X T Y E){D:Addr}{Cs:List Addr}(h:om T g e=true)(hg:Y[g]?=some (G.gy D Cs)):∃y p,e=.Name y p/\Gl X y/\X.mg y=some (.ref D)/\(y==("__debug__":Str))=false:=by
 unfold om at h;split at h
 ·rename_i y p;simp only[bx,decide_eq_true_eq]at h;refine⟨y,p,rfl,?_,(ok.gl g y _ h.1.1 hg).1,by simpa using h.2⟩;have h2:=of_decide_eq_true h.1.2;rw[<-ok.sc]at h2;exact h2
 ·exact absurd h aE
theorem GI(ok:Ok X T Y E):∀(gs:List Nat) (es:List Expr),nc T gs es=true->PA X es (fun _ H Q=>∃Ds,uX Y gs Ds/\Q (Ds.map V.ref) H)
|[],es,h=>by
 cases es with
 |nil=>
  intro pos pins s O H Q I q;obtain⟨Ds,e,q⟩:=q;cases(show Ds=[]from e);exact A4 pos pins s O H Q I q
 |cons e er=>exact absurd (show false=true from h) aE
|g::gs,[],h=>absurd (show false=true from h) aE
|g::gs,e::er,h=>by
 have h':om T g e=true/\nc T gs er=true:=by simpa[nc]using h
 intro pos pins s O H Q I q;obtain⟨_,⟨D,r,Cs,rfl,hg,hr⟩,q⟩:=q;obtain⟨y,p,rfl,z1,z2,z3⟩:=L6 ok h'.1 hg;exact ym (yl (v:=.ref D) z1 z2 rfl z3) (GI ok gs er h'.2) rfl pos pins s O H Q I ⟨r,hr,q⟩
theorem pY:∀(Ds:List Addr) (us:List Value),bh (Ds.map V.ref) us->us=Ds.map aN
|[],us,h=>by cases h;rfl
|D::Ds,us,h=>by
 cases h with
 |cons h1 h2=>rw[pY Ds _ h2,show _=aN D from h1];rfl
theorem Pp(ok:Ok X T Y E)(hg:Gl X x)(hx:x="isinstance")(hm:X.mg x=none)(ha:PE X a ta)(hs:noStar a=true)(hc:ER T one gs c=true) :
  PE X (.Call (.Name x p) [a,c] [] pos) (fun O H Q=>ta O H fun v H1=>Br Y gs v H1 fun b=>Q (.bl b) H1):=by
 subst hx;intro pins s O H Q I h;refine dc (iW I hg hm mD ?_);have hn:noStar c=true:=by
  cases one with
  |true=>cases gs with
   |nil=>exact absurd (show false=true from hc) aE
   |cons g gs=>cases gs with
    |nil=>cases c<;>first|rfl|exact absurd (show false=true from hc) aE
    |cons g' gs=>exact absurd (show false=true from hc) aE
  |false=>cases c<;>first|rfl|exact absurd (show false=true from hc) aE
 have hst:cy [a,c] X.env=[(false,eval a X.env),(false,eval c X.env)]:=by rw[cZ hs,cZ hn];rfl
 refine d7 ?_ (cZ hs) (i9 (by simp[br,hn]));rw[hst];show aq _ _ (oO ((false,eval a X.env)::[(false,if false=true then _ else eval c X.env)])) _ _ s;refine cz (aY (ha pins s O H _ I h) fun u s1 ⟨v,H1,I1,r1,q1⟩=>?_);have fin:∀{s2:ah}{cv:Value},L2.Inv X pins O H1 s2->(aq (az X.prog X.w) X.A (call (.builtin "isinstance") [u,cv]) (EP X pins O fun y H'=>H'=H1/\∃b,y=.bl b/\Q (.bl b) H1) X.xe s2)->aq (az X.prog X.w) X.A (call (.builtin "isinstance") [u,cv]) (EP X pins O Q) X.xe s2:=
  fun I2 z=>aY z fun w s3 ⟨y,H3,I3,r3,e3,b,e4,qb⟩=>by subst e3 e4;exact⟨.bl b,_,I3,r3,qb⟩
 obtain⟨hne,hl,⟨Ds,hD⟩,_⟩:=id q1;cases one with
 |true=>
  cases gs with
  |nil=>exact absurd rfl hne
  |cons g gs=>cases gs with
   |cons g' gs=>exact absurd (show false=true from hc) aE
   |nil=>
    obtain⟨D,r,Cs,rfl,e1,hr⟩:=hD;obtain⟨y,py,rfl,z1,z2,z3⟩:=L6 ok (show om T g c=true from hc) e1;refine cz (lI I1 z1 z2 (fS ?_) z3);have hK:=ok.gy (gs:=[g]) (es:=[.Name y py]) (by simpa[nc]using(show om T g (.Name y py)=true from hc));refine fin I1 (DJ I1 r1 q1 hK fun c b Hx Z p hx e2 hq=>?_);have k:=xG [g] b hK e2 [D] ⟨D,[],Cs,rfl,e1,rfl⟩;have k1:PySem.W.kitOne X.K (pV c) (.ref D)=some b:=by
     have k:(match PySem.W.kitOne X.K (pV c) (.ref D)with|some true=>some true|some false=>some false|none=>none)=some b:=k;cases z:PySem.W.kitOne X.K (pV c) (.ref D)with
     |none=>rw[z]at k;cases k
     |some b'=>rw[z]at k;cases b'<;>exact k
    exact PySem.W.kia_one Z I1.dR p k1 hx fun tk=>⟨.bl b,H1,I1.tok _,rfl,rfl,b,rfl,hq⟩
 |false=>
  cases c<;>first|exact absurd (show false=true from hc) aE|skip
  rename_i es k tpos;have hc':br es=true/\nc T gs es=true:=by simpa[ER]using hc
  have hlD:∀{Ds:List Addr}{gs:List Nat},uX Y gs Ds->Ds.length=gs.length:=by
   intro Ds gs;induction gs generalizing Ds with
   |nil=>intro z;cases(show Ds=[]from z);rfl
   |cons g gs ih=>rintro⟨D,r,Cs,rfl,_,z⟩;simp[ih z]
  refine cz (mL (x1:=k) (aY (GI ok gs es hc'.2 tpos pins s1 O H1 (fun xs H2=>H2=H1/\xs=Ds.map V.ref) I1 ⟨Ds,hD,rfl,rfl⟩) fun us s2 ⟨xs,H2,I2,r,eH,ex⟩=>?_));subst eH ex;have eu:=pY Ds us r;subst eu;refine⟨by rw[aC,hlD hD,cD];omega,fS ?_⟩;have I3:L2.Inv X pins O H2 { s2 with heap:=s2.heap.push (tP (Ds.map aN)) }:=I2.kept (t':=s2.toks) fun b u q=>aj _ q;have hK:=ok.gy hc'.2;refine fin I3 (DJ I3 r1 q1 hK fun c b Hx Z p hx e2 hq=>?_);exact PySem.W.kia_tup Z I3.dR p (aO _ rfl) (xG gs b hK e2 Ds hD) hx fun tk=>⟨.bl b,H2,I3.tok _,rfl,rfl,b,rfl,hq⟩
theorem Nd:jX ("ValueError":Str)=some (.type "ValueError"):=by decide +kernel
theorem Pq(hK:∀Cs as,Y[g]?=some (G.mJ Cs as)->p9 X.K Cs as)(hg:Gl X x)(hx:x="isinstance")(hm:X.mg x=none)(hgy:Gl X y)(hy:y="ValueError")(hmy:X.mg y=none)(ha:PE X a ta)(hs:noStar a=true) :
  PE X (.Call (.Name x p) [a,.Name y py] [] pos) (fun O H Q=>ta O H fun v H1=>yw Y g v H1 fun b=>Q (.bl b) H1):=by
 subst hx hy;intro pins s O H Q I h;refine dc (iW I hg hm mD ?_);have hst:cy [a,.Name ("ValueError":Str) py] X.env=[(false,eval a X.env),(false,eval (.Name ("ValueError":Str) py) X.env)]:=by rw[cZ hs];rfl
 refine d7 ?_ (by rw[hst];rfl) rfl;rw[hst];show aq _ _ (oO ((false,eval a X.env)::[(false,eval (.Name ("ValueError":Str) py) X.env)])) _ _ s;refine cz (aY (ha pins s O H _ I h) fun u s1 ⟨v,H1,I1,r1,q1⟩=>?_);refine cz (iW I1 hgy hmy Nd (fS ?_));unfold yw at q1;split at q1
 ·rename_i Cs as e1;obtain⟨k1,k2⟩:=hK Cs as e1;split at q1
  ·cases(show u=bg from r1);exact PySem.W.kia_one PySem.W.kitx_none I1.dR cu k1 (fun z=>nomatch z) fun tk=>⟨.bl false,H1,I1.tok _,rfl,q1⟩
  ·rename_i e;cases(show u=aN e from r1);obtain⟨m,C,d,fs,he,hd,hC,q⟩:=q1;obtain⟨oe,vs,g1,g2,g3,g4,g5⟩:=rN I1.hok he;obtain⟨mA,n1,_⟩:=AI I1.hok hd;obtain⟨od,ho,_⟩:=nu n1;have J:PySem.W.InstAt s1.heap e oe C (some od):=⟨g1,g2,by unfold PySem.W.notCls;rw[g4],by rw[g3];exact ho⟩;have xk:=(k2 C hC).1;exact PySem.W.kia_one (O3 xk.totQ xk.ha xk.hn xk.htk) I1.dR J (k2 C hC).2.1 (fun z=>nomatch z) fun tk=>⟨.bl true,H1,I1.tok _,rfl,q⟩
  ·exact q1.elim
 ·exact q1.elim
theorem Pr{f:Str}(hK:∀Cs as,Y[g]?=some (G.mJ Cs as)->p9 X.K Cs as)(ha:PE X a ta)(hb:rV a=true):PE X (.Attribute a f pos) (fun O H Q=>ta O H fun v H1=>Bs Y g f v H1 Q):=by
 intro pins s O H Q I h;refine Dv (yD hb) (aY (ha pins s O H _ I h) fun u s1 ⟨v,H1,I1,r1,q1⟩=>?_);unfold Bs at q1;split at q1
 ·rename_i Cs as e1;split at q1
  ·rename_i e;cases(show u=aN e from r1);obtain⟨m,C,d,fs,he,hd,⟨hC,hf⟩,v,l,q⟩:=q1;have k:=(hK Cs as e1).2 C hC;exact MX I1 he hd k.1.totQ (k.2.2 f hf) l fun u' s2 I2 ru=>⟨v,H1,I2,ru,q⟩
  ·exact q1.elim
 ·exact q1.elim
end
section
variable{X:Cx}{pins:List (Addr×Obj)}{O:L2.St}{H:Hp}
theorem Pu{x:V}{v:Value}{tp:Addr}{dd:Option Addr}{sl:Array (Option Value)}{Q:Bool->Prop}(I:L2.Inv X pins O H s)(rx:RelV x v)(htp:s.heap.get? tp=some ⟨.type "tuple",dd,.seq [Value.type "list",.type "tuple"].toArray n,sl⟩)(h:oX X.K .none x H Q) :
  aq (az X.prog X.w) X.A (call (.builtin "isinstance") [v,.ref tp]) (EP X pins O fun u H'=>H'=H/\∃b,u=.bl b/\Q b) X.xe s:=by
 have fin:∀(b:Bool),Q b->∀tk,EP X pins O (fun u H'=>H'=H/\∃b,u=.bl b/\Q b) (.bool b) { s with toks:=tk }:=fun b q tk=>⟨.bl b,H,I.tok _,rfl,rfl,b,rfl,q⟩;cases x with
 |non=>cases(show v=bg from rx);exact PySem.W.kia_tup PySem.W.kitx_none I.dR cu htp rfl (fun z=>nomatch z) (fin _ h)
 |bl y=>cases(show v=oB y from rx);exact PySem.W.kia_tup PySem.W.kitx_bool I.dR cu htp rfl (fun z=>nomatch z) (fin _ h)
 |int i=>obtain⟨t,q⟩:=(show ∃t,v=jW i t from rx);cases q;exact PySem.W.kia_tup PySem.W.kitx_int I.dR cu htp rfl (fun z=>nomatch z) (fin _ h)
 |str y=>obtain⟨t,q⟩:=(show ∃t,v=nE y t from rx);cases q;exact PySem.W.kia_tup PySem.W.kitx_str I.dR cu htp rfl (fun z=>nomatch z) (fin _ h)
 |ref a=>
  cases(show v=aN a from rx);rcases h with⟨xs,hx,h⟩|⟨xs,hx,h⟩|⟨kvs,hk,h⟩
  ·rcases hx with e|⟨o,e⟩
   ·obtain⟨_,_,n,_,h1⟩:=(show cU X.prog X.w H s.heap a (.lst xs)from I.hok a _ e);exact PySem.W.kia_tup PySem.W.kitx_list I.dR ⟨_,h1,rfl⟩ htp rfl (fun z=>nomatch z) (fin _ h)
   ·obtain⟨_,_,_,n,_,h1⟩:=(show cU X.prog X.w H s.heap a (.bG o (.lst xs))from I.hok a _ e);exact PySem.W.kia_tup PySem.W.kitx_list I.dR ⟨_,h1,rfl⟩ htp rfl (fun z=>nomatch z) (fin _ h)
  ·obtain⟨its,_,⟨o,h1,h2,_⟩,_⟩:=I.tuple hx.jf;exact PySem.W.kia_tup PySem.W.kitx_tuple I.dR ⟨o,h1,h2⟩ htp rfl (fun z=>nomatch z) (fin _ h)
  ·rcases hk with hk|⟨ob,hk⟩
   ·obtain⟨_,_,vs,_,o,es,ep,h1,h2,_⟩:=(show cU X.prog X.w H s.heap a (.dK kvs)from I.hok a _ hk);exact PySem.W.kia_tup PySem.W.kitx_dict I.dR ⟨o,h1,h2.1⟩ htp rfl (fun z=>nomatch z) (fin _ h)
   ·obtain⟨_,_,_,vs,_,o,es,ep,h1,h2,_⟩:=(show cU X.prog X.w H s.heap a (.bG ob (.dK kvs))from I.hok a _ hk);exact PySem.W.kia_tup PySem.W.kitx_dict I.dR ⟨o,h1,h2.1⟩ htp rfl (fun z=>nomatch z) (fin _ h)
 |_=>exact ay h
theorem Pw{a:Expr}{ta:TE}{p1 p2 tpos:Pos}(hg:Gl X x)(hx:x="isinstance")(hm:X.mg x=none)(hg1:Gl X "list")(hm1:X.mg "list"=none)(hg2:Gl X "tuple")(hm2:X.mg "tuple"=none)(ha:PE X a ta)(hs:noStar a=true) :
  PE X (.Call (.Name x p) [a,.Tuple [.Name "list" p1,.Name "tuple" p2] k tpos] [] pos) (fun O H Q=>ta O H fun v H1=>oX X.K .none v H1 fun b=>Q (.bl b) H1):=by
 subst hx;intro pins s O H Q I h;refine dc (iW I hg hm mD ?_);have hst:cy [a,.Tuple [.Name "list" p1,.Name "tuple" p2] k tpos] X.env=[(false,eval a X.env),(false,eval (.Tuple [.Name "list" p1,.Name "tuple" p2] k tpos) X.env)]:=by rw[cZ hs];rfl
 refine d7 ?_ (by rw[hst];rfl) rfl;rw[hst];show aq _ _ (oO ((false,eval a X.env)::[(false,eval (.Tuple [.Name "list" p1,.Name "tuple" p2] k tpos) X.env)])) _ _ s;refine cz (aY (ha pins s O H _ I h) fun u s1 ⟨v,H1,I1,r1,q1⟩=>?_);refine cz (mL (x1:=k) ?_);show aq _ _ (oO ((false,eval (.Name "list" p1) X.env)::[(false,eval (.Name "tuple" p2) X.env)])) _ _ s1;refine cz (iW I1 hg1 hm1 (Ty.boot .list (by decide)) (cz (iW I1 hg2 hm2 (Ty.boot .tuple (by decide)) (fS ?_) (by decide +kernel) (by decide +kernel))) (by decide +kernel) (by decide +kernel));refine⟨by rw[cD];decide,fS ?_⟩;have I3:L2.Inv X pins O H1 { s1 with heap:=s1.heap.push (tP [Value.type "list",.type "tuple"]) }:=I1.kept (t':=s1.toks) fun b u q=>aj _ q;refine aY (Pu I3 r1 (aO _ rfl) q1) fun w s2 ⟨z,H2,I2,r2,e,b,ez,qb⟩=>?_;subst e ez;exact⟨.bl b,_,I2,r2,qb⟩
end
theorem o7:∀(xs ys:List V) (i:Nat) (it:Item),(nJ xs ys)[i]?=some it->∃x y,xs[i]?=some x/\ys[i]?=some y/\it=.tup [x,y]
|x::xs,y::ys,0,it,h=>by cases h;exact⟨x,y,rfl,rfl,rfl⟩
|x::xs,y::ys,i+1,it,h=>by
 have h:(nJ xs ys)[i]?=some it:=h;obtain⟨a,b,h1,h2,h3⟩:=o7 xs ys i it h;exact⟨a,b,h1,h2,h3⟩
|[],ys,i,it,h=>by cases ys<;>cases h
|_::_,[],i,it,h=>by cases h
theorem wm:∀(xs ys:List V),(nJ xs ys).length=min xs.length ys.length
|x::xs,y::ys=>by
 show(nJ xs ys).length+1=min (xs.length+1) (ys.length+1);rw[wm xs ys];omega
|[],ys=>by cases ys<;>simp[nJ]
|_::_,[]=>by simp[nJ]
noncomputable def JM(a b:Addr):It:=
 ⟨fun i H=>∃xs ys x y,Rd H a (.lst xs)/\Rd H b (.lst ys)/\xs[i]?=some x/\ys[i]?=some y,
fun i H v H'=>∃p x y,H p=none/\v=.ref p/\H'=upd H p (.tup [x,y])/\(∀xs,Rd H a (.lst xs)->xs[i]?=some x)/\∀ys,Rd H b (.lst ys)->ys[i]?=some y,
fun i H=>∃xs ys,Rd H a (.lst xs)/\Rd H b (.lst ys)/\(xs.length<=i\/ys.length<=i)⟩
theorem BB{xs ys:List V}:ly (JM a b) (fun H=>Rd H a (.lst xs)/\Rd H b (.lst ys)) (nJ xs ys) where
 go:=fun i H it ok hi=>by
  obtain⟨x,y,h1,h2,_⟩:=o7 xs ys i it hi;exact⟨xs,ys,x,y,ok.1,ok.2,h1,h2⟩
 yld:=fun i H it x H' ok hi hy k hk=>by
  obtain⟨x,y,h1,h2,rfl⟩:=o7 xs ys i it hi;obtain⟨p,u,v,hp,rfl,rfl,k1,k2⟩:=hy;have e1:=k1 xs ok.1;have e2:=k2 ys ok.2;rw[h1]at e1;rw[h2]at e2;cases e1;cases e2;exact hk p hp
 stop:=fun i H ok hi=>⟨xs,ys,ok.1,ok.2,by rw[wm]at hi;omega⟩
def L7(a b z t1 t2 i1 i2:Addr)(i:Nat)(h:Heap):Prop:=iK h z t1 t2 .none/\eN h t1 (.ref i1) (.ref i2)/\(∃u v,eN h t2 u v)/\h.IsListIter i1 a i/\h.IsListIter i2 b i
def GJ(Cm:Cx->Prop)(P:a_)(w:bC)(a b z t1 t2 i1 i2:Addr):Prop:=∀(X:Cx),X.prog=P->X.w=w->Cm X->∀(i:Nat) (pins:List (Addr×Obj)) (s:ah) (O:L2.St) (H:Hp) (E:Value->ah->Prop) (Q:Option Value->ah->Prop) (xs ys:Array Value) (u v:Value),L2.Inv X pins O H s->(∀b∈[z,t1,t2,i1,i2],gS X pins H b)->
 iK s.heap z t1 t2 .none->eN s.heap t1 (.ref i1) (.ref i2)->eN s.heap t2 u v->s.heap.IsListIter i1 a i->s.heap.IsListIter i2 b i->s.heap.IsList a xs->s.heap.IsList b ys->(xs[i]?=none\/ys[i]?=none)->
 (∀h',(∀c o,c≠z->c≠t2->c≠i1->c≠i2->s.heap.get? c=some o->h'.get? c=some o)->Q none { s with heap:=h' })->aq (az P w) X.A (gk (.ref z)) Q E s
theorem zG{x1}(a b z t1 t2 i1 i2:Addr)(D:j5 z t1 t2 i1 i2 a b)(hE:GJ Cm P w a b z t1 t2 i1 i2):xE Cm P w K (.Tuple elts x1 pos) (JM a b) [z,t1,t2,i1,i2] z (L7 a b z t1 t2 i1 i2) where
 obj:=fun i h st c hc=>by
  obtain⟨s1,s2,⟨u,v,s3⟩,s4,s5⟩:=st;have hc:c=z\/c=t1\/c=t2\/c=i1\/c=i2:=by simpa using hc
  rcases hc with rfl|rfl|rfl|rfl|rfl
  ·exact⟨_,s1,fun v z=>by cases z⟩
  ·exact⟨_,s2,fun v z=>by cases z⟩
  ·exact⟨_,s3,fun v z=>by cases z⟩
  ·obtain⟨o,e,c,d⟩:=s4;exact⟨o,e,fun v z=>by rw[d]at z;cases z⟩
  ·obtain⟨o,e,c,d⟩:=s5;exact⟨o,e,fun v z=>by rw[d]at z;cases z⟩
 keep:=fun i h h' st k=>by
  obtain⟨s1,s2,⟨u,v,s3⟩,s4,s5⟩:=st;exact⟨k z (by simp) _ s1,k t1 (by simp) _ s2,⟨u,v,k t2 (by simp) _ s3⟩,s4.at fun o q=>k i1 (by simp) o q,s5.at fun o q=>k i2 (by simp) o q⟩
 item:=by
  intro X hP hw hK hc i pins s O H E I hf st hg;subst hP hw hK;obtain⟨s1,s2,⟨u0,v0,s3⟩,s4,s5⟩:=st;obtain⟨xs,ys,x,y,hq,hr,hx,hy⟩:=hg;obtain⟨its,rv,p,hz⟩:=I.list (.inl hq:fy X.K H a xs);obtain⟨its',rv',p',hz'⟩:=I.list (.inl hr:fy X.K H b ys);obtain⟨u,hu,ru⟩:=rv.get hx;obtain⟨v,hv,rw'⟩:=rv'.get hy;refine wpAny_pyNext_zip_item D s1 s2 s3 s4 s5 p.isList p'.isList (x:=u) (y:=v) (by simpa using hu) (by simpa using hv) fun h1 hz1 ho1 hi1 hi2 hn1 hsz hk1=>?_;refine⟨_,rfl,oF (s:={ s with heap:=h1 }) hz1 fun h2 hz2 hs2=>?_⟩;have hs2:gZ z h1 h2:=hs2;have lee:z<s.heap.objs.size:=au s1;have ne_e:s.heap.objs.size≠z:=jb lee;have ht2:h2.get? s.heap.objs.size=some { cls:=.type "tuple",data:=.seq #[u,v] }:=(hs2.2 _ ne_e).trans hn1;have hk2:∀c o,c∉[z,t1,t2,i1,i2]->s.heap.get? c=some o->h2.get? c=some o:=fun c o hc q=>by
   have hc:c≠z/\c≠t1/\c≠t2/\c≠i1/\c≠i2:=by simpa using hc
   exact(hs2.2 c hc.1).trans (hk1 c o hc.1 hc.2.2.1 hc.2.2.2.1 hc.2.2.2.2 q)
  have hn:H s.heap.objs.size=none:=I.hok.fresh (aT _);have hfr:∀c∈[z,t1,t2,i1,i2],H c=none:=fun c hc=>(hf c hc).1;have hok2:d9 X.prog X.w (upd H s.heap.objs.size (.tup [x,y])) h2:=by
   have h0:d9 X.prog X.w H h2:=j_ (X:=X) (pins:=pins) I.hok hfr hk2;intro c o q;by_cases hb:c=s.heap.objs.size
   ·subst hb;rw[bu]at q;cases q;refine⟨by show(2:Nat)<=_;have:=cD;omega,[u,v],.cons ru (.cons rw' .nil),⟨_,ht2,rfl,_,rfl⟩⟩
   ·rw[aK hb]at q;exact(h0 c o q).stay (fun _ _ _ r=>r) (fun c r=>by rw[aK (bQ r hn)];exact r) fun c ys r=>by rw[aK (bQ r hn)];exact r
  have I2:L2.Inv X pins O (upd H s.heap.objs.size (.tup [x,y])) { s with heap:=h2,toks:=s.toks }:=
   Inv.oJ (ch:=[z,t1,t2,i1,i2]) I hf hk2 (fun c o hb q n=>by rw[aK (be (au q))];exact n) (fun c o q=>by rw[aK (bQ q hn)];exact q) hok2
  refine⟨.ref s.heap.objs.size,_,I2,rfl,⟨_,x,y,hn,rfl,rfl,fun zs hy'=>by rw[I.oS (.inl hy') (.inl hq:fy X.K H a xs)];exact hx,fun zs hy'=>by rw[I.oS (.inl hy') (.inl hr:fy X.K H b ys)];exact hy⟩,⟨hz2,?_,⟨u,v,?_⟩,?_,?_⟩,fun c hc=>?_⟩
  ·exact(hs2.2 _ D.TIz).trans (hk1 _ _ D.TIz D.TITO D.TIi1 D.TIi2 s2)
  ·exact(hs2.2 _ D.TOz).trans ho1
  ·exact hi1.at fun o q=>(hs2.2 i1 D.i1z).trans q
  ·exact hi2.at fun o q=>(hs2.2 i2 D.i2z).trans q
  ·have hlt:c<s.heap.objs.size:=by
    have hc:c=z\/c=t1\/c=t2\/c=i1\/c=i2:=by simpa using hc
    rcases hc with rfl|rfl|rfl|rfl|rfl
    ·exact lee
    ·exact au s2
    ·exact au s3
    ·obtain⟨o,q,_⟩:=s4;exact au q
    ·obtain⟨o,q,_⟩:=s5;exact au q
   rw[aK (be hlt)];exact hfr c hc
 done:=by
  intro X hP hw hK hc i pins s O H E I hf st hg;subst hP hw hK;obtain⟨s1,s2,⟨u0,v0,s3⟩,s4,s5⟩:=st;obtain⟨xs,ys,hq,hr,hx⟩:=hg;obtain⟨its,rv,p,hz⟩:=I.list (.inl hq:fy X.K H a xs);obtain⟨its',rv',p',hz'⟩:=I.list (.inl hr:fy X.K H b ys);have hl:=rv.length;have hl':=rv'.length;have hfr:∀c∈[z,t1,t2,i1,i2],H c=none:=fun c hc=>(hf c hc).1;refine hE X rfl rfl hc i pins s O H E _ _ _ _ _ I hf s1 s2 s3 s4 s5 p.isList p'.isList ?_ fun h' eb=>⟨rfl,?_⟩
  ·rcases hx with hx|hx
   ·exact .inl (by simp;omega)
   ·exact .inr (by simp;omega)
  ·have hk:∀c o,c∉[z,t1,t2,i1,i2]->s.heap.get? c=some o->h'.get? c=some o:=fun c o hb q=>by
    have hc:c≠z/\c≠t1/\c≠t2/\c≠i1/\c≠i2:=by simpa using hb
    exact eb c o hc.1 hc.2.2.1 hc.2.2.2.1 hc.2.2.2.2 q
   exact Inv.oJ (t':=s.toks) (ch:=[z,t1,t2,i1,i2]) I hf hk (fun _ _ _ _ n=>n) (fun _ _ q=>q) (j_ (X:=X) (pins:=pins) I.hok hfr hk)
 self:=fun _ _ _ _ _ st h=>h_ st.1 h
theorem JN{x1}(a b z t1 t2 i1 i2:Addr)(D:j5 z t1 t2 i1 i2 a b):Turn P w K (.Tuple elts x1 pos) (JM a b) [z,t1,t2,i1,i2] z (L7 a b z t1 t2 i1 i2):=
 have T:=zG (Cm:=fun X=>X.calm=true) (K:=K) (elts:=elts) (x1:=x1) (pos:=pos) a b z t1 t2 i1 i2 D fun X hP hw hc i pins s O H E Q xs ys u v I hf s1 s2 s3 s4 s5 l1 l2 he q=>by
  subst hP hw;exact wpAny_pyNext_zip_end (I.ok.hd hc) D s1 s2 s3 s4 s5 l1 l2 he q
 ⟨by simp,T.obj,T.keep,T.item,T.done,T.self⟩
variable{items:Array Value}{l:Addr}
variable{Q:Option Value->ah->Prop}
variable{h:Heap}
section
variable{P:a_}{w:bC}{A:bU}{E:Value->ah->Prop}{s:ah}
theorem Aq:entryFor table "proto.unchain"=some m7.«proto.unchain»:=entryFor_of_tree (by kernel_rfl)
structure mK (h:Heap) (e:Addr):Prop where
 ex:∃o vs,h.get? e=some o/\o.data=.fields vs/\vs[2]?=some .none
theorem mK.mono{e:Addr}(x:mK h e)(k:gf a h h')(n:e≠a):mK h' e:=by
 obtain⟨o,vs,h1,h2,h3⟩:=x.ex;exact⟨o,vs,k e o n h1,h2,h3⟩
theorem JO{e:Addr}{oa:Obj}{us:Array Value}{Q:α->ah->Prop}(hh:A.handled=some (.ref e))(hd:mK s.heap e)(hne:a≠e)(ha:s.heap.get? a=some oa)(had:oa.data=.fields us)(h2:2<us.size)
  (q:E (.ref a) { s with heap:=s.heap.update a (k8 (·.setIfInBounds 2 (.ref e))) }):aq (az P w) A (wZ (.ref a):Sem α) Q E s:=by
 obtain⟨o,vs,h1,hv,hc⟩:=hd.ex;unfold wZ;refine aa (AF ?_);rw[hh];show aq _ _ (if(aN e != aN a)=true then(do let _ <-lQ [.ref a] (runValue (.builtin "proto.unchain" ⟨[.ref a,.ref e,.ref e,.bool false],[]⟩));let _ <-Di a 2 (.ref e);throw (.ref a))else throw (.ref a)) _ _ s;rw[if_pos (by rw[bne_iff_ne];intro z;injection z with z;exact hne z.symm)];refine aa (cW (wpAny_runValue (codeAny_builtin Aq ?_)));show aq _ _ (iV (.ref e) 2 >>= _) _ _ s;refine aa (bK h1 hv hc ?_);show aq _ _ (if(bg==bg)=true then(ret .none >>= fun x=>pure x)else _) _ _ s;rw[if_pos (show(bg==bg)=true from rfl)];refine aa (aD (aD ?_));show aq _ _ (Di a 2 (.ref e) >>= _) _ _ s;refine aa ?_;exact f9 (x:=.ref e) ha had h2 (Dj q)
theorem yE{e:Addr}{Q:α->ah->Prop}(hh:A.handled=some (.ref e))(hd:mK s.heap e)
  (q:∀h' x,(∀b o,s.heap.get? b=some o->h'.get? b=some o)->(∃o,h'.get? x=some o/\o.cls=.type "StopIteration")->E (.ref x) { s with heap:=h' }) :
  aq (az P w) A (do let x <-CL (.type "StopIteration") [];wZ x:Sem α) Q E s:=by
 have lt:e<s.heap.objs.size:=by obtain⟨_,_,z,_⟩:=hd.ex;exact au z
 refine aa ?_;simp only[CL,newTuple];refine aa (gD ?_ (by size_fits));refine aa (m:=m8 _ _) (Dk (a:=bg) (by first|rfl|(simp only[m8];rfl)) ?_);refine gD ?_ (by size_fits);have up:∀b o (u v:Obj),s.heap.get? b=some o->((s.heap.push u).push v).get? b=some o:=fun b o u v x=>aj _ (aj _ x);have ne:∀b (u:Obj),b<s.heap.objs.size->(s.heap.push u).objs.size≠b:=fun b u x z=>by
  rw[dG]at z;exact absurd x (kC.mpr (c9 (kP _) (l_ z)))
 refine JO (e:=e) hh ?_ (ne e _ lt) (aO _ rfl) rfl (bw (m:=6) (by decide) (by rw[Array.size_append];exact jq 6 _)) (q _ _ ?_ ⟨_,gq _ (aO _ rfl) rfl,rfl⟩)
 ·obtain⟨o,vs,h1,h2⟩:=hd.ex;exact⟨o,vs,up _ _ _ _ h1,h2⟩
 ·intro b u eb;exact(dh _ _ (ne b _ (au eb))).trans (up _ _ _ _ eb)
theorem BC{e:Addr}{Q:Fin->ah->Prop}(hh:A.handled=some (.ref e))(hd:mK s.heap e)(nei:e≠it)(hit:s.heap.IsListIter it l i)(hl:s.heap.IsList l items)(hx:items[i]?=none)
  (hE:∀h' x,gf it s.heap h'->(∃o,h'.get? x=some o/\o.cls=.type "StopIteration")->E (.ref x) { s with heap:=h' }) :
  aq (az P w) A (m7.«list_iterator.__next__» ⟨[.ref it],[]⟩) Q E s:=by
 obtain⟨o,ho,hc,hdt⟩:=id hit;obtain⟨ol,hol,_,nl,hdl⟩:=hl;show aq _ _ (iV (.ref it) 0 >>= _) _ _ s;refine aa (bK ho hdt (x:=.ref l) rfl ?_);show aq _ _ (if(aN l==bg)=true then _ else _) _ _ s;rw[if_neg (show ¬((aN l==bg)=true)from aE)];show aq _ _ (iV (.ref it) 1 >>= _) _ _ s;refine aa (bK ho hdt (x:=.int i 0) rfl (aa (cX hol hdl ?_)));simp only[iU,hx];refine aa (kD (aa (f9 ho hdt (by simp) ?_)));exact yE hh (hd.mono (dY ..).extBut nei) fun h' x k z=>hE h' x (fun b u nb eb=>k b u ((dY ..).extBut b u nb eb)) z
theorem JP{e:Addr}{Q:Fin->ah->Prop}(hh:A.handled=some (.ref e))(hd:mK s.heap e)(nei:e≠it)(hit:IsTupIter s.heap it l i)(hl:IsTup s.heap l items)(hx:items[i]?=none)
  (hE:∀h' x,gf it s.heap h'->(∃o,h'.get? x=some o/\o.cls=.type "StopIteration")->E (.ref x) { s with heap:=h' }) :
  aq (az P w) A (m7.«tuple_iterator.__next__» ⟨[.ref it],[]⟩) Q E s:=by
 obtain⟨o,ho,hc,hdt⟩:=id hit;obtain⟨ol,hol,_,nl,hdl⟩:=hl;show aq _ _ (iV (.ref it) 0 >>= _) _ _ s;refine aa (bK ho hdt (x:=.ref l) rfl ?_);show aq _ _ (if(aN l==bg)=true then _ else _) _ _ s;rw[if_neg (show ¬((aN l==bg)=true)from aE)];show aq _ _ (iV (.ref it) 1 >>= _) _ _ s;refine aa (bK ho hdt (x:=.int i 0) rfl (aa (cX hol hdl ?_)));simp only[iU,hx];refine aa (kD (aa (f9 ho hdt (by simp) ?_)));exact yE hh (hd.mono (dY ..).extBut nei) fun h' x k z=>hE h' x (fun b u nb eb=>k b u ((dY ..).extBut b u nb eb)) z
theorem DK{e:Addr}{Q:Value->ah->Prop}(hh:A.handled=some (.ref e))(hd:mK s.heap e)(nei:e≠it)(hit:s.heap.IsListIter it l i)(hl:s.heap.IsList l items)(hx:items[i]?=none)
  (hE:∀h' x,gf it s.heap h'->(∃o,h'.get? x=some o/\o.cls=.type "StopIteration")->E (.ref x) { s with heap:=h' }) :
  aq (az P w) A (bF (.ref it)) Q E s:=by
 unfold bF;exact aa (cH (name:=gn "__next__") hit.typeIs j6 (dQ j6 hit.typeIs tw (BC (show A.in1.handled=_ from hh) hd nei hit hl hx hE) (uM _)))
theorem Nf{e:Addr}(hh:A.handled=some (.ref e))(hd:mK s.heap e)(nei:e≠it)(hit:s.heap.IsListIter it l i)(hl:s.heap.IsList l items)(hx:items[i]?=none)
  (hQ:∀h',gf it s.heap h'->Q none { s with heap:=h' }):aq (az P w) A (gk (.ref it)) Q E s:=by
 unfold gk;refine aa (gw (cH (name:=gn "__next__") hit.typeIs j6 (dQ j6 hit.typeIs tw (BC (show A.in1.handled=_ from hh) hd nei hit hl hx fun h' x k z=>?_) (uM _))));obtain⟨o,ho,hc⟩:=z;exact aa (jr (T:="StopIteration") (b:=true) ⟨o,ho,hc⟩ kE (aD (hQ _ k)))
theorem Ng{e:Addr}(hh:A.handled=some (.ref e))(hd:mK s.heap e)(nei:e≠it)(hit:IsTupIter s.heap it l i)(hl:IsTup s.heap l items)(hx:items[i]?=none)
  (hQ:∀h',gf it s.heap h'->Q none { s with heap:=h' }):aq (az P w) A (gk (.ref it)) Q E s:=by
 unfold gk;refine aa (gw (cH (name:=gn "__next__") hit.typeIs tB (dQ tB hit.typeIs entry_tupleiter_next (JP (show A.in1.handled=_ from hh) hd nei hit hl hx fun h' x k z=>?_) (args_tupleiter_next _))));obtain⟨o,ho,hc⟩:=z;exact aa (jr (T:="StopIteration") (b:=true) ⟨o,ho,hc⟩ kE (aD (hQ _ k)))
theorem Px{e:Addr}(hh:A.handled=some (.ref e))(I ax:Addr)(hne:ax≠I)(nei:e≠I)(items:Array Value) :
  Walks P w A I [I,ax,e] [I] items.size (fun i v=>items[i]?=some v) (fun i h=>(h.IsListIter I ax i/\h.IsList ax items)/\mK h e) where
 sub:=fun b hb=>by simp at hb;simp[hb]
 frame:=fun _ _ _ st hk=>⟨⟨st.1.1.at fun o e=>hk I (by simp) o e,st.1.2.at fun o e=>hk ax (by simp) o e⟩,by
  obtain⟨o,vs,h1,h2⟩:=st.2.ex;exact⟨o,vs,hk e (by simp) o h1,h2⟩⟩
 item:=fun i s Q E hi st hQ=>by
  refine qO st.1.1 st.1.2 (x:=items[i]) (by simp[hi]) fun h' hit' hs'=>?_;exact hQ _ h' s.toks (by simp[hi]) ⟨⟨hit',st.1.2.extBut hs'.extBut hne⟩,st.2.mono hs'.extBut nei⟩ fun b o hb e=>hs'.extBut b o (fun h=>hb (by simp[h])) e
 done:=fun s Q E st hQ=>Nf hh st.2 nei st.1.1 st.1.2 (by simp) fun h' he'=>hQ h' s.toks fun b o hb e=>he' b o (fun h=>hb (by simp[h])) e
 self:=fun _ _ _ _ st hQ=>rA st.1.1 hQ
end
variable{xs:Array Value}{z TI TO i1 i2 l1 l2:Addr}{k1:Nat}
variable{t:Addr}
section
variable{P:a_}{w:bC}{A:bU}{E:Value->ah->Prop}{s:ah}
theorem Nh{e:Addr}{Q:List Value->ah->Prop}(hh:A.handled=some (.ref e))(hd:mK s.heap e)(ht:IsTup s.heap t items)
  (hQ:∀h',gf s.heap.objs.size s.heap h'->Q items.toList { s with heap:=h' }):aq (az P w) A (Dl (.ref t) items.size none) Q E s:=by
 have hlt:t≠s.heap.objs.size:=by obtain⟨o,ho,_⟩:=ht;exact be (au ho)
 have nee:e≠s.heap.objs.size:=by obtain⟨o,vs,ho,_⟩:=hd.ex;exact be (au ho)
 unfold Dl;refine aa ?_;unfold notIterableAtAll;refine aa (qx ht.typeIs slot_tuple_iter.lookup (aD ?_));simp only[jZ,if_false];refine aa (cW (iter_tuple ht (aa (cW (draw_tuple hlt items.size 0 _ _ ⟨_,aO _ rfl,rfl,rfl⟩ (ht.push _) (by omega) fun TN UA TR=>?_)))));rw[show List.take items.size (List.drop 0 items.toList)=items.toList by rw[rH];exact eY (by simp)];rw[if_neg (by simp)];have hd1:mK TN e:=by
  obtain⟨o,vs,h1,h2⟩:=hd.ex;exact⟨o,vs,TR.extBut e o nee (aj _ h1),h2⟩
 refine aa (cW (Ng hh hd1 nee UA ((ht.push _).extBut TR.extBut hlt) (by simp) fun TV UB=>?_));simp only[Option.isSome_none,jZ,if_false];exact aD (hQ TV fun b o hb x=>UB b o hb (TR.extBut b o hb (aj _ x)))
theorem Ni{x1}{e:Addr}{Q:Unit->ah->Prop}(hh:A.handled=some (.ref e))(hd:mK s.heap e)(ht:IsTup s.heap t items)
  (hn:(dZ elts env).length=items.size) (hstar:(dZ elts env).findIdx? (·.1)=none)
  (h:∀h',gf s.heap.objs.size s.heap h'->aq (az P w) A (Av ((dZ elts env).map (·.2)) items.toList) Q E { s with heap:=h' }) :
  aq (az P w) A (l8 (.Tuple elts x1 pos) env (.ref t)) Q E s:=by
 rw[assign_Tuple];refine aa (ju ?_);unfold unpack;rw[hn,hstar];exact aa (cW (Nh hh hd ht h))
theorem Nj{e:Addr}{a b:Value}(hh:A.handled=some (.ref e))(hd:mK s.heap e)(D:j5 z TI TO i1 i2 l1 l2)(nez:e≠z)(ne1:e≠i1)
  (hz:iK s.heap z TI TO .none) (hTI:eN s.heap TI (.ref i1) (.ref i2)) (hTO:eN s.heap TO a b)
  (h1:s.heap.IsListIter i1 l1 k1) (hl1:s.heap.IsList l1 xs) (hend:xs[k1]?=none)
  (hQ:∀h',(∀c o,c≠z->c≠TO->c≠i1->c≠i2->s.heap.get? c=some o->h'.get? c=some o)->Q none { s with heap:=h' }):aq (az P w) A (gk (.ref z)) Q E s:=by
 have ty:s.TypeIs (.ref z) "zip":=⟨_,hz,rfl⟩;unfold gk;refine aa (gw (cH (name:=gn "__next__") ty F.slot_zip_next (dQ F.slot_zip_next ty F.entry_zip_next ?_ (F.args_zip_next_1 _))));show aq _ _ (iV (.ref z) 2 >>= _) _ _ _;refine aa (bK hz rfl (x:=.bool false) rfl ?_);show aq _ _ (iV (.ref z) 3 >>= _) _ _ _;refine aa (bK hz rfl (x:=.ref TI) rfl (aa (cX hTI rfl ?_)));show aq _ _ (bN (.ref z) >>= _) _ _ _;refine aa ?_;unfold bN;refine aa (bK hz rfl (x:=.none) rfl (aD ?_));simp only[if_true];refine aa (kD (aa (bK hz rfl (x:=.ref TO) rfl (aa (dg hz (by simp) fun TN T8 TR=>?_)))));replace T8:iK TN z TI TO .ellipsis:=T8;refine aa ?_;simp only[lH,mE,jO,ku];refine aa (aa (gx ?_));show aq _ _ (bF (.ref i1) >>= _) _ _ _;refine aa (DK (show A.in1.handled=_ from hh) (hd.mono TR.extBut nez) ne1 (h1.extBut TR.extBut D.i1z) (hl1.extBut TR.extBut D.l1z) hend fun TV x T5 he=>?_);obtain⟨oe,hoe,hce⟩:=he;have Uq:iK TV z TI TO .ellipsis:=T5 _ _ D.i1z.symm T8;have hez:x≠z:=fun q=>by subst q;rw[Uq]at hoe;cases hoe;simp at hce
 refine dg Uq (by simp) fun T4 _ T7=>?_;exact aa (jr (T:="StopIteration") (b:=true) ⟨oe,T7.extBut _ _ hez hoe,hce⟩ kE (aD (hQ _ fun c o c1 _ c3 _ q=>T7.extBut _ _ c1 (T5 _ _ c3 (TR.extBut _ _ c1 q)))))
end
section
variable{X:Cx}{pins:List (Addr×Obj)}{O:L2.St}{H:Hp}{s:ah}
theorem eS.now(h:eS X)(I:L2.Inv X pins O H s):∃e,X.A.handled=some (.ref e)/\mK s.heap e/\H e=none/\∀b,(b∈X.ex\/X.Tz.heap.objs.size<=b)->e≠b:=by
 obtain⟨e,oe,vs,h1,h2,h3,h4,h5,h6,h7⟩:=h;refine⟨e,h1,⟨oe,vs,I.base.keep e oe h2 h5 h6 h7,h3,h4⟩,I.base.free e oe h2 h5 h7,fun b hb z=>?_⟩;subst z;rcases hb with hb|hb
 ·exact h7 hb
 ·exact absurd (au h2) (kC.mpr hb)
theorem eS.comp(h:eS X)(I:L2.Inv X pins O H s)(hf:∀b∈fp,gS X pins H b)(C:Addr)(Tz:ah)(ex:List Addr)(up:∀b o,s.heap.get? b=some o->Tz.heap.get? b=some o)
  (hx:∀b∈ex,s.heap.objs.size<=b\/b∈fp):eS (ee X N scope C Tz H ex):=by
 obtain⟨e,oe,vs,h1,h2,h3,h4,h5,h6,h7⟩:=id h;have k:=I.base.keep e oe h2 h5 h6 h7;have lt:=au h2;refine⟨e,oe,vs,h1,up _ _ k,h3,h4,I.base.free e oe h2 h5 h7,fun z=>?_,fun z=>?_⟩
 ·rcases aQ.mp (I.nt e z)with q|q
  ·exact absurd lt (kC.mpr (by rw[q];exact I.ok.above))
  ·exact h6 q
 ·rcases hx e z with q|q
  ·exact absurd (au k) (kC.mpr q)
  ·rcases(hf e q).2.2.2.1 with q|q
   ·exact h7 q
   ·exact absurd lt (kC.mpr q)
end
variable{ys:Array Value}
section
variable{P:a_}{w:bC}{A:bU}{E:Value->ah->Prop}{s:ah}
theorem JQ{e:Addr}{k2:Nat}{x a b:Value}(hh:A.handled=some (.ref e))(hd:mK s.heap e)(D:j5 z TI TO i1 i2 l1 l2)(nez:e≠z)(ne1:e≠i1)(ne2:e≠i2)(neo:e≠TO)
  (hz:iK s.heap z TI TO .none) (hTI:eN s.heap TI (.ref i1) (.ref i2)) (hTO:eN s.heap TO a b)
  (h1:s.heap.IsListIter i1 l1 k1) (h2:s.heap.IsListIter i2 l2 k2) (hl1:s.heap.IsList l1 xs) (hl2:s.heap.IsList l2 ys) (hx:xs[k1]?=some x) (hy:ys[k2]?=none)
  (hQ:∀h',(∀c o,c≠z->c≠TO->c≠i1->c≠i2->s.heap.get? c=some o->h'.get? c=some o)->Q none { s with heap:=h' }):aq (az P w) A (gk (.ref z)) Q E s:=by
 have ty:s.TypeIs (.ref z) "zip":=⟨_,hz,rfl⟩;unfold gk;refine aa (gw (cH (name:=gn "__next__") ty F.slot_zip_next (dQ F.slot_zip_next ty F.entry_zip_next ?_ (F.args_zip_next_1 _))));show aq _ _ (iV (.ref z) 2 >>= _) _ _ _;refine aa (bK hz rfl (x:=.bool false) rfl ?_);show aq _ _ (iV (.ref z) 3 >>= _) _ _ _;refine aa (bK hz rfl (x:=.ref TI) rfl (aa (cX hTI rfl ?_)));show aq _ _ (bN (.ref z) >>= _) _ _ _;refine aa ?_;unfold bN;refine aa (bK hz rfl (x:=.none) rfl (aD ?_));simp only[if_true];refine aa (kD (aa (bK hz rfl (x:=.ref TO) rfl (aa (dg hz (by simp) fun TN T8 TR=>?_)))));replace T8:iK TN z TI TO .ellipsis:=T8;refine aa ?_;simp only[lH,mE,jO,ku];refine aa (aa (gx ?_));show aq _ _ (bF (.ref i1) >>= _) _ _ _;refine aa (wpAny_nextOf_list_item (h1.extBut TR.extBut D.i1z) (hl1.extBut TR.extBut D.l1z) hx fun TV UC T5=>aD ?_);have Ur:eN TV TO a b:=T5.extBut _ _ D.TOi1 (TR.extBut _ _ D.TOz hTO);refine aa (cX Ur rfl (aa (jt Ur fun T4 UD T7=>aa (qT (aD ?_)))));refine aa (aa (gx ?_));show aq _ _ (bF (.ref i2) >>= _) _ _ _;refine aa (DK (show A.in1.handled=_ from hh) (((hd.mono TR.extBut nez).mono T5.extBut ne1).mono T7.extBut neo) ne2 (((h2.extBut TR.extBut D.i2z).extBut T5.extBut D.i12.symm).extBut T7.extBut D.TOi2.symm)
  (((hl2.extBut TR.extBut D.l2z).extBut T5.extBut D.l2i1).extBut T7.extBut D.l2TO) hy fun Ud x Us he=>?_)
 obtain⟨oe,hoe,hce⟩:=he;have Ut:iK Ud z TI TO .ellipsis:=Us _ _ D.i2z.symm (T7.extBut _ _ D.TOz.symm (T5.extBut _ _ D.i1z.symm T8));have hez:x≠z:=fun q=>by subst q;rw[Ut]at hoe;cases hoe;simp at hce
 refine dg Ut (by simp) fun Uo _ Uu=>?_;exact aa (jr (T:="StopIteration") (b:=true) ⟨oe,Uu.extBut _ _ hez hoe,hce⟩ kE (aD (hQ _ fun c o c1 c2 c3 c4 q=>Uu.extBut _ _ c1 (Us _ _ c4 (T7.extBut _ _ c2 (T5.extBut _ _ c3 (TR.extBut _ _ c1 q)))))))
end
def wo(A:bU)(h:Heap)(fp:List Addr):Prop:=A.handled=none\/∃e,A.handled=some (.ref e)/\mK h e/\∀b∈fp,e≠b
theorem wo.mono(x:wo A h fp)(k:gf a h h')(m:a∈fp):wo A h' fp:=by
 rcases x with x|⟨e,x1,x2,x3⟩
 ·exact .inl x
 ·exact .inr ⟨e,x1,x2.mono k (x3 a m),x3⟩
theorem eS.or(h:eS X)(I:L2.Inv X pins O H s)(hf:∀b∈fp,gS X pins H b):wo X.A s.heap fp:=by
 obtain⟨e,h1,h2,h3,h4⟩:=h.now I;exact .inr ⟨e,h1,h2,fun b hb=>h4 b (hf b hb).2.2.2.1⟩
theorem JR{t1 t2:Addr}(D:j5 z t1 t2 i1 i2 a b):GJ eS P w a b z t1 t2 i1 i2:=fun X hP hw hc i pins s O H E Q xs ys u v I hf s1 s2 s3 s4 s5 l1 l2 he q=>by
 subst hP hw;obtain⟨e,h1,h2,h3,h4⟩:=hc.now I;have ne:∀c∈[z,t1,t2,i1,i2],e≠c:=fun c hc=>h4 c (hf c hc).2.2.2.1;cases hx:xs[i]? with
 |none=>exact Nj h1 h2 D (ne z (by simp)) (ne i1 (by simp)) s1 s2 s3 s4 l1 hx q
 |some x=>exact JQ h1 h2 D (ne z (by simp)) (ne i1 (by simp)) (ne i2 (by simp)) (ne t2 (by simp)) s1 s2 s3 s4 s5 l1 l2 hx (he.resolve_left fun z=>by rw[hx]at z;cases z) q
section
variable{X:Cx}
theorem Nk{t:tF}(hc:eS X)(h:vz X es t)(hn:(dZ es X.env).length=n)(hst:(dZ es X.env).findIdx? (·.1)=none):PG X (.Tuple es k pos) (Ox X.K n t):=by
 intro pins s O H v u Q I r hw;obtain⟨a,xs,e1,hq,hl,hw⟩:=hw;subst e1;cases r;obtain⟨its,rv,ht,hz⟩:=I.tuple hq;obtain⟨e,h1,h2,_,_⟩:=hc.now I;refine Ni h1 h2 ht (by simp[hn,<-hl,rv.length]) hst fun h' hx=>?_;have I1:L2.Inv X pins O H { s with heap:=h' }:=I.kept (t':=s.toks) fun b o q=>hx b o (be (au q)) q;exact h pins _ O H xs _ Q I1 (by simpa using rv) hw
theorem GK(hc:eS X):jG X (.builtin "all") (fun vs H Q=>∃a xs,vs=[.ref a]/\fy X.K H a xs/\xy xs=true/\Q (.bl (xs.all mR)) H):=by
 intro pins s O H vs us Q I r h;obtain⟨a,xs,rfl,hx,hb,q⟩:=h;obtain⟨u,rfl,ru⟩:=vals1 r;cases ru;obtain⟨its,rv,pl,hz⟩:=I.list hx;obtain⟨e,h1,h2,_,_⟩:=hc.now I;have hlt:a<s.heap.objs.size:=by obtain⟨o,n,z,_⟩:=pl;exact au z
 have nee:e≠s.heap.objs.size:=by obtain⟨o,vs,ho,_⟩:=h2.ex;exact be (au ho)
 refine AD (n_ pl.isList ⟨s.heap.objs.size,_,_,_,_,_,fun i=>(xs[i]?.map mR).getD false,rfl,Px (show X.A.in1.handled=_ from h1) s.heap.objs.size a (be hlt) nee its.toArray,⟨⟨⟨_,aO _ rfl,rfl,rfl⟩,pl.isList.push _⟩,?_⟩,?_,fun h' tk k=>?_⟩)
 ·obtain⟨o,vs,ho,ho2⟩:=h2.ex;exact⟨o,vs,aj _ ho,ho2⟩
 ·intro i v s' Q' E' hP hQ;have hi:its[i]?=some v:=by simpa using hP
  have hlen:=rv.length;have hl:i<xs.length:=by
   have:=(bB.mp hi).1;omega
  have hxi:xs[i]?=some xs[i]:=ak hl;obtain⟨u,hu,ru⟩:=rv.get hxi;rw[hi]at hu;cases hu;have hQ:Q' ((xs[i]?.map mR).getD false) s':=hQ;rw[hxi]at hQ;have hbl:∃b,xs[i]=.bl b:=by
   have:=bz.mp hb _ (f7 hl);revert this;cases xs[i]<;>intro this<;>first|exact⟨_,rfl⟩|(exact absurd (show false=true from this) aE)
  obtain⟨b,eb⟩:=hbl;rw[eb]at ru hQ;cases ru;refine dX ?_;cases b<;>exact hQ
 ·have e1:its.toArray.size=xs.length:=by rw[aL];exact rv.length.symm
  rw[e1];have e2:=range_all (p:=fun i=>(xs[i]?.map mR).getD false) (xs:=xs) mR (fun i x hi=>by rw[hi];rfl);rw[e2];exact⟨.bl _,H,I.kept fun b o x=>k b o (fun z=>absurd (au x) (by rw[bR.mp z];exact cV _)) (aj _ x),rfl,q⟩
theorem SI(hc:eS X)(f:Bf)(hf:L5 f=true):jG X f.val (qF X.K f):=by
 intro pins s O H vs us Q I r h;cases f<;>first|cases hf|skip
 ·cases vs with
  |nil=>exact ay h
  |cons y w=>
   cases y<;>first|exact ay h|(cases w<;>first|exact ay h|skip)
   ·obtain⟨hz,q⟩:=h;exact tN pins s O H _ us Q I r ⟨_,rfl,hz,q⟩
   ·rcases h with⟨t,xs,hx,q⟩|⟨kvs,hk,q⟩
    ·refine tM pins s O H _ us Q I r ⟨_,xs,rfl,?_,q⟩;rcases hx.sq with⟨_,z⟩|⟨_,z⟩
     ·exact .inl z
     ·exact .inr z
    ·obtain⟨u,rfl,ru⟩:=vals1 r;cases ru;exact LP I hk fun t s' I'=>⟨.int kvs.length,H,I',⟨t,rfl⟩,q⟩
 ·cases vs with
  |nil=>exact ay h
  |cons y w=>
   cases y<;>first|exact ay h|(cases w<;>first|exact ay h|skip)
   obtain⟨t,xs,hx,ht,hb,q⟩:=h;subst ht;exact GK hc pins s O H _ us Q I r ⟨_,xs,rfl,hx.Gx,hb,q⟩
end
variable{ti to:Addr}
section
variable{P:a_}{w:bC}{A:bU}{E:Value->ah->Prop}{s:ah}
theorem BD{i:Addr}{x:Value}{Q:Value->ah->Prop}(hi:s.heap.IsTupleIter i t k)(ht:s.heap.IsTuple t xs)(hx:xs[k]?=some x)
  (q:∀h',h'.IsTupleIter i t (k+1)->gZ i s.heap h'->Q x { s with heap:=h' }):aq (az P w) A (bF (.ref i)) Q E s:=by
 have ty:=hi.typeIs;obtain⟨u,hu,hc,hd⟩:=hi;obtain⟨v,hv,_,n,hdv⟩:=ht;unfold bF;refine aa (cH (name:=gn "__next__") ty F.slot_tuple_iterator_next (dQ F.slot_tuple_iterator_next ty F.entry_tuple_iterator_next ?_ (F.args_tuple_iterator_next_1 _)));show aq _ _ (iV (.ref i) 0 >>= _) _ _ s;refine aa (bK hu hd (x:=.ref t) rfl ?_);show aq _ _ (if(aN t==bg)=true then _ else _) _ _ s;rw[if_neg (show ¬((aN t==bg)=true)from aE)];show aq _ _ (iV (.ref i) 1 >>= _) _ _ s;refine aa (bK hu hd (x:=.int k 0) rfl (aa (cX hv hdv ?_)));simp only[iU,hx];refine aa (f9 hu hd (by simp) (aD ⟨x,rfl,aD (q _ ⟨_,gq _ hu (rD (nF hd _)),(vm ..).trans hc,?_⟩ (dY ..))⟩));rw[nF hd];simp[gm]
theorem DL{i:Addr}{Q:Value->ah->Prop}(hh:wo A s.heap fp)(mi:i∈fp)(hi:s.heap.IsTupleIter i t k)(ht:s.heap.IsTuple t xs)(hx:xs[k]?=none)
  (q:∀h' e,gf i s.heap h'->(∃o,h'.get? e=some o/\o.cls=.type "StopIteration")->E (.ref e) { s with heap:=h' }):aq (az P w) A (bF (.ref i)) Q E s:=by
 have ty:=hi.typeIs;obtain⟨u,hu,hc,hd⟩:=hi;obtain⟨v,hv,_,n,hdv⟩:=ht;unfold bF;refine aa (cH (name:=gn "__next__") ty F.slot_tuple_iterator_next (dQ F.slot_tuple_iterator_next ty F.entry_tuple_iterator_next ?_ (F.args_tuple_iterator_next_1 _)));show aq _ _ (iV (.ref i) 0 >>= _) _ _ s;refine aa (bK hu hd (x:=.ref t) rfl ?_);show aq _ _ (if(aN t==bg)=true then _ else _) _ _ s;rw[if_neg (show ¬((aN t==bg)=true)from aE)];show aq _ _ (iV (.ref i) 1 >>= _) _ _ s;refine aa (bK hu hd (x:=.int k 0) rfl (aa (cX hv hdv ?_)));simp only[iU,hx];refine aa (kD (aa (f9 hu hd (by simp) ?_)));rcases hh with hh|⟨e,hh,hd2,hne⟩
 rotate_left
 ·exact yE (show A.in1.handled=_ from hh) (hd2.mono (dY ..).extBut (hne i mi)) fun h' x k z=>q h' x (fun b u nb eb=>k b u ((dY ..).extBut b u nb eb)) z
 show aq _ _ (CL (.type "StopIteration") [] >>= _) _ _ _;refine aa ?_;simp only[CL,newTuple];refine aa (gD (aa (m:=m8 _ _) (Dk (a:=bg) (by first|rfl|(simp only[m8];rfl)) (gD ?_ (by size_fits)))) (by size_fits));simp only[wZ];refine aa (AF ?_)
 first|rw[show A.in1.handled=none from hh]|rw[hh]
 exact aa (aD (Dj (q _ _ (((dY ..).extBut.push _).push _) ⟨_,aO _ rfl,rfl⟩)))
structure TZ (h:Heap) (z ti to i1 i2 l1 l2:Addr) (k:Nat) (xs ys:Array Value):Prop where
 zo:iK h z ti to .none
 tp:eN h ti (.ref i1) (.ref i2)
 a1:h.IsTupleIter i1 l1 k
 a2:h.IsTupleIter i2 l2 k
 b1:h.IsTuple l1 xs
 b2:h.IsTuple l2 ys
theorem GL{x y a b:Value}(D:j5 z ti to i1 i2 l1 l2)(Z:TZ s.heap z ti to i1 i2 l1 l2 k xs ys)(tq:eN s.heap to a b)(hx:xs[k]?=some x)(hy:ys[k]?=some y)
  (q:∀h',iK h' z ti to (gm s.heap.objs.size)->eN h' to x y->h'.IsTupleIter i1 l1 (k+1)->h'.IsTupleIter i2 l2 (k+1)->eN h' s.heap.objs.size x y->
   (∀c o,c≠z->c≠to->c≠i1->c≠i2->s.heap.get? c=some o->h'.get? c=some o)->Q (some (.ref s.heap.objs.size)) { s with heap:=h' }):aq (az P w) A (gk (.ref z)) Q E s:=by
 obtain⟨zo,tp,a1,a2,b1,b2⟩:=Z;have ty:s.TypeIs (.ref z) "zip":=⟨_,zo,rfl⟩;unfold gk;refine aa (gw (cH (name:=gn "__next__") ty F.slot_zip_next (dQ F.slot_zip_next ty F.entry_zip_next ?_ (F.args_zip_next_1 _))));show aq _ _ (iV (.ref z) 2 >>= _) _ _ _;refine aa (bK zo rfl (x:=.bool false) rfl ?_);show aq _ _ (iV (.ref z) 3 >>= _) _ _ _;refine aa (bK zo rfl (x:=.ref ti) rfl (aa (cX tp rfl ?_)));show aq _ _ (bN (.ref z) >>= _) _ _ _;refine aa ?_;unfold bN;refine aa (bK zo rfl (x:=.none) rfl (aD ?_));simp only[if_true];refine aa (kD (aa (bK zo rfl (x:=.ref to) rfl (aa (dg zo (by simp) fun g1 z1 s1=>?_)))));have z1:iK g1 z ti to .ellipsis:=z1;refine aa ?_;simp only[lH,mE,jO,ku];refine aa (aa (gx ?_));show aq _ _ (bF (.ref i1) >>= _) _ _ _;refine aa (BD (a1.extBut s1.extBut D.i1z) (b1.extBut s1.extBut D.l1z) hx fun g2 c1 s2=>aD ?_);have p2:eN g2 to a b:=s2.extBut _ _ D.TOi1 (s1.extBut _ _ D.TOz tq);refine aa (cX p2 rfl (aa (jt p2 fun g3 p3 s3=>?_)));have p3:eN g3 to x b:=p3;refine aa (qT (aD (aa (aa (gx ?_)))));show aq _ _ (bF (.ref i2) >>= _) _ _ _;refine aa (BD (((a2.extBut s1.extBut D.i2z).extBut s2.extBut D.i12.symm).extBut s3.extBut D.TOi2.symm) (((b2.extBut s1.extBut D.l2z).extBut s2.extBut D.l2i1).extBut s3.extBut D.l2TO) hy fun g4 c2 s4=>aD ?_);have p4:eN g4 to x b:=s4.extBut _ _ D.TOi2 p3;refine aa (cX p4 rfl (aa (jt p4 fun g5 p5 s5=>?_)));have p5:eN g5 to x y:=p5;refine aa (qT (aD (aD (aa (cX p5 rfl (aa (zb ?_)))))));have hsz:g5.objs.size=s.heap.objs.size:=by rw[s5.1,s4.1,s3.1,s2.1,s1.1]
 have z5:iK g5 z ti to .ellipsis:=s5.extBut _ _ D.TOz.symm (s4.extBut _ _ D.i2z.symm (s3.extBut _ _ D.TOz.symm (s2.extBut _ _ D.i1z.symm z1)));have c1':g5.IsTupleIter i1 l1 (k+1):=((c1.extBut s3.extBut D.TOi1.symm).extBut s4.extBut D.i12).extBut s5.extBut D.TOi1.symm;have c2':g5.IsTupleIter i2 l2 (k+1):=c2.extBut s5.extBut D.TOi2.symm;have lz:z<g5.objs.size:=au z5;show aq _ _ (j7 (.ref z) (.ref g5.objs.size) >>= _) _ _ _;refine aa ?_;unfold j7;refine aa (dg (aj _ z5) (by simp) fun g7 z7 s7=>?_);have z7:iK g7 z ti to (gm g5.objs.size):=z7;refine dg z7 (by simp) fun g8 z8 s8=>?_;have z8:iK g8 z ti to (gm g5.objs.size):=z8;have up:∀c o,c≠z->g5.get? c=some o->g8.get? c=some o:=fun c o n e=>s8.extBut _ _ n (s7.extBut _ _ n (aj _ e));have p8:eN g8 g5.objs.size x y:=s8.extBut _ _ (jb lz) (s7.extBut _ _ (jb lz) (aO _ rfl));rw[hsz]at z8 p8;refine aD ⟨_,rfl,aD ?_⟩;show Q (some (.ref g5.objs.size)) _;rw[hsz];obtain⟨o1,e1,f1⟩:=c1';obtain⟨o2,e2,f2⟩:=c2';exact q g8 z8 (up _ _ D.TOz p5) ⟨o1,up _ _ D.i1z e1,f1⟩ ⟨o2,up _ _ D.i2z e2,f2⟩ p8 fun c o n1 n2 n3 n4 e=>up c o n1 (s5.extBut _ _ n2 (s4.extBut _ _ n4 (s3.extBut _ _ n2 (s2.extBut _ _ n3 (s1.extBut _ _ n1 e)))))
theorem JS{a b:Value}(hh:wo A s.heap [z,ti,to,i1,i2])(D:j5 z ti to i1 i2 l1 l2)(Z:TZ s.heap z ti to i1 i2 l1 l2 k xs ys)(tq:eN s.heap to a b)(he:xs[k]?=none\/ys[k]?=none)
  (q:∀h',(∀c o,c≠z->c≠to->c≠i1->c≠i2->s.heap.get? c=some o->h'.get? c=some o)->Q none { s with heap:=h' }):aq (az P w) A (gk (.ref z)) Q E s:=by
 obtain⟨zo,tp,a1,a2,b1,b2⟩:=Z;have ty:s.TypeIs (.ref z) "zip":=⟨_,zo,rfl⟩;have fin:∀(h':Heap) (e:Addr),(∀c o,c≠z->c≠to->c≠i1->c≠i2->s.heap.get? c=some o->h'.get? c=some o)->(∃o,h'.get? e=some o/\o.cls=.type "StopIteration")->aq (az P w) A (do if<-sJ (.ref e) (.type "StopIteration")then pure none else throw (.ref e)) Q E { s with heap:=h' }:=fun h' e hk ⟨o,ho,hc⟩=>
  aa (jr (T:="StopIteration") (b:=true) ⟨o,ho,hc⟩ kE (aD (q _ hk)))
 unfold gk;refine aa (gw (cH (name:=gn "__next__") ty F.slot_zip_next (dQ F.slot_zip_next ty F.entry_zip_next ?_ (F.args_zip_next_1 _))));show aq _ _ (iV (.ref z) 2 >>= _) _ _ _;refine aa (bK zo rfl (x:=.bool false) rfl ?_);show aq _ _ (iV (.ref z) 3 >>= _) _ _ _;refine aa (bK zo rfl (x:=.ref ti) rfl (aa (cX tp rfl ?_)));show aq _ _ (bN (.ref z) >>= _) _ _ _;refine aa ?_;unfold bN;refine aa (bK zo rfl (x:=.none) rfl (aD ?_));simp only[if_true];refine aa (kD (aa (bK zo rfl (x:=.ref to) rfl (aa (dg zo (by simp) fun g1 z1 s1=>?_)))));have z1:iK g1 z ti to .ellipsis:=z1;refine aa ?_;simp only[lH,mE,jO,ku];refine aa (aa (gx ?_));show aq _ _ (bF (.ref i1) >>= _) _ _ _;cases hx:xs[k]? with
 |none=>
  refine aa (DL (A:=A.in1) (hh.mono s1.extBut (by simp)) (by simp) (a1.extBut s1.extBut D.i1z) (b1.extBut s1.extBut D.l1z) hx fun g2 e s2 ⟨oe,ho,hc⟩=>?_);have z2:iK g2 z ti to .ellipsis:=s2 _ _ D.i1z.symm z1;have ne:e≠z:=fun x=>by subst x;rw[z2]at ho;cases ho;simp at hc
  exact dg z2 (by simp) fun g3 _ s3=>fin g3 e (fun c o n1 _ n3 _ x=>s3.extBut _ _ n1 (s2 _ _ n3 (s1.extBut _ _ n1 x))) ⟨oe,s3.extBut _ _ ne ho,hc⟩
 |some x=>
  have hy:ys[k]?=none:=he.resolve_left fun z=>by rw[hx]at z;cases z
  refine aa (BD (a1.extBut s1.extBut D.i1z) (b1.extBut s1.extBut D.l1z) hx fun g2 c1 s2=>aD ?_);have p2:eN g2 to a b:=s2.extBut _ _ D.TOi1 (s1.extBut _ _ D.TOz tq);refine aa (cX p2 rfl (aa (jt p2 fun g3 p3 s3=>?_)));refine aa (qT (aD (aa (aa (gx ?_)))));show aq _ _ (bF (.ref i2) >>= _) _ _ _;refine aa (DL (A:=A.in1) (((hh.mono s1.extBut (by simp)).mono s2.extBut (by simp)).mono s3.extBut (by simp)) (by simp) (((a2.extBut s1.extBut D.i2z).extBut s2.extBut D.i12.symm).extBut s3.extBut D.TOi2.symm) (((b2.extBut s1.extBut D.l2z).extBut s2.extBut D.l2i1).extBut s3.extBut D.l2TO) hy fun g4 e s4 ⟨oe,ho,hc⟩=>?_);have z4:iK g4 z ti to .ellipsis:=s4 _ _ D.i2z.symm (s3.extBut _ _ D.TOz.symm (s2.extBut _ _ D.i1z.symm z1));have ne:e≠z:=fun x=>by subst x;rw[z4]at ho;cases ho;simp at hc
  exact dg z4 (by simp) fun g5 _ s5=>fin g5 e (fun c o n1 n2 n3 n4 x=>s5.extBut _ _ n1 (s4 _ _ n4 (s3.extBut _ _ n2 (s2.extBut _ _ n3 (s1.extBut _ _ n1 x))))) ⟨oe,s5.extBut _ _ ne ho,hc⟩
end
noncomputable abbrev DM(h:Heap)(a:Addr):Heap:=h.push { cls:=.type "tuple_iterator",data:=.fields #[.ref a,.int 0 0] }
noncomputable abbrev L8(h:Heap)(a b:Addr):Heap:=DM (DM h a) b
noncomputable abbrev L_(h:Heap)(a b:Addr):Heap:=(L8 h a b).push { cls:=.type "tuple",data:=.seq #[.ref h.objs.size,.ref (DM h a).objs.size] }
noncomputable abbrev Ma(h:Heap)(a b:Addr):Heap:=(L_ h a b).push { cls:=.type "tuple",data:=.seq #[.none,.none] }
noncomputable abbrev BE(h:Heap)(a b:Addr):Heap:=(Ma h a b).push { cls:=.type "zip",data:=.fields #[.none,.bool false,.bool false,.ref (L8 h a b).objs.size,.ref (L_ h a b).objs.size] }
theorem JT(a b:Addr)(xs ys:Array Value):Meets (m7.«zip.__new__» ⟨[.type "zip",.ref a,.ref b],[]⟩) (fun _ R s=>s.heap.IsTuple a xs/\s.heap.IsTuple b ys/\R (.ok (.ret (.ref (Ma s.heap a b).objs.size))) { s with heap:=BE s.heap a b }):=
 .of_wp fun prog w A R s h=>by
  obtain⟨hp,g,d,tk,os⟩:=s;obtain⟨h1,h2,h⟩:=h;have hsub:=sub_zip;have q1:CM (Dm ⟨hp,g,d,tk,os⟩) a xs:=h1;have q2:CM (Dm ⟨DM hp a,g,d,tk,os⟩) b ys:=Jb h2 _
  wp_walk using nG q1,nG q2
  exact⟨_,rfl,h⟩
theorem zH{Q:Value->ah->Prop}(h1:s.heap.IsTuple a xs)(h2:s.heap.IsTuple b ys)
  (q:∀h',TZ h' (s.heap.objs.size+4) (s.heap.objs.size+2) (s.heap.objs.size+3) s.heap.objs.size (s.heap.objs.size+1) a b 0 xs ys->eN h' (s.heap.objs.size+3) .none .none->(∀c o,s.heap.get? c=some o->h'.get? c=some o)->Q (.ref (s.heap.objs.size+4)) { s with heap:=h' }) :
  aq (az P w) A (call (.type "zip") [.ref a,.ref b]) Q E s:=by
 refine callType_new F.called_zip (by decide) (F.typeCall_zip_2 _ _) (F.newCall_zip_2 _ _) (fun obj=>F.args_object_init_3 obj _ _) F.entry_zip_new (JT a b xs ys) ⟨h1,h2,?_⟩;have n1:(DM s.heap a).objs.size=s.heap.objs.size+1:=dG ..;have n2:(L8 s.heap a b).objs.size=s.heap.objs.size+2:=by rw[dG,n1]
 have n3:(L_ s.heap a b).objs.size=s.heap.objs.size+3:=by rw[dG,n2]
 have n4:(Ma s.heap a b).objs.size=s.heap.objs.size+4:=by rw[dG,n3]
 have up:∀c o,s.heap.get? c=some o->(BE s.heap a b).get? c=some o:=fun c o x=>aj _ (aj _ (aj _ (aj _ (aj _ x))));have g5:(BE s.heap a b).get? (Ma s.heap a b).objs.size=some _:=aO _ rfl;have g4:(BE s.heap a b).get? (L_ s.heap a b).objs.size=some _:=aj _ (aO _ rfl);have g3:(BE s.heap a b).get? (L8 s.heap a b).objs.size=some _:=aj _ (aj _ (aO _ rfl));have g2:(BE s.heap a b).get? (DM s.heap a).objs.size=some _:=aj _ (aj _ (aj _ (aO _ rfl)));have g1:(BE s.heap a b).get? s.heap.objs.size=some _:=aj _ (aj _ (aj _ (aj _ (aO _ rfl))));show _/\_;rw[n2,n3,n4]at g5;rw[n1,n2]at g3;rw[n3]at g4;rw[n1]at g2;rw[n4];obtain⟨o1,e1,r1⟩:=h1;obtain⟨o2,e2,r2⟩:=h2;exact⟨⟨_,g5,rfl⟩,q _ ⟨g5,g3,⟨_,g1,rfl,rfl⟩,⟨_,g2,rfl,rfl⟩,⟨o1,up _ _ e1,r1⟩,⟨o2,up _ _ e2,r2⟩⟩ g4 up⟩
noncomputable def JU(K:PySem.W.Frag)(a b:Addr):It:=
 ⟨fun i H=>∃xs ys x y,jF K H a xs/\jF K H b ys/\xs[i]?=some x/\ys[i]?=some y,
fun i H v H'=>∃p x y,H p=none/\v=.ref p/\H'=upd H p (.tup [x,y])/\(∀xs,jF K H a xs->xs[i]?=some x)/\∀ys,jF K H b ys->ys[i]?=some y,
fun i H=>∃xs ys,jF K H a xs/\jF K H b ys/\(xs.length<=i\/ys.length<=i)⟩
theorem zJ{xs ys:List V}:ly (JU K a b) (fun H=>jF K H a xs/\jF K H b ys) (nJ xs ys) where
 go:=fun i H it ok hi=>by
  obtain⟨x,y,h1,h2,_⟩:=o7 xs ys i it hi;exact⟨xs,ys,x,y,ok.1,ok.2,h1,h2⟩
 yld:=fun i H it x H' ok hi hy k hk=>by
  obtain⟨x,y,h1,h2,rfl⟩:=o7 xs ys i it hi;obtain⟨p,u,v,hp,rfl,rfl,k1,k2⟩:=hy;have e1:=k1 xs ok.1;have e2:=k2 ys ok.2;rw[h1]at e1;rw[h2]at e2;cases e1;cases e2;exact hk p hp
 stop:=fun i H ok hi=>⟨xs,ys,ok.1,ok.2,by rw[wm]at hi;omega⟩
def GN(a b z t1 t2 i1 i2:Addr)(i:Nat)(h:Heap):Prop:=iK h z t1 t2 .none/\eN h t1 (.ref i1) (.ref i2)/\(∃u v,eN h t2 u v)/\h.IsTupleIter i1 a i/\h.IsTupleIter i2 b i
theorem xH{x1}(a b z t1 t2 i1 i2:Addr)(D:j5 z t1 t2 i1 i2 a b)(hC:∀{X:Cx}{pins:List (Addr×Obj)}{O:L2.St}{H:Hp}{s:ah}{fp:List Addr},Cm X->L2.Inv X pins O H s->(∀b∈fp,gS X pins H b)->wo X.A s.heap fp):xE Cm P w K (.Tuple elts x1 pos) (JU K a b) [z,t1,t2,i1,i2] z (GN a b z t1 t2 i1 i2) where
 obj:=fun i h st c hc=>by
  obtain⟨s1,s2,⟨u,v,s3⟩,s4,s5⟩:=st;have hc:c=z\/c=t1\/c=t2\/c=i1\/c=i2:=by simpa using hc
  rcases hc with rfl|rfl|rfl|rfl|rfl
  ·exact⟨_,s1,fun v z=>by cases z⟩
  ·exact⟨_,s2,fun v z=>by cases z⟩
  ·exact⟨_,s3,fun v z=>by cases z⟩
  ·obtain⟨o,e,c,d⟩:=s4;exact⟨o,e,fun v z=>by rw[d]at z;cases z⟩
  ·obtain⟨o,e,c,d⟩:=s5;exact⟨o,e,fun v z=>by rw[d]at z;cases z⟩
 keep:=fun i h h' st k=>by
  obtain⟨s1,s2,⟨u,v,s3⟩,s4,s5⟩:=st;exact⟨k z (by simp) _ s1,k t1 (by simp) _ s2,⟨u,v,k t2 (by simp) _ s3⟩,s4.at fun o q=>k i1 (by simp) o q,s5.at fun o q=>k i2 (by simp) o q⟩
 item:=by
  intro X hP hw hK hc i pins s O H E I hf st hg;subst hP hw hK;obtain⟨s1,s2,⟨u0,v0,s3⟩,s4,s5⟩:=st;obtain⟨xs,ys,x,y,hq,hr,hx,hy⟩:=hg;obtain⟨its,rv,p,hz⟩:=I.tuple hq;obtain⟨its',rv',p',hz'⟩:=I.tuple hr;obtain⟨u,hu,ru⟩:=rv.get hx;obtain⟨v,hv,rw'⟩:=rv'.get hy;refine GL D ⟨s1,s2,s4,s5,(show s.heap.IsTuple a its.toArray from p),(show s.heap.IsTuple b its'.toArray from p')⟩ s3 (x:=u) (y:=v) (by simpa using hu) (by simpa using hv) fun h1 hz1 ho1 hi1 hi2 hn1 hk1=>?_;refine⟨_,rfl,oF (s:={ s with heap:=h1 }) hz1 fun h2 hz2 hs2=>?_⟩;have hs2:gZ z h1 h2:=hs2;have lee:z<s.heap.objs.size:=au s1;have ne_e:s.heap.objs.size≠z:=jb lee;have ht2:h2.get? s.heap.objs.size=some { cls:=.type "tuple",data:=.seq #[u,v] }:=(hs2.2 _ ne_e).trans hn1;have hk2:∀c o,c∉[z,t1,t2,i1,i2]->s.heap.get? c=some o->h2.get? c=some o:=fun c o hc q=>by
   have hc:c≠z/\c≠t1/\c≠t2/\c≠i1/\c≠i2:=by simpa using hc
   exact(hs2.2 c hc.1).trans (hk1 c o hc.1 hc.2.2.1 hc.2.2.2.1 hc.2.2.2.2 q)
  have hn:H s.heap.objs.size=none:=I.hok.fresh (aT _);have hfr:∀c∈[z,t1,t2,i1,i2],H c=none:=fun c hc=>(hf c hc).1;have hok2:d9 X.prog X.w (upd H s.heap.objs.size (.tup [x,y])) h2:=by
   have h0:d9 X.prog X.w H h2:=j_ (X:=X) (pins:=pins) I.hok hfr hk2;intro c o q;by_cases hb:c=s.heap.objs.size
   ·subst hb;rw[bu]at q;cases q;refine⟨by show(2:Nat)<=_;have:=cD;omega,[u,v],.cons ru (.cons rw' .nil),⟨_,ht2,rfl,_,rfl⟩⟩
   ·rw[aK hb]at q;exact(h0 c o q).stay (fun _ _ _ r=>r) (fun c r=>by rw[aK (bQ r hn)];exact r) fun c ys r=>by rw[aK (bQ r hn)];exact r
  have I2:L2.Inv X pins O (upd H s.heap.objs.size (.tup [x,y])) { s with heap:=h2,toks:=s.toks }:=
   Inv.oJ (ch:=[z,t1,t2,i1,i2]) I hf hk2 (fun c o hb q n=>by rw[aK (be (au q))];exact n) (fun c o q=>by rw[aK (bQ q hn)];exact q) hok2
  refine⟨.ref s.heap.objs.size,_,I2,rfl,⟨_,x,y,hn,rfl,rfl,fun zs hy'=>by rw[I.pU hy' hq];exact hx,fun zs hy'=>by rw[I.pU hy' hr];exact hy⟩,⟨hz2,?_,⟨u,v,?_⟩,?_,?_⟩,fun c hc=>?_⟩
  ·exact(hs2.2 _ D.TIz).trans (hk1 _ _ D.TIz D.TITO D.TIi1 D.TIi2 s2)
  ·exact(hs2.2 _ D.TOz).trans ho1
  ·exact hi1.at fun o q=>(hs2.2 i1 D.i1z).trans q
  ·exact hi2.at fun o q=>(hs2.2 i2 D.i2z).trans q
  ·have hlt:c<s.heap.objs.size:=by
    have hc:c=z\/c=t1\/c=t2\/c=i1\/c=i2:=by simpa using hc
    rcases hc with rfl|rfl|rfl|rfl|rfl
    ·exact lee
    ·exact au s2
    ·exact au s3
    ·obtain⟨o,q,_⟩:=s4;exact au q
    ·obtain⟨o,q,_⟩:=s5;exact au q
   rw[aK (be hlt)];exact hfr c hc
 done:=by
  intro X hP hw hK hc i pins s O H E I hf st hg;subst hP hw hK;obtain⟨s1,s2,⟨u0,v0,s3⟩,s4,s5⟩:=st;obtain⟨xs,ys,hq,hr,hx⟩:=hg;obtain⟨its,rv,p,hz⟩:=I.tuple hq;obtain⟨its',rv',p',hz'⟩:=I.tuple hr;have hl:=rv.length;have hl':=rv'.length;have hfr:∀c∈[z,t1,t2,i1,i2],H c=none:=fun c hc=>(hf c hc).1;refine JS (hC hc I hf) D ⟨s1,s2,s4,s5,(show s.heap.IsTuple a its.toArray from p),(show s.heap.IsTuple b its'.toArray from p')⟩ s3 ?_ fun h' eb=>⟨rfl,?_⟩
  ·rcases hx with hx|hx
   ·exact .inl (by simp;omega)
   ·exact .inr (by simp;omega)
  ·have hk:∀c o,c∉[z,t1,t2,i1,i2]->s.heap.get? c=some o->h'.get? c=some o:=fun c o hb q=>by
    have hc:c≠z/\c≠t1/\c≠t2/\c≠i1/\c≠i2:=by simpa using hb
    exact eb c o hc.1 hc.2.2.1 hc.2.2.2.1 hc.2.2.2.2 q
   exact Inv.oJ (t':=s.toks) (ch:=[z,t1,t2,i1,i2]) I hf hk (fun _ _ _ _ n=>n) (fun _ _ q=>q) (j_ (X:=X) (pins:=pins) I.hok hfr hk)
 self:=fun _ _ _ _ _ st h=>h_ st.1 h
theorem GO{x1}(a b z t1 t2 i1 i2:Addr)(D:j5 z t1 t2 i1 i2 a b):Turn P w K (.Tuple elts x1 pos) (JU K a b) [z,t1,t2,i1,i2] z (GN a b z t1 t2 i1 i2):=
 have T:=xH (Cm:=fun X=>X.calm=true) (K:=K) (elts:=elts) (x1:=x1) (pos:=pos) a b z t1 t2 i1 i2 D fun hc I _=>.inl (I.ok.hd hc)
 ⟨by simp,T.obj,T.keep,T.item,T.done,T.self⟩
section
variable{X:Cx}
theorem Nl{x1:Nat}{t:TA}(hg:Gl X "zip")(hm:X.mg "zip"=none)(ha:PA X (e::er) t)(n1:noStar e=true)(n2:br er=true) :
  zE X (.Tuple elts x1 tp) (.Call (.Name "zip" p) (e::er) [] pos) (fun O H k=>t O H fun vs H1=>xB X.K vs H1 k):=by
 intro pins s O H k I h;refine FP (iW I hg hm boot_zip (eV (aY (ha pos pins s O H (fun vs H1=>xB X.K vs H1 k) I h) fun us s1 ⟨vs,H1,I1,r1,q⟩=>?_) (cZ n1) (i9 n2)))
 match vs,r1,q with
 |[],r1,q=>exact q.elim
 |[_],r1,q=>exact q.elim
 |_::_::_::_,r1,q=>exact q.elim
 |[x,y],r1,q=>
  obtain⟨u,v,rfl,ru,rv⟩:=vals2 r1;rcases q with⟨a,b,xs,ys,rfl,rfl,hx,hy,q⟩|⟨a,b,xs,ys,rfl,rfl,hx,hy,q⟩
  rotate_left
  ·cases ru;cases rv;obtain⟨its,r1,p1,_⟩:=I1.tuple hx.jf;obtain⟨its',r2,p2,_⟩:=I1.tuple hy.jf;have p1:s1.heap.IsTuple a its.toArray:=p1;have p2:s1.heap.IsTuple b its'.toArray:=p2;have l1:a<s1.heap.objs.size:=by obtain⟨_,e,_⟩:=p1;exact au e
   have l2:b<s1.heap.objs.size:=by obtain⟨_,e,_⟩:=p2;exact au e
   refine zH p1 p2 fun h' Z z3 hk=>?_;refine h_ (s:={ s1 with heap:=h' }) Z.zo ?_;refine⟨s1.heap.objs.size+4,[s1.heap.objs.size+4,s1.heap.objs.size+2,s1.heap.objs.size+3,s1.heap.objs.size,s1.heap.objs.size+1],_,_,H1,rfl,I1.kept (t':=s1.toks) hk,GO a b _ _ _ _ _ (mF l1 l2),⟨Z.zo,Z.tp,⟨_,_,z3⟩,Z.a1,Z.a2⟩,fun c hc=>?_,fun H'=>dO X.K H' a true xs/\dO X.K H' b true ys,_,zJ.mono fun H' o=>⟨o.1.jf,o.2.jf⟩,q⟩;have hle:s1.heap.objs.size<=c:=by
    have hc:c=s1.heap.objs.size+4\/c=s1.heap.objs.size+2\/c=s1.heap.objs.size+3\/c=s1.heap.objs.size\/c=s1.heap.objs.size+1:=by simpa using hc
    rcases hc with rfl|rfl|rfl|rfl|rfl<;>first|exact jq _ _|exact aT _
   exact I1.k9 hle (I1.hok.fresh hle)
  cases ru;cases rv;obtain⟨its,r1,p1,_⟩:=I1.list (.inl hx:fy X.K H1 a xs);obtain⟨its',r2,p2,_⟩:=I1.list (.inl hy:fy X.K H1 b ys);have l1:a<s1.heap.objs.size:=by obtain⟨_,e,_⟩:=p1.isList;exact au e
  have l2:b<s1.heap.objs.size:=by obtain⟨_,e,_⟩:=p2.isList;exact au e
  refine FT p1.isList p2.isList fun h' z1 z2 z3 z4 z5 hsz hk=>?_;refine h_ (s:={ s1 with heap:=h' }) z1 ?_;refine⟨s1.heap.objs.size+4,[s1.heap.objs.size+4,s1.heap.objs.size+2,s1.heap.objs.size+3,s1.heap.objs.size,s1.heap.objs.size+1],_,_,H1,rfl,I1.kept (t':=s1.toks) hk,JN a b _ _ _ _ _ (mF l1 l2),⟨z1,z2,⟨_,_,z3⟩,z4,z5⟩,fun c hc=>?_,_,_,BB,q⟩;have hle:s1.heap.objs.size<=c:=by
   have hc:c=s1.heap.objs.size+4\/c=s1.heap.objs.size+2\/c=s1.heap.objs.size+3\/c=s1.heap.objs.size\/c=s1.heap.objs.size+1:=by simpa using hc
   rcases hc with rfl|rfl|rfl|rfl|rfl<;>first|exact jq _ _|exact aT _
  exact I1.k9 hle (I1.hok.fresh hle)
end
def JV(Cm:Cx->Prop)(X:Cx)(tg iter:Expr)(wi:Gw):Prop:=
 ∀(pins:List (Addr×Obj)) (s:ah) (O:L2.St) (H:Hp) (k:(Hp->Prop)->List Item->Hp->Prop),L2.Inv X pins O H s->wi O H k->
  aq (az X.prog X.w) X.A (eval iter X.env) (fun v s1=>aq (az X.prog X.w) X.A (pK v) (fun itv s2=>∃it fp tn J H',itv=.ref it/\L2.Inv X pins O H' s2/\xE Cm X.prog X.w X.K tg J fp it tn/\tn 0 s2.heap/\(∀b∈fp,gS X pins H' b)/\∃ok items,ly J ok items/\k ok items H') X.xe s1) X.xe s
section
variable{X:Cx}
theorem JW{x1:Nat}{t:TA}(hg:Gl X "zip")(hm:X.mg "zip"=none)(ha:PA X (e::er) t)(n1:noStar e=true)(n2:br er=true) :
  JV eS X (.Tuple elts x1 tp) (.Call (.Name "zip" p) (e::er) [] pos) (fun O H k=>t O H fun vs H1=>xB X.K vs H1 k):=by
 intro pins s O H k I h;refine FP (iW I hg hm boot_zip (eV (aY (ha pos pins s O H (fun vs H1=>xB X.K vs H1 k) I h) fun us s1 ⟨vs,H1,I1,r1,q⟩=>?_) (cZ n1) (i9 n2)))
 match vs,r1,q with
 |[],r1,q=>exact q.elim
 |[_],r1,q=>exact q.elim
 |_::_::_::_,r1,q=>exact q.elim
 |[x,y],r1,q=>
  obtain⟨u,v,rfl,ru,rv⟩:=vals2 r1;rcases q with⟨a,b,xs,ys,rfl,rfl,hx,hy,q⟩|⟨a,b,xs,ys,rfl,rfl,hx,hy,q⟩
  rotate_left
  ·cases ru;cases rv;obtain⟨its,r1,p1,_⟩:=I1.tuple hx.jf;obtain⟨its',r2,p2,_⟩:=I1.tuple hy.jf;have p1:s1.heap.IsTuple a its.toArray:=p1;have p2:s1.heap.IsTuple b its'.toArray:=p2;have l1:a<s1.heap.objs.size:=by obtain⟨_,e,_⟩:=p1;exact au e
   have l2:b<s1.heap.objs.size:=by obtain⟨_,e,_⟩:=p2;exact au e
   refine zH p1 p2 fun h' Z z3 hk=>?_;refine h_ (s:={ s1 with heap:=h' }) Z.zo ?_;refine⟨s1.heap.objs.size+4,[s1.heap.objs.size+4,s1.heap.objs.size+2,s1.heap.objs.size+3,s1.heap.objs.size,s1.heap.objs.size+1],_,_,H1,rfl,I1.kept (t':=s1.toks) hk,xH a b _ _ _ _ _ (mF l1 l2) (fun hc I hf=>hc.or I hf),⟨Z.zo,Z.tp,⟨_,_,z3⟩,Z.a1,Z.a2⟩,fun c hc=>?_,fun H'=>dO X.K H' a true xs/\dO X.K H' b true ys,_,zJ.mono fun H' o=>⟨o.1.jf,o.2.jf⟩,q⟩;have hle:s1.heap.objs.size<=c:=by
    have hc:c=s1.heap.objs.size+4\/c=s1.heap.objs.size+2\/c=s1.heap.objs.size+3\/c=s1.heap.objs.size\/c=s1.heap.objs.size+1:=by simpa using hc
    rcases hc with rfl|rfl|rfl|rfl|rfl<;>first|exact jq _ _|exact aT _
   exact I1.k9 hle (I1.hok.fresh hle)
  cases ru;cases rv;obtain⟨its,r1,p1,_⟩:=I1.list (.inl hx:fy X.K H1 a xs);obtain⟨its',r2,p2,_⟩:=I1.list (.inl hy:fy X.K H1 b ys);have l1:a<s1.heap.objs.size:=by obtain⟨_,e,_⟩:=p1.isList;exact au e
  have l2:b<s1.heap.objs.size:=by obtain⟨_,e,_⟩:=p2.isList;exact au e
  refine FT p1.isList p2.isList fun h' z1 z2 z3 z4 z5 hsz hk=>?_;refine h_ (s:={ s1 with heap:=h' }) z1 ?_;refine⟨s1.heap.objs.size+4,[s1.heap.objs.size+4,s1.heap.objs.size+2,s1.heap.objs.size+3,s1.heap.objs.size,s1.heap.objs.size+1],_,_,H1,rfl,I1.kept (t':=s1.toks) hk,zG a b _ _ _ _ _ (mF l1 l2) (JR (mF l1 l2)),⟨z1,z2,⟨_,_,z3⟩,z4,z5⟩,fun c hc=>?_,_,_,BB,q⟩;have hle:s1.heap.objs.size<=c:=by
   have hc:c=s1.heap.objs.size+4\/c=s1.heap.objs.size+2\/c=s1.heap.objs.size+3\/c=s1.heap.objs.size\/c=s1.heap.objs.size+1:=by simpa using hc
   rcases hc with rfl|rfl|rfl|rfl|rfl<;>first|exact jq _ _|exact aT _
  exact I1.k9 hle (I1.hok.fresh hle)
theorem JX{tgt:Expr}{g:TG}{cond:TT}(hc:eS X)(S:o5 X.env.scope X.N scope nl fr)(hi:JV eS X tgt iter wi)(hs:∀x,gz iter X.env x=pure x)
  (hg:∀(C:Addr) (Tz:ah) (H:Hp) (ex:List Addr),eS (ee X (fm X.N nl fr) scope C Tz H ex)->PG (ee X (fm X.N nl fr) scope C Tz H ex) tgt g)
  (ht:∀(C:Addr) (Tz:ah) (H:Hp) (ex:List Addr),eS (ee X (fm X.N nl fr) scope C Tz H ex)->By (ee X (fm X.N nl fr) scope C Tz H ex) ifs cond)
  (he:∀(C:Addr) (Tz:ah) (H:Hp) (ex:List Addr),eS (ee X (fm X.N nl fr) scope C Tz H ex)->PE (ee X (fm X.N nl fr) scope C Tz H ex) elt te) :
  PE X (.ListComp elt [⟨tgt,iter,ifs,0⟩] scope pos) (fun O H Q=>wi O H fun ok items H1=>m_ ok g cond te (fun vs H2=>∀p,H2 p=none->Q (.ref p) (upd H2 p (.lst vs))) items [] (p7 nl fr O) H1):=by
 intro pins s O H Q I h;rw[AE];refine j4 (use:=none) rfl hs (nK (lJ S I)) S.kind S.names (aY (hi pins s O H _ I h) fun v TJ TN=>aY TN fun itv TL TV=>?_);obtain⟨it,fp,tn,J,H2,e,I2,T,st,hf,ok,items,hJ,hk⟩:=TV;subst e;refine rS (Cm:=eS) (RR:=fun acc C=>CK (az X.prog X.w) X.A X.xe none (EP X pins O Q) acc C) (fun C Tz ex up hx=>hc.comp I2 hf C Tz ex up hx) I2 T st hf hJ S.cell S.kind (lJ S I2) ?_ (rT S I2) o6
  (fun C Tz ex=>hg C Tz H2 ex) (fun C Tz ex=>ht C Tz H2 ex) (fun C Tz ex=>he C Tz H2 ex) hk fun D C s' H3 vs hD q I3 f3 hn=>?_
 ·unfold p7 fm;simp
 ·obtain⟨m,hn⟩:=hn;obtain⟨f0,f1,f2,f3,f4,f5⟩:=f3;exact⟨m,hn,fun h' hsb=>⟨.ref D,_,I3.turned (t':=s'.toks) (fun b o hb e=>hsb.extBut b o hb e) f0 f1 f3 f4 f5,rfl,q D hD⟩⟩
end
theorem band{a b:Bool}(h:(a&&b)=true):a=true/\b=true:=by simpa using h
variable{x1 x2 x3:Bool}
theorem ng(h:(x1&&x2&&x3)=true):(x1=true/\x2=true)/\x3=true:=⟨band (band h).1,(band h).2⟩
variable{x4:Bool}
theorem rY(h:(x1&&x2&&x3&&x4)=true):((x1=true/\x2=true)/\x3=true)/\x4=true:=⟨ng (band h).1,(band h).2⟩
variable{x5:Bool}
theorem AS(h:(x1&&x2&&x3&&x4&&x5)=true):(((x1=true/\x2=true)/\x3=true)/\x4=true)/\x5=true:=⟨rY (band h).1,(band h).2⟩
variable{x6:Bool}
theorem kc(h:(x1&&x2&&x3&&x4&&x5&&x6)=true):((((x1=true/\x2=true)/\x3=true)/\x4=true)/\x5=true)/\x6=true:=⟨AS (band h).1,(band h).2⟩
variable{x7:Bool}
theorem EW(h:(x1&&x2&&x3&&x4&&x5&&x6&&x7)=true):(((((x1=true/\x2=true)/\x3=true)/\x4=true)/\x5=true)/\x6=true)/\x7=true:=⟨kc (band h).1,(band h).2⟩
variable{x8:Bool}
theorem Rr(h:(x1&&x2&&x3&&x4&&x5&&x6&&x7&&x8)=true):((((((x1=true/\x2=true)/\x3=true)/\x4=true)/\x5=true)/\x6=true)/\x7=true)/\x8=true:=⟨EW (band h).1,(band h).2⟩
theorem Mb{x9:Bool}(h:(x1&&x2&&x3&&x4&&x5&&x6&&x7&&x8&&x9)=true):(((((((x1=true/\x2=true)/\x3=true)/\x4=true)/\x5=true)/\x6=true)/\x7=true)/\x8=true)/\x9=true:=⟨Rr (band h).1,(band h).2⟩
theorem o8{a:Bool}(h:(!a)=true):a=false:=by simpa using h
theorem no{P:Prop}(h:false=true):P:=absurd h aE
variable{as:i0}
section
variable{X:Cx}{T:Tab}{Y:List G}{E:XK}
theorem Ok.ia(ok:Ok X T Y E)(h:lU T.sc x=true):Gl X x:=by
 have h:=of_decide_eq_true h;rw[<-ok.sc]at h;exact h
theorem Ok.kg(ok:Ok X T Y E)(h:T.bn.contains x=true):X.mg x=none:=ok.bn x (by simpa using h)
theorem Ok.EX(ok:Ok X T Y E)(h:decide (T.N[i]?=some x)=true):X.N[i]?=some x:=by rw[ok.N];exact of_decide_eq_true h
theorem Ok.rZ(ok:Ok X T Y E)(h:oK T.sc T.N scope nl fr=true):o5 X.env.scope X.N scope nl fr:=by rw[ok.sc,ok.N];exact GH h
theorem Gf{v:V}{c:Const}(h:Pe v c=true):PE X (.Constant c j pos) (fun _ H Q=>Q v H):=by
 cases v<;>cases c<;>first|exact no h|skip
 ·exact Oo
 ·have e:=of_decide_eq_true h;subst e;exact QU
 ·have e:=of_decide_eq_true h;subst e;exact Om
 ·have e:=of_decide_eq_true h;subst e;exact Oq
theorem Nm(hN:X.N[i]?=some x)(hv:AY X.env.scope x)(h1:(x==("__debug__":Str))=false)(h2:(x==("__classdict__":Str))=false):PE X (.Name x p) (fun O H Q=>j9 O i fun v=>Q v H):=by
 intro pins s O H Q I h;refine AZ hN hv h1 h2 pins s O H Q I ?_;unfold j9 at h;split at h
 ·exact⟨_,by assumption,h⟩
 ·exact h.elim
theorem Py(ok:Ok X T Y E)(hx:T.gl[g]?=some x)(hg:Gl X x)(hd:(x==("__debug__":Str))=false):PE X (.Name x p) (fun _ H Q=>match Y[g]? with
  |some (.val v)=>Q v H
  |some (.tup a _)=>Q (.ref a) H
  |_=>False):=by
 intro pins s O H Q I h;split at h
 ·rename_i v e;obtain⟨u,hm,r⟩:=ok.gl g x _ hx e;exact yl hg hm r hd pins s O H Q I h
 ·rename_i a xs e;obtain⟨hm,_⟩:=ok.gl g x _ hx e;exact yl (v:=.ref a) hg hm rfl hd pins s O H Q I h
 ·exact h.elim
theorem Rt{t:TA}(ok:Ok X T Y E)(hx:T.gl[g]?=some x)(hg:Gl X x)(hd:(x==("__debug__":Str))=false)(ha:PA X es t)(hn:es=[]->t=fun _ H Q=>Q [] H)(hs:br es=true) :
  PE X (.Call (.Name x p) es [] pos) (fun O H Q=>match Y[g]? with
   |some (.fn sp dvs)=>t O H fun vs H1=>sp (vs++dvs) H1 Q E
   |_=>False):=by
 intro pins s O H Q I h;split at h
 ·rename_i sp dvs e;rcases ok.gl g x _ hx e with⟨k,f,fd,ps,ds,q1,q2,q3,q4,q5,q6,q7⟩|⟨eE,_,e0,e',k,f,fd,ps,sp0,q1,q2,q3,q4,q5,q6,q7⟩
  rotate_left 1
  ·subst e0 eE;have run:∀{s1:ah}{H1:Hp}{us:List Value}{vs:List V},L2.Inv X pins O H1 s1->bh vs us->sp (vs++[]) H1 Q E0->aq (az X.prog X.w) X.A (call (.ref f) us) (EP X pins O Q) X.xe s1:=fun{s1 H1 us vs} I1 r q=>by
    rw[dM]at q;rcases q7 with⟨z,rfl⟩|⟨z,rfl⟩
    ·obtain⟨e2,g1,g2,g3,g4⟩:=z.now I1;rw[q1]at g1;cases g1;exact cj (DH q2 q3 q6.1 q1 g2.ex g3 (fun y=>by
      obtain⟨e3,oe,vs',k1,k2,_,_,k5,k6,_⟩:=z;rw[q1]at k1;cases k1;rcases aQ.mp (I1.nt _ y)with y|y
      ·exact absurd (au k2) (kC.mpr (by rw[y];exact I1.ok.above))
      ·exact k6 y) I1 r q) (fun u s' hq=>I1.after hq) fun _ _ z=>z
    ·exact Na q2 q3 q6.1 q1 z I1 r q
   cases es with
   |nil=>
    have e:=hn rfl;subst e;refine absurd ?_ q6.2;have h:sp ([]++[]) H Q E0:=h;have hl:ps.length=0:=by
     rcases q7 with⟨z,rfl⟩|⟨z,rfl⟩
     ·exact(q2.len _ _ _ h).symm
     ·obtain⟨_,_,_,h⟩:=h;exact(q2.len _ _ _ h).symm
    exact ed hl
   |cons e er=>
    have hs':noStar e=true/\br er=true:=by simpa[br]using hs
    refine dc (lI I hg q4 ?_ hd);refine PySem.W.callWith_K (h₀:=X.base) I.ok.mod.kin q5 (aY (ha pos pins s O H _ I h) fun us s1 ⟨vs,H1,I1,r,q⟩=>⟨I1.dR,?_⟩) (cZ hs'.1) (i9 hs'.2);exact run I1 r q
  ·cases es with
   |nil=>
    have e:=hn rfl;subst e;exact Jm q1 q2 hg q3 q4 q5 q6 q7 hd pins s O H Q I h
   |cons e er=>
    have hs':noStar e=true/\br er=true:=by simpa[br]using hs
    exact MH q1 q2 hg q3 q4 q5 q6 q7 ha hd (cZ hs'.1) (i9 hs'.2) pins s O H Q I h
 ·exact h.elim
theorem Nn(ok:Ok X T Y E)(hi:X.N[i]?=some x)(hl:JI T x=true):PG X (.Name x p) (fun v O H Q=>Q (O.set i (some v)) H):=by
 unfold JI at hl;have hsc:=ok.sc;split at hl
 ·rename_i e;rw[<-hsc]at e;exact Dr ok.nd hi (.inl e) (.inr e)
 ·rename_i e;rw[<-hsc]at e;exact Dr ok.nd hi (.inr e) (.inl (ok.own x hl))
 ·exact no hl
theorem pg_tup'{gs:ny}{t:tF}(hc:X.calm=true\/eS X)(h:vz X es t)(hn:es.length=gs.len)(hs:br es=true):PG X (.Tuple es k pos) (fun v O H Q=>match v with
  |.ref a=>tU X.K H a fun t' xs=>t'=true/\xs.length=gs.len/\t xs O H Q
  |_=>False):=by
 intro pins s O H v u Q I r hw;cases v with
 |ref a=>
  obtain⟨t',xs,hx,ht,hl,hw⟩:=hw;subst ht;rcases hx.sq with⟨hf,_⟩|⟨_,z⟩
  ·cases hf
  ·rcases hc with hc|hc
   ·exact Oz (n:=es.length) hc h (lW hs).1 (lW hs).2 pins s O H _ u Q I r ⟨a,xs,rfl,z,by omega,hw⟩
   ·exact Nk (n:=es.length) hc h (lW hs).1 (lW hs).2 pins s O H _ u Q I r ⟨a,xs,rfl,z,by omega,hw⟩
 |_=>exact ay hw
theorem pg_sub'{i:Expr}{to ti:TE}(hu:X.A.units+60<c_)(hp:rW i=true)(ho:PE X o to)(hi:PE X i ti):PG X (.Subscript o i pos) (fun v O H Q=>to O H fun x H1=>ti O H1 fun y H2=>match x with
  |.ref a=>match H2 a with
   |some (.lst xs)=>∃k j,y=.int k/\gh xs.length k=some j/\Q O (upd H2 a (.lst (xs.set j v)))
   |some (.dK kvs)=>∃k,y=kV k/\kvs.length<ai/\Q O (upd H2 a (.dK (putK kvs k v)))
   |some (.dT kvs)=>∃k b,y=.ref b/\H2 b=some (.tup (k.map kV))/\kvs.length<ai/\Q O (upd H2 a (.dT (putK kvs k v)))
   |_=>False
  |_=>False):=by
 have hS:Ji X (fun x y v H2 Q=>match x with
  |.ref a=>match H2 a with
   |some (.lst xs)=>∃k j,y=.int k/\gh xs.length k=some j/\Q (upd H2 a (.lst (xs.set j v)))
   |some (.dK kvs)=>∃k,y=kV k/\kvs.length<ai/\Q (upd H2 a (.dK (putK kvs k v)))
   |some (.dT kvs)=>∃k b,y=.ref b/\H2 b=some (.tup (k.map kV))/\kvs.length<ai/\Q (upd H2 a (.dT (putK kvs k v)))
   |_=>False
  |_=>False):=by
  intro pins s O H o i v ov iv u Q I ro ri rv h;split at h
  ·split at h
   ·obtain⟨k,j,rfl,hj,q⟩:=h;exact set_list pins s O H _ _ v ov iv u Q I ro ri rv ⟨_,_,_,j,rfl,rfl,by assumption,hj,q⟩
   ·rename_i a _ kvs hk;obtain⟨k,rfl,hl,q⟩:=h;cases(show ov=aN a from ro);exact zy (by omega) I (.inl ⟨kvs,k,hk,rfl,hl,rfl⟩) ri rv fun s' I'=>⟨_,I',q⟩
   ·rename_i a _ kvs hk;obtain⟨k,b,rfl,hb,hl,q⟩:=h;cases(show ov=aN a from ro);exact zy (by omega) I (.inr ⟨kvs,k,b,hk,rfl,hb,hl,rfl⟩) ri rv fun s' I'=>⟨_,I',q⟩
   ·exact h.elim
  ·exact h.elim
 intro pins s O H v u Q I r h;refine OA ho hi hS (fun _=>by cases i<;>first|rfl|exact no hp) pins s O H v u Q I r ?_;exact h
theorem iM:PT X e (fun _ _ _=>False):=fun _ _ _ _ _ _ h=>h.elim
theorem Pz{a b:Expr}{tc ta tb:TT}(hc:PT X c tc)(ha:PT X a ta)(hb:PT X b tb):PT X (.IfExp c a b pos) (fun O H Q=>tc O H fun k H1=>if k=true then ta O H1 Q else tb O H1 Q):=by
 intro pins s O H Q I h;refine isTrue_IfExp (aY (hc pins s O H _ I h) fun d s1 ⟨H1,I1,q1⟩=>?_);cases d with
 |true=>exact ha pins s1 O H1 Q I1 q1
 |false=>exact hb pins s1 O H1 Q I1 q1
theorem DN{Q:Bool->Hp->Prop}:wT K Y E (.call g as) O H Q=wE K Y E (.call g as) O H (fun x H2=>ic K x H2 fun b=>Q b H2):=by
 show(match Y[g]? with
  |some (.fn sp dvs)=>wEs K Y E as O H fun vs H1=>sp (vs++dvs) H1 (fun x H2=>ic K x H2 fun b=>Q b H2) E
  |_=>False)=(match Y[g]? with
  |some (.fn sp dvs)=>wEs K Y E as O H fun vs H1=>sp (vs++dvs) H1 (fun x H2=>ic K x H2 fun b=>Q b H2) E
  |_=>False)
 rfl
theorem Np(ok:Ok X T Y E)(h:PE X e (wE X.K Y E (.call g as)))(he:∀whole,pH e X.env whole=(do let v <-whole;rq e.pos;lQ [v] (yb v))):PT X e (wT X.K Y E (.call g as)):=by
 have z:=pt_val' h he;intro pins s O H Q I q;rw[DN]at q;exact z pins s O H Q I q
theorem po_some'(h:PE X e te):PO X (some e) (fun O H Q=>te O H fun x H1=>match x with
  |.int i=>Q (some i) H1
  |_=>False):=by
 intro pins s O H Q I q;rw[evalPart_some];refine aY (h pins s O H _ I q) fun v s1 ⟨x,H1,I1,r1,q1⟩=>?_;cases x with
 |int i=>
  obtain⟨t,rfl⟩:=r1;exact⟨some i,H1,I1,.int i t,q1⟩
 |_=>exact ay q1
theorem pgs_nil':vz X [] (fun vs O H Q=>match vs with
  |[]=>Q O H
  |_=>False):=by
 intro pins s O H vs us Q I r h;cases vs with
 |nil=>exact MD pins s O H [] us Q I r ⟨rfl,h⟩
 |cons v vr=>exact ay h
theorem pgs_cons'{t:TG}{u:tF}(h1:PG X e t)(h2:vz X es u)(hs:noStar e=true):vz X (e::es) (fun vs O H Q=>match vs with
  |v::vr=>t v O H fun TF H'=>u vr TF H' Q
  |_=>False):=by
 intro pins s O H vs us Q I r h;cases vs with
 |nil=>exact ay h
 |cons v vr=>exact Jj h1 h2 (by rw[kM hs];rfl) pins s O H (v::vr) us Q I r ⟨v,vr,rfl,h⟩
theorem Mc:∀(gs:ny) (es:List Expr),AQ T gs es=true->es.length=gs.len
|.nil,es,h=>by
 cases es with
 |nil=>rfl
 |cons e er=>exact no h
|.cons g r,es,h=>by
 cases es with
 |nil=>exact no h
 |cons e er=>
  obtain⟨_,h2⟩:=band h;show er.length+1=r.len+1;rw[Mc r er h2]
theorem Me(as:i0)(es:List Expr)(h:kR T as es=true):es=[]->wEs X.K Y E as=fun _ H Q=>Q [] H:=by
 rintro rfl;cases as with
 |nil=>rfl
 |cons a r=>exact no h
theorem PC{a:CE}(h:PE X e (wE X.K Y E (.isx one gs a)))(he:∀whole,pH e X.env whole=(do let v <-whole;rq e.pos;lQ [v] (yb v))):PT X e (wT X.K Y E (.isx one gs a)):=pt_val' h he
theorem PD{a:CE}(h:PE X e (wE X.K Y E (.isv g a)))(he:∀whole,pH e X.env whole=(do let v <-whole;rq e.pos;lQ [v] (yb v))):PT X e (wT X.K Y E (.isv g a)):=pt_val' h he
theorem Ok.mJ(ok:Ok X T Y E)(h:decide (g<T.gl.length)=true):∀Cs as,Y[g]?=some (G.mJ Cs as)->p9 X.K Cs as:=fun Cs as e=>by
 have hl:=of_decide_eq_true h;exact ok.gl g (T.gl[g]) _ (ak hl) e
theorem hid{G:α->Prop}{e:α}(h:∀P:α->Prop,(∀x,G x->P x)->P e):G e:=h G fun _ h=>h
mutual
theorem cO:∀(c:CE) (e:Expr) {X:Cx}{T:Tab}{E:XK},Ok X T Y E->cR T c e=true->PE X e (wE X.K Y E c)/\PT X e (wT X.K Y E c)/\∀op vs p,e=.BoolOp op vs p->PW X e (wT X.K Y E c)
|.var i,e,X,T,E,ok,h=>by
 obtain⟨h0,h⟩:=band h;revert h;refine bO e (eq_of_beq h0) ?_;intro x p h;obtain⟨⟨⟨h1,h2⟩,h3⟩,h4⟩:=rY h;rw[<-ok.sc]at h2;have z':PE X (.Name x p) (wE X.K Y E (.var i)):=Nm (ok.EX h1) (Pj h2) (o8 h3) (o8 h4);exact⟨z',pt_val' z' (fun _=>rfl),fun _ _ _ z=>nomatch z⟩
|.con v,e,X,T,E,ok,h=>by
 obtain⟨h0,h⟩:=band h;revert h;refine IX e (eq_of_beq h0) ?_;intro _ _ _ h;exact⟨Gf h,iM,fun _ _ _ z=>nomatch z⟩
|.glo g,e,X,T,E,ok,h=>by
 obtain⟨h0,h⟩:=band h;revert h;refine bO e (eq_of_beq h0) ?_;intro x p h;obtain⟨⟨h1,h2⟩,h3⟩:=ng h;exact⟨Py ok (of_decide_eq_true h1) (ok.ia h2) (o8 h3),iM,fun _ _ _ z=>nomatch z⟩
|.bin op a b,e,X,T,E,ok,h=>by
 obtain⟨h0,h⟩:=band h;revert h;refine Mv e (eq_of_beq h0) ?_;intro l o r p h;obtain⟨⟨h1,h2⟩,h3⟩:=ng h;have e:=of_decide_eq_true h1;subst e;exact⟨Q2 (Rk op) (cO a l ok h2).1 (cO b r ok h3).1,iM,fun _ _ _ z=>nomatch z⟩
|.neg a,e,X,T,E,ok,h=>by
 obtain⟨h0,h⟩:=band h;revert h;refine vo e (eq_of_beq h0) ?_;intro op l p h;cases op<;>first|exact no h|skip
 exact⟨pe_neg' (cO a l ok h).1,iM,fun _ _ _ z=>nomatch z⟩
|.not a,e,X,T,E,ok,h=>by
 obtain⟨h0,h⟩:=band h;revert h;refine vo e (eq_of_beq h0) ?_;intro op l p h;cases op<;>first|exact no h|skip
 exact⟨pe_not' (cO a l ok h).1,Ot (cO a l ok h).2.1,fun _ _ _ z=>nomatch z⟩
|.and a b,e,X,T,E,ok,h=>by
 obtain⟨h0,h⟩:=band h;revert h;refine w4 e (eq_of_beq h0) ?_;intro op vs p h;cases op<;>first|exact no h|skip
 match vs,h with
 |[x,y],h=>
  obtain⟨h1,h2⟩:=band h;have w:=pw_and (pos:=p) (cO a x ok h1).2.1 (pw_and1 (cO b y ok h2).2.1);exact⟨pe_and' (cO a x ok h1).1 (F7 (cO b y ok h2).1),w.pt,fun _ _ _ _=>w⟩
 |x::y::z::r,h=>
  obtain⟨h1,h2⟩:=band h;have w:=pw_and (cO a x ok h1).2.1 ((cO b _ ok h2).2.2 _ _ _ rfl);exact⟨pe_and' (cO a x ok h1).1 (cO b _ ok h2).1,w.pt,fun _ _ _ _=>w⟩
 |[],h=>exact no h
 |[x],h=>exact no h
|.or a b,e,X,T,E,ok,h=>by
 obtain⟨h0,h⟩:=band h;revert h;refine w4 e (eq_of_beq h0) ?_;intro op vs p h;cases op<;>first|exact no h|skip
 match vs,h with
 |[x,y],h=>
  obtain⟨h1,h2⟩:=band h;have w:=pw_or (pos:=p) (cO a x ok h1).2.1 (pw_or1 (cO b y ok h2).2.1);exact⟨pe_or' (cO a x ok h1).1 (F7 (cO b y ok h2).1),w.pt,fun _ _ _ _=>w⟩
 |x::y::z::r,h=>
  obtain⟨h1,h2⟩:=band h;have w:=pw_or (cO a x ok h1).2.1 ((cO b _ ok h2).2.2 _ _ _ rfl);exact⟨pe_or' (cO a x ok h1).1 (cO b _ ok h2).1,w.pt,fun _ _ _ _=>w⟩
 |[],h=>exact no h
 |[x],h=>exact no h
|.ite c a b,e,X,T,E,ok,h=>by
 obtain⟨h0,h⟩:=band h;revert h;refine Mw e (eq_of_beq h0) ?_;intro t x y p h;obtain⟨⟨h1,h2⟩,h3⟩:=ng h;exact⟨Je (cO c t ok h1).2.1 (cO a x ok h2).1 (cO b y ok h3).1,Pz (cO c t ok h1).2.1 (cO a x ok h2).2.1 (cO b y ok h3).2.1,fun _ _ _ z=>nomatch z⟩
|.cmp op a b,e,X,T,E,ok,h=>by
 obtain⟨h0,h⟩:=band h;revert h;refine vp e (eq_of_beq h0) ?_;intro l os rs p h
 match os,rs,h with
 |[o],[r],h=>
  obtain⟨⟨⟨h1,h2⟩,h3⟩,h4⟩:=rY h;have e:=of_decide_eq_true h1;subst e;exact⟨MG (uY ok.room op) (cO a l ok h3).1 (cO b r ok h4).1 (o8 h2),pt_cmp' ok.room (cO a l ok h3).1 (cO b r ok h4).1 (o8 h2),fun _ _ _ z=>nomatch z⟩
 |[],_,h=>exact no h
 |_::_::_,_,h=>exact no h
 |[_],[],h=>exact no h
 |[_],_::_::_,h=>exact no h
|.chain o1 o2 a b c,e,X,T,E,ok,h=>by
 obtain⟨h0,h⟩:=band h;revert h;refine vp e (eq_of_beq h0) ?_;intro l os rs p h
 match os,rs,h with
 |[p1,p2],[m,r],h=>
  obtain⟨⟨⟨⟨⟨h1,h2⟩,h3⟩,h4⟩,h5⟩,h6⟩:=kc h;have e1:=of_decide_eq_true h1;have e2:=of_decide_eq_true h2;subst e1 e2;exact⟨pe_chain' ok.room (cO a l ok h4).1 (cO b m ok h5).1 (cO c r ok h6).1 (o8 h3),pt_chain' ok.room (cO a l ok h4).1 (cO b m ok h5).1 (cO c r ok h6).1 (o8 h3),fun _ _ _ z=>nomatch z⟩
 |[],_,h=>exact no h
 |[_],_,h=>exact no h
 |_::_::_::_,_,h=>exact no h
 |[_,_],[],h=>exact no h
 |[_,_],[_],h=>exact no h
 |[_,_],_::_::_::_,h=>exact no h
|.call g as,e,X,T,E,ok,h=>by
 obtain⟨h0,h⟩:=band h;obtain⟨hf,h⟩:=band h;revert hf h;refine cY e (eq_of_beq h0) ?_;intro f es kw p hf h;revert h;refine bO f (eq_of_beq hf) ?_;intro x px h;cases kw<;>first|exact no h|skip
 obtain⟨⟨⟨⟨h1,h2⟩,h3⟩,h4⟩,h5⟩:=AS h;have z':PE X (.Call (.Name x px) es [] p) (wE X.K Y E (.call g as)):=Rt ok (of_decide_eq_true h1) (ok.ia h2) (o8 h3) (o9 as es ok h4 h5) (Me as es h5) h4;exact⟨z',Np ok z' (fun _=>rfl),fun _ _ _ z=>nomatch z⟩
|.blt f as,e,X,T,E,ok,h=>by
 obtain⟨h0,h⟩:=band h;obtain⟨hf,h⟩:=band h;revert hf h;refine cY e (eq_of_beq h0) ?_;intro fn es kw p hf h;revert h;refine bO fn (eq_of_beq hf) ?_;intro x px h;cases kw<;>first|exact no h|skip
 obtain⟨hcm,h⟩:=band h;obtain⟨⟨⟨⟨⟨h1,h2⟩,h3⟩,h4⟩,h5⟩,h6⟩:=kc h;cases es with
 |nil=>exact no h5
 |cons e er=>
  have hb:jG X f.val (qF X.K f):=by
   rcases jD.mp hcm with hcm|hcm
   ·exact Rn (ok.calm hcm) ok.room f
   ·exact SI (ok.semi (band hcm).1) f (band hcm).2
  have z':PE X (.Call (.Name x px) (e::er) [] p) (wE X.K Y E (.blt f as)):=Po hb (ok.ia h2) (of_decide_eq_true h1) (ok.kg h3) (o9 as _ ok h4 h6) h4;exact⟨z',pt_val' z' (fun _=>rfl),fun _ _ _ z=>nomatch z⟩
|.isi a t,e,X,T,E,ok,h=>by
 obtain⟨h0,h⟩:=band h;obtain⟨hf,h⟩:=band h;by_cases ht:t=.none
 ·subst ht;rw[if_pos rfl]at h;revert hf h;refine cY e (eq_of_beq h0) ?_;intro fn es kw p hf h;revert h;refine bO fn (eq_of_beq hf) ?_;intro x px h
  match es,h with
  |[],h=>exact no h
  |[_],h=>exact no h
  |_::_::_::_,h=>exact no h
  |[l,c],h=>
   cases kw<;>first|exact no h|skip
   obtain⟨⟨⟨⟨⟨h1,h2⟩,h3⟩,h4⟩,h5⟩,h6⟩:=kc h;obtain⟨hc,h4⟩:=band h4;revert h4;refine mG c (eq_of_beq hc) ?_;intro ns kk tpos h4;split at h4
   ·rename_i y q1 z q2 _ _ e;cases e;obtain⟨⟨⟨⟨⟨k1,k2⟩,k3⟩,k4⟩,k5⟩,k6⟩:=kc h4;obtain rfl:=of_decide_eq_true k1;obtain rfl:=of_decide_eq_true k4;have z':PE X (.Call (.Name x px) [l,.Tuple [.Name "list" q1,.Name "tuple" q2] kk tpos] [] p) (wE X.K Y E (.isi a .none)):=Pw (ok.ia h2) (of_decide_eq_true h1) (ok.kg h3) (ok.ia k2) (ok.kg k3) (ok.ia k5) (ok.kg k6) (cO a l ok h6).1 h5;exact⟨z',pt_val' z' (fun _=>rfl),fun _ _ _ z=>nomatch z⟩
   ·exact no h4
 rw[if_neg ht]at h;obtain⟨ha,h⟩:=band h;revert hf ha h;refine cY e (eq_of_beq h0) ?_;intro fn es kw p hf ha h;revert h;refine bO fn (eq_of_beq hf) ?_;intro x px h
 match es,ha,h with
 |[],ha,h=>exact no ha
 |[_],ha,h=>exact no ha
 |_::_::_::_,ha,h=>exact no ha
 |[l,c],ha,h=>
  revert h;refine bO c (eq_of_beq ha) ?_;intro y py h;cases kw<;>first|exact no h|skip
  obtain⟨⟨⟨⟨⟨⟨⟨⟨h1,h2⟩,h3⟩,h4⟩,h5⟩,h6⟩,h7⟩,h8⟩,h9⟩:=Mb h;have z':PE X (.Call (.Name x px) [l,.Name y py] [] p) (wE X.K Y E (.isi a t)):=Pn (ok.ia h2) (of_decide_eq_true h1) (ok.kg h3) (ok.ia h6) (of_decide_eq_true h4) (of_decide_eq_true h5) (ok.kg h7) (cO a l ok h9).1 h8;exact⟨z',pt_val' z' (fun _=>rfl),fun _ _ _ z=>nomatch z⟩
|.mth m o as,e,X,T,E,ok,h=>by
 obtain⟨h0,h⟩:=band h;obtain⟨hf,h⟩:=band h;revert hf h;refine cY e (eq_of_beq h0) ?_;intro fn es kw p hf h;revert h;refine tD fn (eq_of_beq hf) ?_;intro l nm ap h;cases kw<;>first|exact no h|skip
 obtain⟨⟨⟨⟨⟨⟨h1,h2⟩,h3⟩,h4⟩,h5⟩,h6⟩,h7⟩:=EW h;have e:=of_decide_eq_true h1;subst e;have ho:=(cO o l ok h6).1;have ha:=o9 as es ok h4 h7;cases es with
 |nil=>
  have q:=Me (X:=X) (Y:=Y) (E:=E) as [] h7 rfl;have z:=Nb ok.room (m:=m) (apos:=ap) (cpos:=p) ho h2 h3;have z':PE X (.Call (.Attribute l m.name ap) [] [] p) (wE X.K Y E (.mth m o as)):=by
   show PE X _ (fun O H Q=>wE X.K Y E o O H fun x H1=>p6 m x H1/\wEs X.K Y E as O H1 fun vs H2=>rO X.K m x vs H2 Q);rw[q];exact z
  exact⟨z',pt_val' z' (fun _=>rfl),fun _ _ _ z=>nomatch z⟩
 |cons e er=>
  have z':PE X (.Call (.Attribute l m.name ap) (e::er) [] p) (wE X.K Y E (.mth m o as)):=Pk ok.room ho ha h2 h3 h4 (of_decide_eq_true h5);exact⟨z',pt_val' z' (fun _=>rfl),fun _ _ _ z=>nomatch z⟩
|.ix a b,e,X,T,E,ok,h=>by
 obtain⟨h0,h⟩:=band h;revert h;refine jE e (eq_of_beq h0) ?_;intro l r p h;obtain⟨⟨h1,h2⟩,h3⟩:=ng h;have z':PE X (.Subscript l r p) (wE X.K Y E (.ix a b)):=Q9 (SE ok.room) (cO a l ok h2).1 (cO b r ok h3).1 (EV h1);exact⟨z',pt_val' z' (fun _=>rfl),fun _ _ _ z=>nomatch z⟩
|.sl a lo hi,e,X,T,E,ok,h=>by
 obtain⟨h0,h⟩:=band h;obtain⟨hf,h⟩:=band h;revert hf h;refine jE e (eq_of_beq h0) ?_;intro l r p hf h;revert h;refine Mx r (eq_of_beq hf) ?_;intro x y st ps h;cases st<;>first|exact no h|skip
 obtain⟨⟨h1,h2⟩,h3⟩:=ng h;exact⟨Jo SG (cO a l ok h1).1 (R0 lo x ok h2) (R0 hi y ok h3),iM,fun _ _ _ z=>nomatch z⟩
|.lst as,e,X,T,E,ok,h=>by
 obtain⟨h0,h⟩:=band h;revert h;refine Od e (eq_of_beq h0) ?_;intro _ _ h;obtain⟨h1,h2⟩:=band h;exact⟨OR (o9 as _ ok h1 h2),iM,fun _ _ _ z=>nomatch z⟩
|.tup as,e,X,T,E,ok,h=>by
 obtain⟨h0,h⟩:=band h;revert h;refine mG e (eq_of_beq h0) ?_;intro _ _ _ h;obtain⟨h1,h2⟩:=band h;exact⟨OQ (o9 as _ ok h1 h2),iM,fun _ _ _ z=>nomatch z⟩
|.comp nl fr elt tg src cond,e,X,T,E,ok,h=>by
 obtain⟨h0,h⟩:=band h;revert h;refine uN e (eq_of_beq h0) ?_;intro l gs sc p h
 match gs,h with
 |[],h=>exact no h
 |⟨_,_,_,.ofNat 0⟩::_::_,h=>exact no h
 |⟨_,_,_,.ofNat (n+1)⟩::_,h=>exact no h
 |⟨_,_,_,.negSucc n⟩::_,h=>exact no h
 |[⟨t,it,ifs,.ofNat 0⟩],h=>
  obtain⟨hcm,h⟩:=band h;obtain⟨⟨⟨⟨⟨h2,h3⟩,h4⟩,h5⟩,h6⟩,h7⟩:=kc h;obtain⟨h3,h3'⟩:=band h3;rcases jD.mp hcm with hcm|hcm
  ·obtain⟨hcm,hns⟩:=band hcm;have hns:T.semi=true->False:=fun z=>by rw[z]at hns;cases hns
   exact⟨M8 (ok.calm hcm) (ok.rZ h2) (PF src it h3' ok h4) (p_ h3) (fun C Tz H ex=>zK tg t (jl ok h2 C Tz H ex (fun z=>(hns z).elim) (.inl hcm)) h5) (fun C Tz H ex=>PJ cond ifs (jl ok h2 C Tz H ex (fun z=>(hns z).elim) (.inl hcm)) h6)
    (fun C Tz H ex=>(cO elt l (jl ok h2 C Tz H ex (fun z=>(hns z).elim) (.inl hcm)) h7).1),iM,fun _ _ _ z=>nomatch z⟩
  ·exact⟨JX (ok.semi (band hcm).1) (ok.rZ h2) (SJ src it h3' (band hcm).2 ok h4) (p_ h3) (fun C Tz H ex z=>zK tg t (jl ok h2 C Tz H ex (fun _=>z) (.inr (band hcm).1)) h5) (fun C Tz H ex z=>PJ cond ifs (jl ok h2 C Tz H ex (fun _=>z) (.inr (band hcm).1)) h6)
    (fun C Tz H ex z=>(cO elt l (jl ok h2 C Tz H ex (fun _=>z) (.inr (band hcm).1)) h7).1),iM,fun _ _ _ z=>nomatch z⟩
|.isx one gs a,e,X,T,E,ok,h=>by
 obtain⟨h0,h⟩:=band h;obtain⟨hf,h⟩:=band h;revert hf h;refine cY e (eq_of_beq h0) ?_;intro fn es kw p hf h;revert h;refine bO fn (eq_of_beq hf) ?_;intro x px h
 match es,h with
 |[],h=>exact no h
 |[_],h=>exact no h
 |_::_::_::_,h=>exact no h
 |[l,c],h=>
  cases kw<;>first|exact no h|skip
  obtain⟨⟨⟨⟨⟨h1,h2⟩,h3⟩,h4⟩,h5⟩,h6⟩:=kc h;have z':PE X (.Call (.Name x px) [l,c] [] p) (wE X.K Y E (.isx one gs a)):=Pp ok (ok.ia h2) (of_decide_eq_true h1) (ok.kg h3) (cO a l ok h6).1 h4 h5;exact⟨z',PC z' (fun _=>rfl),fun _ _ _ z=>nomatch z⟩
|.isv g a,e,X,T,E,ok,h=>by
 obtain⟨h0,h⟩:=band h;obtain⟨hf,h⟩:=band h;obtain⟨ha,h⟩:=band h;revert hf ha h;refine cY e (eq_of_beq h0) ?_;intro fn es kw p hf ha h;revert h;refine bO fn (eq_of_beq hf) ?_;intro x px h
 match es,ha,h with
 |[],ha,h=>exact no ha
 |[_],ha,h=>exact no ha
 |_::_::_::_,ha,h=>exact no ha
 |[l,c],ha,h=>
  revert h;refine bO c (eq_of_beq ha) ?_;intro y py h;cases kw<;>first|exact no h|skip
  obtain⟨⟨⟨⟨⟨⟨⟨⟨h1,h2⟩,h3⟩,h4⟩,h5⟩,h6⟩,h7⟩,h8⟩,h9⟩:=Mb h;have z':PE X (.Call (.Name x px) [l,.Name y py] [] p) (wE X.K Y E (.isv g a)):=Pq (ok.mJ h9) (ok.ia h2) (of_decide_eq_true h1) (ok.kg h3) (ok.ia h5) (of_decide_eq_true h4) (ok.kg h6) (cO a l ok h8).1 h7;exact⟨z',PD z' (fun _=>rfl),fun _ _ _ z=>nomatch z⟩
|.att g a f,e,X,T,E,ok,h=>by
 obtain⟨h0,h⟩:=band h;revert h;refine tD e (eq_of_beq h0) ?_;intro l nm p h
 ·skip
  obtain⟨⟨⟨h1,h2⟩,h3⟩,h4⟩:=rY h;have e:=of_decide_eq_true h1;subst e;exact⟨Pr (ok.mJ h4) (cO a l ok h3).1 h2,iM,fun _ _ _ z=>nomatch z⟩
theorem o9:∀(cs:i0) (es:List Expr) {X:Cx}{T:Tab}{E:XK},Ok X T Y E->br es=true->kR T cs es=true->PA X es (wEs X.K Y E cs)
|.nil,es,X,T,E,ok,hs,h=>by
 cases es with
 |nil=>exact A4
 |cons e er=>exact no h
|.cons a r,es,X,T,E,ok,hs,h=>by
 cases es with
 |nil=>exact no h
 |cons e er=>
  obtain⟨h1,h2⟩:=band h;have hs':noStar e=true/\br er=true:=by simpa[br]using hs
  exact ym (cO a e ok h1).1 (o9 r er ok hs'.2 h2) (cZ hs'.1)
theorem R0:∀(c:CO) (e:Option Expr) {X:Cx}{T:Tab}{E:XK},Ok X T Y E->JJ T c e=true->PO X e (wO X.K Y E c)
|.none,e,X,T,E,ok,h=>by
 cases e with
 |none=>exact ML
 |some x=>exact no h
|.some a,e,X,T,E,ok,h=>by
 cases e with
 |none=>exact no h
 |some x=>exact po_some' (cO a x ok h).1
theorem PJ:∀(c:CO) (es:List Expr) {X:Cx}{T:Tab}{E:XK},Ok X T Y E->Pf T c es=true->By X es (wC X.K Y E c)
|.none,es,X,T,E,ok,h=>by
 cases es with
 |nil=>exact M6
 |cons x r=>exact no h
|.some a,es,X,T,E,ok,h=>by
 match es,h with
 |[x],h=>exact M7 (cO a x ok h).2.1
 |[],h=>exact no h
 |_::_::_,h=>exact no h
theorem zK:∀(c:CG) (e:Expr) {X:Cx}{T:Tab}{E:XK},Ok X T Y E->tY T c e=true->PG X e (wG X.K Y E c)
|.name i,e,X,T,E,ok,h=>by
 obtain⟨h0,h⟩:=band h;revert h;refine bO e (eq_of_beq h0) ?_;intro _ _ h;obtain⟨h1,h2⟩:=band h;exact Nn ok (ok.EX h1) h2
|.tup gs,e,X,T,E,ok,h=>by
 obtain⟨h0,h⟩:=band h;revert h;refine mG e (eq_of_beq h0) ?_;intro _ _ _ h;obtain⟨hcm,h⟩:=band h;obtain⟨h1,h2⟩:=band h;exact pg_tup' ((jD.mp hcm).imp ok.calm ok.semi) (PK gs _ ok h1 h2) (Mc gs _ h2) h1
|.sub o i,e,X,T,E,ok,h=>by
 obtain⟨h0,h⟩:=band h;revert h;refine jE e (eq_of_beq h0) ?_;intro _ _ _ h;obtain⟨⟨h1,h2⟩,h3⟩:=ng h;exact pg_sub' ok.room h1 (cO o _ ok h2).1 (cO i _ ok h3).1
theorem PK:∀(cs:ny) (es:List Expr) {X:Cx}{T:Tab}{E:XK},Ok X T Y E->br es=true->AQ T cs es=true->vz X es (DE X.K Y E cs)
|.nil,es,X,T,E,ok,hs,h=>by
 cases es with
 |nil=>exact pgs_nil'
 |cons e er=>exact no h
|.cons g r,es,X,T,E,ok,hs,h=>by
 cases es with
 |nil=>exact no h
 |cons e er=>
  obtain⟨h1,h2⟩:=band h;have hs':noStar e=true/\br er=true:=by simpa[br]using hs
  exact pgs_cons' (zK g e ok h1) (PK r er ok hs'.2 h2) hs'.1
theorem SJ:∀(c:CI) (e:Expr) {tg:Expr}{X:Cx}{T:Tab}{E:XK},EN c tg=true->L4 c=true->Ok X T Y E->ES T c e=true->JV eS X tg e (wI X.K Y E c)
|.zip as,e,tg,X,T,E,tb,_,ok,h=>by
 cases tg<;>first|exact no tb|skip
 obtain⟨h0,h⟩:=band h;obtain⟨hf,h⟩:=band h;revert hf h;refine cY e (eq_of_beq h0) ?_;intro fn es kw p hf h;revert h;refine bO fn (eq_of_beq hf) ?_;intro x px h;cases kw<;>first|exact no h|skip
 obtain⟨⟨⟨⟨⟨h1,h2⟩,h3⟩,h4⟩,h5⟩,h6⟩:=kc h;have e:=of_decide_eq_true h1;subst e;cases es with
 |nil=>exact no h5
 |cons e er=>
  have hs':noStar e=true/\br er=true:=by simpa[br]using h4
  exact JW (ok.ia h2) (ok.kg h3) (o9 as _ ok h4 h6) hs'.1 hs'.2
|.seq _,_,_,_,_,_,_,z,_,_=>nomatch z
|.range _,_,_,_,_,_,_,z,_,_=>nomatch z
|.enum _,_,_,_,_,_,_,z,_,_=>nomatch z
theorem PF:∀(c:CI) (e:Expr) {tg:Expr}{X:Cx}{T:Tab}{E:XK},EN c tg=true->Ok X T Y E->ES T c e=true->zE X tg e (wI X.K Y E c)
|.seq a,e,tg,X,T,E,_,ok,h=>M5 (cO a e ok h).1
|.range as,e,tg,X,T,E,_,ok,h=>by
 obtain⟨h0,h⟩:=band h;obtain⟨hf,h⟩:=band h;revert hf h;refine cY e (eq_of_beq h0) ?_;intro fn es kw p hf h;revert h;refine bO fn (eq_of_beq hf) ?_;intro x px h;cases kw<;>first|exact no h|skip
 ·skip
  obtain⟨⟨⟨⟨⟨h1,h2⟩,h3⟩,h4⟩,h5⟩,h6⟩:=kc h;have e:=of_decide_eq_true h1;subst e;cases es with
  |nil=>exact no h5
  |cons e er=>
   have hs':noStar e=true/\br er=true:=by simpa[br]using h4
   exact GD (ok.ia h2) (ok.kg h3) (o9 as _ ok h4 h6) (cZ hs'.1) (i9 hs'.2)
|.zip as,e,tg,X,T,E,tb,ok,h=>by
 cases tg<;>first|exact no tb|skip
 obtain⟨h0,h⟩:=band h;obtain⟨hf,h⟩:=band h;revert hf h;refine cY e (eq_of_beq h0) ?_;intro fn es kw p hf h;revert h;refine bO fn (eq_of_beq hf) ?_;intro x px h;cases kw<;>first|exact no h|skip
 obtain⟨⟨⟨⟨⟨h1,h2⟩,h3⟩,h4⟩,h5⟩,h6⟩:=kc h;have e:=of_decide_eq_true h1;subst e;cases es with
 |nil=>exact no h5
 |cons e er=>
  have hs':noStar e=true/\br er=true:=by simpa[br]using h4
  exact Nl (ok.ia h2) (ok.kg h3) (o9 as _ ok h4 h6) hs'.1 hs'.2
|.enum a,e,tg,X,T,E,tb,ok,h=>by
 cases tg<;>first|exact no tb|skip
 obtain⟨h0,h⟩:=band h;obtain⟨hf,h⟩:=band h;revert hf h;refine cY e (eq_of_beq h0) ?_;intro fn es kw p hf h;revert h;refine bO fn (eq_of_beq hf) ?_;intro x px h
 match es,h with
 |[],h=>exact no h
 |_::_::_,h=>exact no h
 |[l],h=>
  cases kw<;>first|exact no h|skip
  obtain⟨⟨⟨⟨h1,h2⟩,h3⟩,h4⟩,h5⟩:=AS h;have e:=of_decide_eq_true h1;subst e;exact JG (ok.ia h2) (ok.kg h3) (cO a l ok h5).1 (by rw[cZ h4];rfl)
end
end
theorem Nq{l:Expr}{gs:List Comprehension}{vpos:Pos}(hk:env.scope.kind=.function)(h:AO env.scope sc y py vpos=true):lP (.ListComp l gs sc vpos) (some (.Name y py)) n env=pure true:=by
 unfold AO at h;simp only[bx,decide_eq_true_eq]at h;obtain⟨⟨h1,h2⟩,h3⟩:=h;have hb:env.blockKind=.function:=by
  unfold Env.blockKind;rw[hk];rfl
 show pure (env.blockKind==.function&&env.kindOf y==some .local&&py.line==vpos.line&&!(sc.names.any fun(n,k)=>n==y&&(k==.local||k==.cell)))=pure true;have e1:(env.blockKind==IY)=true:=by rw[hb];rfl
 have e2:(env.kindOf y==some NameKind.local)=true:=by
  have:env.kindOf y=some .local:=h1;rw[this];rfl
 have e3:(py.line==vpos.line)=true:=by rw[h2];simp
 rw[e1,e2,e3,h3];rfl
theorem o_{t:Expr}(h:notTuple t=true\/notTuple e=true):sX [t] e env=pure none:=by
 unfold sX;rcases h with h|h
 ·cases t<;>first|rfl|exact no h
 ·cases t<;>first|rfl|(cases e<;>first|rfl|exact no h)
theorem zL{t:Expr}(h:mV e=true):sW [t] e n env=pure false:=xF h
theorem BF{t:Expr}(hs:env.scope=sc)(h:(mV e||EO sc t)=true):sW [t] e n env=pure false:=by
 rcases jD.mp h with h|h
 ·exact zL h
 ·subst hs;show lP e (some t) n env=pure false;unfold lP;split
  ·cases t with
   |Name y p=>
    have e2:(env.kindOf y==some NameKind.local)=false:=by
     have:¬env.scope.names.lookup y=some .local:=by simpa[EO]using h
     exact beq_eq_false_iff_ne.mpr this
    simp only[e2,m5,y_]
   |_=>rfl
  ·rfl
structure BG (X:Cx) (T:Tab) (Y:List G) (E:XK):Prop extends Ok X T Y E where
 rz:T.calm=true->∃X0:Cx,X=X0.iL (qE X0 E)/\X.stack=X.env::X.outer/\X.env.frame=some X.env.locals/\X.A.handled=none
theorem BG.hand{E:XK}(ok:BG X T Y E){e:Addr}(he:e∈X.ex\/X.Tz.heap.objs.size<=e):BG (X.hand (.ref e)) (EU T) (Y.map (G.hand e)) E0:={ ok.toOk.hand he with rz:=fun z=>nomatch z }
theorem wu{g:CG}{t:Expr}(h:tY T g t=true):noStar t=true:=by
 cases g with
 |name i=>exact bO t (eq_of_beq (band h).1) fun _ _=>rfl
 |tup gs=>exact mG t (eq_of_beq (band h).1) fun _ _ _=>rfl
 |sub o i=>exact jE t (eq_of_beq (band h).1) fun _ _ _=>rfl
theorem jQ:∀(b:CB) (sts:List Stmt) {X:Cx}{T:Tab}{E:XK},Ok X T Y E->X.calm=true->ET T b sts=true->PB X sts (wB X.K Y b)
|.call g as,sts,X,T,E,ok,hcl,h=>by
 obtain⟨hf,h⟩:=band h
 match sts,hf,h with
 |[],hf,h=>exact no hf
 |st::sr,hf,h=>
  obtain⟨hf,hg⟩:=band hf;revert h hg;refine zf st (eq_of_beq hf) ?_;intro e p h hg;obtain⟨hg,hh⟩:=band hg;revert h hh;refine cY e (eq_of_beq hg) ?_;intro fn es kw pc h hh;revert h;refine bO fn (eq_of_beq hh) ?_;intro x px h;cases kw<;>first|exact no h|skip
  cases sr<;>first|exact no h|skip
  obtain⟨⟨⟨⟨⟨h1,h2⟩,h3⟩,h4⟩,h5⟩,h6⟩:=kc h;cases es with
  |nil=>exact no h5
  |cons e er=>
   have hs':noStar e=true/\br er=true:=by simpa[br]using h4
   intro pins s O H E' nx I q;unfold wB at q;split at q
   ·rename_i sp dvs e1;rcases ok.gl g x _ (of_decide_eq_true h1) e1 with⟨k,f,fd,ps,ds,q1,q2,q3,q4,q5,q6,q7⟩|⟨_,z,_⟩
    rotate_left 1
    ·rw[hcl]at z;cases z
    ·exact M1 q1 q2 (ok.ia h2) q3 q4 q5 q6 (o9 as (e::er) ok.tE h4 h6) (o8 h3) (cZ hs'.1) (i9 hs'.2) pins s O H E' nx I q
   ·exact q.elim
|.ite c a b,sts,X,T,E,ok,hcl,h=>by
 obtain⟨hf,h⟩:=band h
 match sts,hf,h with
 |[],hf,h=>exact no hf
 |st::sr,hf,h=>
  revert h;refine CN st (eq_of_beq hf) ?_;intro t x y p h;cases sr<;>first|exact no h|skip
  obtain⟨⟨h1,h2⟩,h3⟩:=ng h;exact Rh (cO c t ok.tE h1).2.1 (jQ a x ok hcl h2) (jQ b y ok hcl h3)
section
mutual
theorem okS:∀{Y:List G} (c:CS) (st:Stmt) {X:Cx}{T:Tab}{E:XK},BG X T Y E->Pg T c st=true->PS X st (wS X.K Y E c)
|Y,.expr c,st,X,T,E,ok,h=>by
 obtain⟨h0,h⟩:=band h;revert h;refine zf st (eq_of_beq h0) ?_;intro _ _ h;obtain⟨h1,h2⟩:=band h;exact MC (cO c _ ok.toOk h2).1 (xF h1)
|Y,.asg g c,st,X,T,E,ok,h=>by
 obtain⟨h0,h⟩:=band h;revert h;refine pQ st (eq_of_beq h0) ?_;intro ts e p h
 match ts,h with
 |[],h=>exact no h
 |_::_::_,h=>exact no h
 |[t],h=>
  obtain⟨⟨⟨h1,h2⟩,h3⟩,h4⟩:=rY h;exact A1 (cO c e ok.toOk h4).1 (zK g t ok.toOk h3) (BF ok.sc h1) (o_ (.inl h2)) (by rw[kM (wu h3)];rfl)
|Y,.tasg g c,st,X,T,E,ok,h=>by
 apply hid (e:=st);intro P zk;cases st<;>first|exact no h|skip
 rename_i ts e p
 match ts,h with
 |[],h=>exact no h
 |_::_::_,h=>exact no h
 |[t],h=>
  obtain⟨⟨⟨h1,h2⟩,h3⟩,h4⟩:=rY h;refine zk _ ?_;exact A1 (cO c e ok.toOk h4).1 (zK g t ok.toOk h3) (zL h1) (o_ (.inr h2)) (by rw[kM (wu h3)];rfl)
|Y,.acl i g as,st,X,T,E,ok,h=>by
 obtain⟨h0,h⟩:=band h;revert h;refine pQ st (eq_of_beq h0) ?_;intro ts e p h
 match ts,h with
 |[],h=>exact no h
 |_::_::_,h=>exact no h
 |[t],h=>
  obtain⟨⟨⟨h1,h2⟩,h3⟩,h4⟩:=rY h;exact A1 (cO (.call g as) e ok.toOk h4).1 (zK (.name i) t ok.toOk h3) (BF ok.sc h1) (o_ (.inl h2)) (by rw[kM (wu h3)];rfl)
|Y,.casg i c,st,X,T,E,ok,h=>by
 obtain⟨h0,h⟩:=band h;obtain⟨hf,h⟩:=band h;revert hf h;refine pQ st (eq_of_beq h0) ?_;intro ts e p hf h
 match ts,hf,h with
 |[],hf,h=>exact no hf
 |t::tr,hf,h=>
  obtain⟨hf,hg⟩:=band hf;revert h;refine bO t (eq_of_beq hf) ?_;intro y py h;cases tr<;>first|exact no h|skip
  revert h;refine uN e (eq_of_beq hg) ?_;intro l gs sc vpos h;have hcm:=(band (band h).1).1;have hns:T.semi=true->False:=fun z=>by have q:=(band (band h).1).2;rw[z]at q;cases q
  replace h:=(band h).2;obtain⟨⟨h1,h2⟩,h3⟩:=ng h;cases c<;>first|exact no h3|skip
  rename_i nl fr elt tg src cond _ _ _
  match gs,h3 with
  |[],h=>exact no h
  |⟨_,_,_,.ofNat 0⟩::_::_,h=>exact no h
  |⟨_,_,_,.ofNat (n+1)⟩::_,h=>exact no h
  |⟨_,_,_,.negSucc n⟩::_,h=>exact no h
  |[⟨t,it,ifs,.ofNat 0⟩],h3=>
   replace h3:=(band (band h3).2).2;obtain⟨⟨⟨⟨⟨k2,k3⟩,k4⟩,k5⟩,k6⟩,k7⟩:=kc h3;obtain⟨k3,k3'⟩:=band k3;have hl:X.env.scope.names.lookup y=some .local:=by
    unfold AO at h2;simp only[bx,decide_eq_true_eq]at h2;rw[ok.sc];exact h2.1.1
   exact M9 (ok.calm hcm) ok.nd (ok.toOk.EX h1) hl (ok.toOk.rZ k2) (PF src it k3' ok.toOk k4) (p_ k3) (Nq ok.kind (by rw[ok.sc];exact h2)) (fun C Tz H ex=>zK tg t (jl ok.toOk k2 C Tz H ex (fun z=>(hns z).elim) (.inl hcm)) k5) (fun C Tz H ex=>PJ cond ifs (jl ok.toOk k2 C Tz H ex (fun z=>(hns z).elim) (.inl hcm)) k6)
    (fun C Tz H ex=>(cO elt _ (jl ok.toOk k2 C Tz H ex (fun z=>(hns z).elim) (.inl hcm)) k7).1)
|Y,.ret c,st,X,T,E,ok,h=>by
 obtain⟨h0,h⟩:=band h;revert h;refine LJ st (eq_of_beq h0) ?_;intro e p h;cases e<;>first|exact no h|skip
 ·exact Ov (cO c _ ok.toOk h).1
|Y,.ifs c a b,st,X,T,E,ok,h=>by
 obtain⟨h0,h⟩:=band h;revert h;refine CN st (eq_of_beq h0) ?_;intro _ _ _ _ h;obtain⟨⟨h1,h2⟩,h3⟩:=ng h;exact QY (cO c _ ok.toOk h1).2.1 (wx a _ ok h2) (wx b _ ok h3)
|Y,.forr g src b,st,X,T,E,ok,h=>by
 obtain⟨h0,h⟩:=band h;revert h;refine Of st (eq_of_beq h0) ?_;intro t it x l p h;cases l<;>first|exact no h|skip
 ·obtain⟨hcm,h⟩:=band h;obtain⟨⟨⟨⟨h1,h1'⟩,h2⟩,h3⟩,h4⟩:=AS h;exact Ro ok.po (ok.calm hcm) (PF src _ h1' ok.toOk h2) (zK g _ ok.toOk h3) (wx b _ ok h4) (p_ h1)
|Y,.brk,st,X,T,E,ok,h=>by
 obtain⟨h0,h⟩:=band h;revert h;refine My st (eq_of_beq h0) ?_;intro _ h;exact Jf
|Y,.cont,st,X,T,E,ok,h=>by
 obtain⟨h0,h⟩:=band h;revert h;refine IZ st (eq_of_beq h0) ?_;intro _ h;exact CU
|Y,.never,st,X,T,E,ok,h=>Jg
|Y,.rais g as,st,X,T,E,ok,h=>by
 obtain⟨h0,h⟩:=band h;obtain⟨hf,h⟩:=band h;revert hf h;refine Mz st (eq_of_beq h0) ?_;intro e f p hf h;cases e with
 |none=>exact no hf
 |some e=>
 obtain⟨hf,hg⟩:=band hf;revert h hg;refine cY e (eq_of_beq hf) ?_;intro fn es kw pc h hg;revert h;refine bO fn (eq_of_beq hg) ?_;intro x px h;cases kw<;>first|exact no h|skip
 cases f<;>first|exact no h|skip
 ·skip
  obtain⟨hcm,h⟩:=band h;obtain⟨⟨⟨⟨⟨h1,h2⟩,h3⟩,h4⟩,h5⟩,h6⟩:=kc h;cases es with
  |nil=>exact no h5
  |cons e er=>
   have hs':noStar e=true/\br er=true:=by simpa[br]using h4
   intro pins s O H D I q;replace q:(match Y[g]? with
    |some (.cls C fs n)=>tS C fs n (wEs X.K Y E as) E D O H
    |_=>False):=q
   split at q
   ·rename_i C fs n e1;obtain⟨hm,k,hr,fI,fd,ps,c1,c2,c3,c4,c5,rfl⟩:=ok.gl g x _ (of_decide_eq_true h1) e1;obtain⟨X0,eX,hst,hf,hh⟩:=ok.rz hcm;have pa:=o9 as (e::er) ok.toOk h4 h6;have gl:=ok.toOk.ia h2;subst eX;exact Jx (X:=X0) c1 c2 hr hh c3 c4 c5 gl hm pa (o8 h3) (cZ hs'.1) (i9 hs'.2) pins s O H D I q
   ·exact q.elim
|Y,.tri i g b hd,st,X,T,E,ok,h=>by
 obtain⟨h0,h⟩:=band h;obtain⟨hf,h⟩:=band h;revert hf h;refine Og st (eq_of_beq h0) ?_;intro body hs oe fe p hf h
 match hs,hf,h with
 |[],hf,h=>exact no hf
 |.ExceptHandler a b c d::hr,hf,h=>
  cases a with
  |none=>exact no hf
  |some a=>
  revert h;refine bO a (eq_of_beq hf) ?_;intro x px h;cases b<;>first|exact no h|skip
  rename_i n;cases c<;>first|exact no h|skip
  rename_i s0 sr;cases hr<;>first|exact no h|skip
  cases oe<;>first|exact no h|skip
  cases fe<;>first|exact no h|skip
  obtain⟨hcm,h⟩:=band h;obtain⟨⟨⟨⟨⟨⟨h1,h2⟩,h3⟩,h4⟩,h5⟩,h6⟩,h7⟩:=EW h;intro pins s O H D I q;replace q:(match Y[g]? with
   |some (.exb B _)=>Bp X.K i B (wB X.K Y b) (fun e=>wSs X.K (Y.map (G.hand e)) E0 hd) D O H
   |_=>False):=q
  split at q
  ·rename_i B Cs e1;obtain⟨hm,hB⟩:=ok.gl g x _ (of_decide_eq_true h1) e1;obtain⟨X0,eX,hst,hf,hh⟩:=ok.rz hcm;have hl:=of_decide_eq_true h5;rw[<-ok.sc]at hl;exact O9 hst hf (jQ b body ok.toOk (ok.calm hcm) h6) (fun e he=>wx hd (s0::sr) (ok.hand he) h7) (ok.toOk.ia h2) hm hB ok.nd (ok.toOk.EX h4) hl (o8 h3) pins s O H D I q
  ·exact q.elim
theorem wx:∀{Y:List G} (cs:dS) (sts:List Stmt) {X:Cx}{T:Tab}{E:XK},BG X T Y E->kT T cs sts=true->lR X sts (wSs X.K Y E cs)
|Y,.nil,sts,X,T,E,ok,h=>by
 cases sts with
 |nil=>exact Dq
 |cons s r=>exact no h
|Y,.cons c r,sts,X,T,E,ok,h=>by
 cases sts with
 |nil=>exact no h
 |cons s sr=>
  obtain⟨h1,h2⟩:=band h;exact A0 (okS c s ok h1) (wx r sr ok h2)
end
end
def yF(P:a_)(w:bC)(K:PySem.W.Frag)(mg:Str->Option Value)(base:Heap)(k:Nat)(x:Str):G->Prop
|.val v=>∃u,mg x=some u/\RelV v u
|.tup a xs=>mg x=some (.ref a)/\LS K a true xs
|.fn sp dvs=>(∃(f:Addr) (fd:dD) (ps:List Str) (ds:List Value),eO P w K mg base (je P w) k f fd ps sp/\mg x=some (.ref f)/\PySem.W.keepIn K (.ref f)=true/\Binds K fd ps ds/\bh dvs ds)
|.cls C fs n=>mg x=some (.ref C)/\∃j,j+1<=k/\AR P w K mg base j C fs n
|.gy D Cs=>mg x=some (.ref D)/\gc K D Cs
|.mJ Cs as=>p9 K Cs as
|.exb B _=>mg x=some (.ref B)/\xx K B
|.fh sp=>∃(f:Addr) (fd:dD) (ps:List Str),lV P w K mg base k f fd ps sp/\mg x=some (.ref f)/\PySem.W.keepIn K (.ref f)=true/\(Binds K fd ps []/\ps≠[])
|.nop=>True
def r6(P:a_)(w:bC)(K:PySem.W.Frag)(mg:Str->Option Value)(base:Heap)(k:Nat):List Str->List G->Prop
|x::xs,g::gs=>yF P w K mg base k x g/\r6 P w K mg base k xs gs
|_,_=>True
theorem r6.get:∀{xs:List Str}{gs:List G},r6 P w K mg base k xs gs->∀(i:Nat) x g,xs[i]?=some x->gs[i]?=some g->yF P w K mg base k x g
|[],_,_,i,x,g,h,_=>by simp at h
|_::_,[],_,i,x,g,_,h=>by simp at h
|x::xs,g::gs,a,0,y,g',h1,h2=>by
 simp at h1 h2;subst h1 h2;exact a.1
|x::xs,g::gs,a,i+1,y,g',h1,h2=>r6.get a.2 i y g' (by simpa using h1) (by simpa using h2)
variable{st:Stmt}
variable{gl bn:List Str}
section
variable{P:a_}{w:bC}{K:PySem.W.Frag}{mg:Str->Option Value}{base:Heap}
theorem mH.okE(F:mH K x qual st f fd)(S:iw N ps (bE st))(len:∀vs H Q E,sp vs H Q E->vs.length=ps.length)
  (hbody:∀(cdv:Value) (A:bU) (outer:List Env) (s:ah) (H:Hp) (vs:List V) (Q:VK) (E:XK),eW k (A.deeper (jv qual (bE st) s.heap.objs.size f cdv))->sp vs H Q E->
   ∃t,lR ((gT (je P w) P w K mg base N qual (bE st) f cdv A outer s H E).iL (qE (gT (je P w) P w K mg base N qual (bE st) f cdv A outer s H E) E)) (d_ st) t/\t { nx:=fun _ H'=>Q .non H',rt:=Q } (start N vs) H):eO P w K mg base (je P w) (k+1) f fd ps sp:=by
 obtain⟨oc,od,kV,doc,pm,an,cdv,ct,osl,rfl,lk,hcd⟩:=F.ex;refine LN lk hcd S len fun A outer s H vs Q E hr hsp=>?_;obtain⟨t,h,q⟩:=hbody cdv A outer s H vs Q E hr hsp;exact⟨t,O1 h,q⟩
theorem PL(c:dS)(F:mH K x qual st f fd)(S:iw N ps (bE st))(hc:kT ⟨N,bE st,gl,bn,(fun _=>true),true,false⟩ c (d_ st)=true)
  (hg:r6 P w K mg base k gl Y) (hb:∀x∈bn,mg x=none) (len:∀vs H Q E,sp vs H Q E->vs.length=ps.length)
  (h:∀vs H Q E,sp vs H Q E->wSs K Y E c { nx:=fun _ H'=>Q .non H',rt:=Q } (start N vs) H):eO P w K mg base (je P w) (k+1) f fd ps sp:=by
 refine mH.okE F S len fun cdv A outer s H vs Q E hr hsp=>⟨wSs K Y E c,?_,h vs H Q E hsp⟩;have ok:BG ((gT (je P w) P w K mg base N qual (bE st) f cdv A outer s H E).iL (qE (gT (je P w) P w K mg base N qual (bE st) f cdv A outer s H E) E)) ⟨N,bE st,gl,bn,(fun _=>true),true,false⟩ Y E:=by
  refine⟨⟨rfl,S.nd,rfl,S.kind,fun i x g hx hg'=>?_,hb,fun _ _=>rfl,fun _=>rfl,(fun z=>nomatch z),EE (X:=gT (je P w) P w K mg base N qual (bE st) f cdv A outer s H E) rfl rfl,by have:=hr.un;show(A.deeper (jv qual (bE st) s.heap.objs.size f cdv)).units+60<c_;omega⟩,fun _=>⟨_,rfl,rfl,rfl,hr.hd⟩⟩;have q:=hg.get i x g hx hg';cases g with
  |fn sp dvs=>
   obtain⟨f,fd,ps,ds,q1,q2,q3,q4,q5⟩:=q
   ·exact .inl ⟨k,f,fd,ps,ds,q1,hr,q2,q3,q4,q5,MV⟩
  |cls C fs n=>
   obtain⟨q1,j,q2,q3⟩:=q;exact⟨q1,j,hr.mono q2,q3⟩
  |fh sp=>
   obtain⟨f,fd,ps,q1,q2,q3,q4⟩:=q;exact⟨k,f,fd,ps,q1,⟨rfl,hr.dp,hr.un⟩,q2,q3,q4⟩
  |_=>exact q
 exact wx c _ ok hc
theorem Nr(c:dS)(F:mH K x qual st f fd)(S:iw N ps (bE st))(hc:kT ⟨N,bE st,gl,bn,(fun _=>true),false,true⟩ c (d_ st)=true)
  (hg:r6 P w K mg base k gl Y) (hb:∀x∈bn,mg x=none) (len:∀vs H Q,sp vs H Q E0->vs.length=ps.length)
  (h:∀vs H Q,sp vs H Q E0->wSs K (Y.map G.semi) E0 c { nx:=fun _ H'=>Q .non H',rt:=Q } (start N vs) H):lV P w K mg base (k+1) f fd ps sp:=by
 obtain⟨oc,od,kV,doc,pm,an,cdv,ct,osl,rfl,lk,hcd⟩:=F.ex;refine Ph lk hcd S len fun A outer s H vs Q e hr hs hsp=>⟨wSs K (Y.map G.semi) E0 c,?_,h vs H Q hsp⟩;have ok:BG ((gT nW P w K mg base N qual (bE st) f cdv (qA A) outer s H E0).hand (.ref e)) ⟨N,bE st,gl,bn,(fun _=>true),false,true⟩ (Y.map G.semi) E0:=by
  refine⟨⟨rfl,S.nd,rfl,S.kind,fun i x g hx hg'=>?_,hb,fun _ _=>rfl,(fun z=>nomatch z),fun _=>hs,mz,by have:=hr.un;show((qA A).deeper (jv qual (bE st) s.heap.objs.size f cdv)).units+60<c_;omega⟩,(fun z=>nomatch z)⟩;rw[aU]at hg';cases e':Y[i]? with
  |none=>rw[e']at hg';cases hg'
  |some g0=>
   rw[e']at hg';cases hg';have q:=hg.get i x g0 hx e';cases g0 with
   |fn sp dvs=>exact cu
   |cls C fs n=>exact cu
   |fh sp=>
    obtain⟨f,fd,ps,q1,q2,q3,q4⟩:=q;exact .inr ⟨rfl,rfl,rfl,e,k,f,fd,ps,sp,rfl,q1,⟨rfl,hr.dp,hr.un⟩,q2,q3,q4,.inl ⟨hs,rfl⟩⟩
   |_=>exact q
 exact wx c _ ok hc
theorem eO.calm(F:eO P w K mg base (je P w) k f fd ps sp):eO P w K mg base nW k f fd ps (fun vs H Q _=>sp vs H Q E0):=
 ⟨fun vs H Q E h=>F.len vs H Q E0 h,fun A outer s H args us vs Q E hr he hb hv hs=>jd (F.run A outer s H args us vs Q E0 hr he hb hv hs) fun r s' q=>by
  cases r with
  |error v=>exact(JK q).elim
  |ok fl=>cases fl<;>exact q⟩
end
end L3
end
section
namespace L3
open PySem L2
theorem len_str(x:Str):x.cps.toList.length=x.length:=by simp[gE]
mutual
def bM(K:PySem.W.Frag)(H F:Hp):D->V->List Addr->Prop
|.non,v,fp=>v=.non/\fp=[]
|.bl b,v,fp=>v=.bl b/\fp=[]
|.int i,v,fp=>v=.int i/\fp=[]
|.str x,v,fp=>(v=.str x/\x.length<=ai)/\fp=[]
|.lst o ds,v,fp=>if o=true then ∃a vs fs,v=.ref a/\H a=some (.lst vs)/\vs.length<=ai/\aX K H F ds vs fs/\fp=a::fs else aP K F (.lst o ds) v/\fp=[]
|.tup ds,v,fp=>∃a vs,v=.ref a/\F a=some (.tup vs)/\vs.length<=ai/\aX K H F ds vs fp
|.cst ds,v,fp=>aP K F (.cst ds) v/\fp=[]
|.exc C ks ds,v,fp=>aP K F (.exc C ks ds) v/\fp=[]
def aX(K:PySem.W.Frag)(H F:Hp):List D->List V->List Addr->Prop
|[],vs,fp=>vs=[]/\fp=[]
|d::ds,vs,fp=>∃v r f1 f2,vs=v::r/\fp=f1++f2/\bM K H F d v f1/\aX K H F ds r f2
end
variable{d:D}{v:V}{fp:List Addr}
section
variable{K:PySem.W.Frag}{H H' F F':Hp}
theorem dO.same'{a:Addr}{t:Bool}{xs:List V}(e:aS H H')(h:dO K H a t xs):dO K H' a t xs:=by
 rcases h with h|h
 ·refine .inl ?_;unfold tT at h ⊢;cases q:H a with
  |none=>rw[q]at h;cases h
  |some o=>rw[q]at h;rw[e a o q];exact h
 ·exact .inr h
theorem Rd.same{a:Addr}{u:HO}(e:aS H H')(h:Rd H a u):Rd H' a u:=by
 rcases h with h|⟨o,h⟩
 ·exact .inl (e _ _ h)
 ·exact .inr ⟨o,e _ _ h⟩
theorem Rd.seq{a:Addr}{xs:List V}(h:Rd H a (.lst xs)):dO K H a false xs:=by
 refine .inl ?_;unfold tT;rcases h with h|⟨o,h⟩<;>rw[h]
mutual
theorem aP.mono(e:aS H H'):∀(d:D) (v:V),aP K H d v->aP K H' d v
|.non,v,h=>h
|.bl b,v,h=>h
|.int i,v,h=>h
|.str x,v,h=>h
|.lst o ds,v,h=>by
 obtain⟨a,vs,h1,h2,h3,h4⟩:=h;exact⟨a,vs,h1,Rd.same e h2,h3,aF.mono e ds vs h4⟩
|.tup ds,v,h=>by
 obtain⟨a,vs,h1,h2,h3,h4⟩:=h;exact⟨a,vs,h1,e _ _ h2,h3,aF.mono e ds vs h4⟩
|.cst ds,v,h=>by
 obtain⟨a,vs,h1,h2,h3,h4⟩:=h;exact⟨a,vs,h1,h2,h3,aF.mono e ds vs h4⟩
|.exc C ks ds,v,h=>by
 obtain⟨a,d,vs,h1,h2,h3,h4⟩:=h;exact⟨a,d,vs,h1,e _ _ h2,e _ _ h3,aF.mono e ds vs h4⟩
theorem aF.mono(e:aS H H'):∀(ds:List D) (vs:List V),aF K H ds vs->aF K H' ds vs
|[],vs,h=>h
|d::ds,vs,h=>by
 obtain⟨v,r,h1,h2,h3⟩:=h;exact⟨v,r,h1,aP.mono e d v h2,aF.mono e ds r h3⟩
end
mutual
theorem aP.bG:∀(d:D) (v:V),aP K F (bG d) v↔aP K F d v
|.non,v=>ve
|.bl b,v=>ve
|.int i,v=>ve
|.str x,v=>ve
|.lst o ds,v=>by
 constructor
 ·rintro⟨a,vs,h1,h2,h3,h4⟩;exact⟨a,vs,h1,h2,h3,(aF.aB ds vs).mp h4⟩
 ·rintro⟨a,vs,h1,h2,h3,h4⟩;exact⟨a,vs,h1,h2,h3,(aF.aB ds vs).mpr h4⟩
|.tup ds,v=>by
 constructor
 ·rintro⟨a,vs,h1,h2,h3,h4⟩;exact⟨a,vs,h1,h2,h3,(aF.aB ds vs).mp h4⟩
 ·rintro⟨a,vs,h1,h2,h3,h4⟩;exact⟨a,vs,h1,h2,h3,(aF.aB ds vs).mpr h4⟩
|.cst ds,v=>by
 constructor
 ·rintro⟨a,vs,h1,h2,h3,h4⟩;exact⟨a,vs,h1,h2,h3,(aF.aB ds vs).mp h4⟩
 ·rintro⟨a,vs,h1,h2,h3,h4⟩;exact⟨a,vs,h1,h2,h3,(aF.aB ds vs).mpr h4⟩
|.exc C ks ds,v=>by
 constructor
 ·rintro⟨a,d,vs,h1,h2,h3,h4⟩;exact⟨a,d,vs,h1,h2,h3,(aF.aB ds vs).mp h4⟩
 ·rintro⟨a,d,vs,h1,h2,h3,h4⟩;exact⟨a,d,vs,h1,h2,h3,(aF.aB ds vs).mpr h4⟩
theorem aF.aB:∀(ds:List D) (vs:List V),aF K F (aB ds) vs↔aF K F ds vs
|[],vs=>ve
|d::ds,vs=>by
 constructor
 ·rintro⟨v,r,h1,h2,h3⟩;exact⟨v,r,h1,(aP.bG d v).mp h2,(aF.aB ds r).mp h3⟩
 ·rintro⟨v,r,h1,h2,h3⟩;exact⟨v,r,h1,(aP.bG d v).mpr h2,(aF.aB ds r).mpr h3⟩
end
mutual
theorem aP.vJ:∀(d:D) (v:V),aP K F d v->bM K H F (bG d) v []
|.non,v,h=>⟨h,rfl⟩
|.bl b,v,h=>⟨h,rfl⟩
|.int i,v,h=>⟨h,rfl⟩
|.str x,v,h=>⟨h,rfl⟩
|.lst o ds,v,h=>⟨(aP.bG (.lst o ds) v).mpr h,rfl⟩
|.tup ds,v,h=>by
 obtain⟨a,vs,h1,h2,h3,h4⟩:=h;exact⟨a,vs,h1,h2,h3,aF.vJ ds vs h4⟩
|.cst ds,v,h=>⟨(aP.bG (.cst ds) v).mpr h,rfl⟩
|.exc C ks ds,v,h=>⟨(aP.bG (.exc C ks ds) v).mpr h,rfl⟩
theorem aF.vJ:∀(ds:List D) (vs:List V),aF K F ds vs->aX K H F (aB ds) vs []
|[],vs,h=>⟨h,rfl⟩
|d::ds,vs,h=>by
 obtain⟨v,r,h1,h2,h3⟩:=h;exact⟨v,r,[],[],h1,rfl,aP.vJ d v h2,aF.vJ ds r h3⟩
end
mutual
theorem bM.mono(e:aS F F'):∀(d:D) (v:V) (fp:List Addr),(∀a∈fp,H' a=H a)->bM K H F d v fp->bM K H' F' d v fp
|.non,v,fp,_,h=>h
|.bl b,v,fp,_,h=>h
|.int i,v,fp,_,h=>h
|.str x,v,fp,_,h=>h
|.lst o ds,v,fp,s,h=>by
 unfold bM at h ⊢;split at h
 ·rename_i ho;rw[if_pos ho];obtain⟨a,vs,fs,h1,h2,h3,h4,rfl⟩:=h;exact⟨a,vs,fs,h1,by rw[s a aG];exact h2,h3,aX.mono e ds vs fs (fun b hb=>s b (ao _ hb)) h4,rfl⟩
 ·rename_i ho;rw[if_neg ho];exact⟨aP.mono e _ v h.1,h.2⟩
|.tup ds,v,fp,s,h=>by
 obtain⟨a,vs,h1,h2,h3,h4⟩:=h;exact⟨a,vs,h1,e _ _ h2,h3,aX.mono e ds vs fp s h4⟩
|.cst ds,v,fp,s,h=>⟨aP.mono e _ v h.1,h.2⟩
|.exc C ks ds,v,fp,s,h=>⟨aP.mono e _ v h.1,h.2⟩
theorem aX.mono(e:aS F F'):∀(ds:List D) (vs:List V) (fp:List Addr),(∀a∈fp,H' a=H a)->aX K H F ds vs fp->aX K H' F' ds vs fp
|[],vs,fp,_,h=>h
|d::ds,vs,fp,s,h=>by
 obtain⟨v,r,f1,f2,h1,rfl,h3,h4⟩:=h;exact⟨v,r,f1,f2,h1,rfl,bM.mono e d v f1 (fun b hb=>s b (aM _ hb)) h3,aX.mono e ds r f2 (fun b hb=>s b (aA _ hb)) h4⟩
end
mutual
theorem bM.fix(e:aS F F'):∀(d:D) (v:V) (fp:List Addr),(∀a∈fp,F' a=H a)->bM K H F d v fp->aP K F' d v
|.non,v,fp,_,h=>h.1
|.bl b,v,fp,_,h=>h.1
|.int i,v,fp,_,h=>h.1
|.str x,v,fp,_,h=>h.1
|.lst o ds,v,fp,s,h=>by
 unfold bM at h;split at h
 ·obtain⟨a,vs,fs,h1,h2,h3,h4,rfl⟩:=h;exact⟨a,vs,h1,.inl (by rw[s a aG];exact h2),h3,aX.fix e ds vs fs (fun b hb=>s b (ao _ hb)) h4⟩
 ·exact aP.mono e _ v h.1
|.tup ds,v,fp,s,h=>by
 obtain⟨a,vs,h1,h2,h3,h4⟩:=h;exact⟨a,vs,h1,e _ _ h2,h3,aX.fix e ds vs fp s h4⟩
|.cst ds,v,fp,s,h=>aP.mono e _ v h.1
|.exc C ks ds,v,fp,s,h=>aP.mono e _ v h.1
theorem aX.fix(e:aS F F'):∀(ds:List D) (vs:List V) (fp:List Addr),(∀a∈fp,F' a=H a)->aX K H F ds vs fp->aF K F' ds vs
|[],vs,fp,_,h=>h.1
|d::ds,vs,fp,s,h=>by
 obtain⟨v,r,f1,f2,h1,rfl,h3,h4⟩:=h;exact⟨v,r,h1,bM.fix e d v f1 (fun b hb=>s b (aM _ hb)) h3,aX.fix e ds r f2 (fun b hb=>s b (aA _ hb)) h4⟩
end
def BH:HO->Prop
|.lst _=>True
|.dK _=>True
|.dT _=>True
|.ins _ _ _=>True
|.own _=>True
|_=>False
def wy(F' F:Hp):Prop:=∀b o,F' b=some o->F b=some o\/BH o
theorem wy.tup{a:Addr}{xs:List V}(e:wy F' F)(h:F' a=some (.tup xs)):F a=some (.tup xs):=by
 rcases e a _ h with z|z
 ·exact z
 ·exact z.elim
mutual
theorem bM.less(e:wy F' F):∀(d:D) (v:V) (fp:List Addr),a9 d=true->bM K H F' d v fp->bM K H F d v fp
|.non,v,fp,_,h=>h
|.bl b,v,fp,_,h=>h
|.int i,v,fp,_,h=>h
|.str x,v,fp,_,h=>h
|.lst o ds,v,fp,s,h=>by
 have s':o=true/\dw ds=true:=by simpa[a9]using s
 unfold bM at h ⊢;rw[if_pos s'.1]at h ⊢;obtain⟨a,vs,fs,h1,h2,h3,h4,rfl⟩:=h;exact⟨a,vs,fs,h1,h2,h3,aX.less e ds vs fs s'.2 h4,rfl⟩
|.tup ds,v,fp,s,h=>by
 obtain⟨a,vs,h1,h2,h3,h4⟩:=h;exact⟨a,vs,h1,e.tup h2,h3,aX.less e ds vs fp s h4⟩
|.cst ds,v,fp,s,h=>by cases s
|.exc C ks ds,v,fp,s,h=>by cases s
theorem aX.less(e:wy F' F):∀(ds:List D) (vs:List V) (fp:List Addr),dw ds=true->aX K H F' ds vs fp->aX K H F ds vs fp
|[],vs,fp,_,h=>h
|d::ds,vs,fp,s,h=>by
 have s':a9 d=true/\dw ds=true:=by simpa[dw]using s
 obtain⟨v,r,f1,f2,h1,rfl,h3,h4⟩:=h;exact⟨v,r,f1,f2,h1,rfl,bM.less e d v f1 s'.1 h3,aX.less e ds r f2 s'.2 h4⟩
end
theorem aF.len:∀{ds:List D}{vs:List V},aF K H ds vs->vs.length=ds.length
|[],_,h=>by cases h;rfl
|d::ds,_,h=>by
 obtain⟨v,r,rfl,_,h3⟩:=h;simp[aF.len h3]
theorem aX.len:∀{ds:List D}{vs:List V}{fp:List Addr},aX K H F ds vs fp->vs.length=ds.length
|[],_,_,h=>by cases h.1;rfl
|d::ds,_,_,h=>by
 obtain⟨v,r,_,_,rfl,_,_,h3⟩:=h;simp[aX.len h3]
theorem aF.get:∀{ds:List D}{vs:List V} (i:Nat) {d:D},aF K H ds vs->ds[i]?=some d->∃v,vs[i]?=some v/\aP K H d v
|[],_,i,_,_,e=>by simp at e
|d::ds,_,0,_,h,e=>by
 obtain⟨v,r,rfl,h2,_⟩:=h;simp at e;subst e;exact⟨v,rfl,h2⟩
|d::ds,_,i+1,_,h,e=>by
 obtain⟨v,r,rfl,_,h3⟩:=h;obtain⟨w,e1,e2⟩:=aF.get i h3 (by simpa using e);exact⟨w,by simpa using e1,e2⟩
theorem aF.app:∀{ds ds':List D}{vs vs':List V},aF K H ds vs->aF K H ds' vs'->aF K H (ds++ds') (vs++vs')
|[],_,_,_,h,h'=>by cases h;exact h'
|d::ds,_,_,_,h,h'=>by
 obtain⟨v,r,rfl,h2,h3⟩:=h;exact⟨v,_,rfl,h2,aF.app h3 h'⟩
theorem aX.app:∀{ds ds':List D}{vs vs':List V}{f f':List Addr},aX K H F ds vs f->aX K H F ds' vs' f'->aX K H F (ds++ds') (vs++vs') (f++f')
|[],_,_,_,_,_,h,h'=>by obtain⟨rfl,rfl⟩:=h;exact h'
|d::ds,_,_,_,_,_,h,h'=>by
 obtain⟨v,r,f1,f2,rfl,rfl,h2,h3⟩:=h;exact⟨v,_,f1,_,rfl,by simp,h2,aX.app h3 h'⟩
theorem aX.one(h:bM K H F d v fp):aX K H F [d] [v] fp:=⟨v,[],fp,[],rfl,by simp,h,rfl,rfl⟩
end
inductive R (α:Type) where
|ok (a:α)|ex (x:D)|bad
noncomputable def R.bind{α β:Type}:R α->(α->R β)->R β
|.ok a,f=>f a
|.ex x,_=>.ex x
|.bad,_=>.bad
noncomputable def R.opt{α:Type}:Option α->R α
|some a=>.ok a
|none=>.bad
noncomputable def R.d8{α:Type}:R α->R α
|.ok a=>.ok a
|_=>.bad
noncomputable def R.bH{α:Type}(b:Bool)(r:R α):R α:=match b with
|true=>r
|false=>.bad
instance (i j:Int):Decidable (qz i j):=by unfold qz;infer_instance
instance (i j:Int):Decidable (tH i j):=by unfold tH;infer_instance
instance (i j:Int):Decidable (A2 i j):=by unfold A2;infer_instance
noncomputable def JY:D->Option Key
|.int i=>some (.inl i)
|.str x=>some (.inr x)
|_=>none
noncomputable def xJ:List D->Option (List Key)
|[]=>some []
|d::r=>(JY d).bind fun k=>(xJ r).map (k::·)
noncomputable def nH:D->Option (List Key)
|.tup xs=>xJ xs
|_=>none
noncomputable def SK{κ:Type}[DecidableEq κ]:List κ->List D->κ->Option D
|k::ks,d::ds,q=>if k=q then some d else SK ks ds q
|_,_,_=>none
noncomputable def BI(z:Str)(n:Nat):Str:=⟨(aW n z.cps.toList).flatten.toArray⟩
noncomputable def jR:D->Bool
|.non=>true
|_=>false
noncomputable def r9:D->Bool
|.bl _=>true
|_=>false
noncomputable def uZ:D->Bool
|.bl true=>true
|_=>false
noncomputable def qX:D->Bool
|.int _=>true
|_=>false
noncomputable def intD:D->Int
|.int i=>i
|_=>0
noncomputable def xK:List D->Option (List Str)
|[]=>some []
|.str x::r=>(xK r).map (x::·)
|_::_=>none
noncomputable def PM(m:Mt)(xs:List D)(k:Bool):R D:=match m with
|_=>.bad
noncomputable def pe(op:lF)(x y:D):R D:=match x,y with
|.int i,.int j=>match op with
 |.Add=>.ok (.int (i+j))
 |.Sub=>.ok (.int (i-j))
 |.Mult=>.bH (decide (qz i j)) (.ok (.int (i*j)))
 |.FloorDiv=>.bH (decide (tH i j)) (.ok (.int (i / j)))
 |.Mod=>.bH (decide (0<j)) (.ok (.int (i%j)))
 |.RShift=>.bH (decide (0<=j)) (.ok (.int (i / 2 ^ j.toNat)))
 |.Pow=>.bH (decide (A2 i j)) (.ok (.int (i ^ j.toNat)))
 |_=>.bad
|.str i,.str j=>match op with
 |.Add=>.bH (decide (i.length+j.length<=ai)) (.ok (.str (i++j)))
 |_=>.bad
|.str i,.int j=>match op with
 |.Mult=>.bH (decide (0<=j/\j<2 ^ 40/\i.length*j.toNat<=ai)) (.ok (.str (BI i j.toNat)))
 |_=>.bad
|.lst _ xs,.lst _ ys=>match op with
 |.Add=>.bH (decide (xs.length+ys.length<=ai)) (.ok (.lst true (aB xs++aB ys)))
 |_=>.bad
|.tup xs,.tup ys=>match op with
 |.Add=>.bH (!xs.isEmpty&&!ys.isEmpty&&decide (xs.length+ys.length<=ai)) (.ok (.tup (aB xs++aB ys)))
 |_=>.bad
|.lst _ xs,.int k=>match op with
 |.Mult=>.bH (decide ((-(2 ^ 63)<=k/\k<2 ^ 63)/\xs.length*k.toNat<=ai)) (.ok (.lst true (aW k.toNat (aB xs)).flatten))
 |_=>.bad
|_,_=>.bad
noncomputable def PN(op:qo)(x y:D):R D:=match x,y with
|.int i,.int j=>match op with
 |.Lt=>.ok (.bl (decide (i<j)))
 |.LtE=>.ok (.bl (decide (i<=j)))
 |.Gt=>.ok (.bl (decide (j<i)))
 |.GtE=>.ok (.bl (decide (j<=i)))
 |_=>.bad
|.str i,.str j=>match op with
 |.Lt=>.ok (.bl (decide (i.cps.toList<j.cps.toList)))
 |.LtE=>.ok (.bl (!decide (j.cps.toList<i.cps.toList)))
 |_=>.bad
|_,_=>.bad
noncomputable def inD(x y:D):R Bool:=match y with
|.lst _ ys=>.bH (di x&&iE ys) (.ok (memD x ys))
|.tup ys=>.bH (di x&&iE ys) (.ok (memD x ys))
|.cst ys=>.bH (di x&&iE ys) (.ok (memD x ys))
|_=>.bad
noncomputable def eZ(op:qo)(x y:D):R D:=match op with
|.Eq=>.bH (di x&&di y) (.ok (.bl (iD x y)))
|.NotEq=>.bH (di x&&di y) (.ok (.bl (!iD x y)))
|.Is=>.bH (jR y) (.ok (.bl (jR x)))
|.IsNot=>.bH (jR y) (.ok (.bl (!jR x)))
|.In=>(inD x y).bind fun b=>.ok (.bl b)
|.NotIn=>(inD x y).bind fun b=>.ok (.bl (!b))
|op=>PN op x y
noncomputable def iN:D->R Bool
|.bl b=>.ok b
|.non=>.ok false
|.int i=>.ok (i != 0)
|.str z=>.ok (z.length != 0)
|.lst _ xs=>.ok (!xs.isEmpty)
|.tup xs=>.ok (!xs.isEmpty)
|.cst _=>.bad
|.exc _ _ _=>.bad
noncomputable def vK(x y:D):R D:=match x with
|.str z=>match y with
 |.int i=>(R.opt (gU z.cps.toList i)).bind fun c=>.ok (.str ⟨#[c]⟩)
 |_=>.bad
|.lst _ xs=>match y with
 |.int i=>(R.opt (gU xs i)).bind fun d=>.ok (bG d)
 |_=>.bad
|.tup xs=>match y with
 |.int i=>(R.opt (gU xs i)).bind fun d=>.ok (bG d)
 |_=>.bad
|_=>.bad
noncomputable def xM(x:D)(lo hi:Option Int):R D:=match x with
|.str z=>.ok (.str ⟨(cut z.cps.toList lo hi).toArray⟩)
|.lst _ xs=>.ok (.lst true (aB (cut xs lo hi)))
|.tup xs=>match lo,hi with
 |some n,none=>.bH (decide (1<=n/\n<=xs.length)) (.ok (.tup (aB (xs.drop n.toNat))))
 |_,_=>.bad
|_=>.bad
noncomputable def r_:List D->Option (List (List Key))
|[]=>some []
|d::r=>(nH d).bind fun k=>(r_ r).map (k::·)
noncomputable def qa:List D->Option (List Int)
|[]=>some []
|.int x::r=>(qa r).map (x::·)
|_::_=>none
noncomputable def sd(xs:List D):Option (List (List Key)):=match xK xs with
|some ss=>some (ss.map fun x=>[.inr x])
|none=>match qa xs with
 |some ns=>some (ns.map fun x=>[.inl x])
 |none=>r_ xs
noncomputable def se(kss:List (List Key))(xs:List D):List D:=(nI kss).map fun i=>(aB xs).getD i .non
noncomputable def iO(f:Bf)(vs:List D):R D:=match vs with
|[x]=>match f with
 |.len=>match x with
  |.str z=>.ok (.int z.length)
  |.lst _ xs=>.ok (.int xs.length)
  |.tup xs=>.ok (.int xs.length)
  |_=>.bad
 |.all=>match x with
  |.lst _ xs=>.bH (xs.all r9) (.ok (.bl (xs.all uZ)))
  |_=>.bad
 |.int=>match x with
  |.int i=>.ok (.int i)
  |.bl b=>.ok (.int (if b then 1 else 0))
  |.str z=>.bH (decide (z.length<=640)) ((R.opt (intText? z)).bind fun n=>.ok (.int n))
  |_=>.bad
 |.str=>match x with
  |.int i=>.bH (decide (i.natAbs.log2<1920)&&decide ((yt i).length<=ai)) (.ok (.str (yt i)))
  |_=>.bad
 |.sum=>match x with
  |.lst _ xs=>.bH (xs.all qX) (.ok (.int (xs.map intD).sum))
  |_=>.bad
 |.sorted=>match x with
  |.lst _ xs=>(R.opt (sd xs)).bind fun kss=>.bH (sortable kss) (.ok (.lst true (se kss xs)))
  |_=>.bad
 |_=>.bad
|[x,y]=>match x,y with
 |.int i,.int j=>match f with
  |.max=>.ok (.int (if j>i then j else i))
  |_=>.bad
 |_,_=>.bad
|_=>.bad
noncomputable def lX(t:Ty):D->Bool
|.non=>false
|.bl _=>decide (t=.bool)||decide (t=.int)
|.int _=>decide (t=.int)
|.str _=>decide (t=.str)
|.lst _ _=>decide (t=.list)||decide (t=.none)
|.tup _=>decide (t=.tuple)||decide (t=.none)
|.cst _=>decide (t=.tuple)||decide (t=.none)
|.exc _ _ _=>false
noncomputable def i_:D->Bool
|.exc _ _ _=>false
|_=>true
noncomputable def tZ(m:Mt)(x:D)(vs:List D):R D:=.bad
noncomputable abbrev bA:=List (Option D)
inductive PG where
|val (d:D)
|fn (m:List D->R D) (dds:List D)
|cls (C:Addr) (fs:List (Str×Nat)) (n:Nat)
|gy (D:Addr) (Cs:List Addr)
|mJ (Cs:List Addr) (as:List Str)
|exb (Cs:List Addr)
|fh (m:List D->R D)
|fe (m:List D->R D)
|nop
inductive Fl where
|nx (O:bA)|rt (d:D)|bk (O:bA)|ct (O:bA)|ex (x:D)|bad
noncomputable def R.aY{α:Type}:R α->(α->Fl)->Fl
|.ok a,f=>f a
|.ex x,_=>.ex x
|.bad,_=>.bad
noncomputable def R.mX{α:Type}(b:Bool):R α->(α->Fl)->Fl
|.ok a,f=>f a
|.ex x,_=>match b with
 |true=>.ex x
 |false=>.bad
|.bad,_=>.bad
noncomputable def PG.hand:PG->PG
|.fn _ _=>.nop
|.cls _ _ _=>.nop
|.fh m=>.fe m
|.fe _=>.nop
|p=>p
noncomputable def PG.semi:PG->PG
|.fn _ _=>.nop
|.cls _ _ _=>.nop
|.fh m=>.fn m []
|.fe _=>.nop
|p=>p
noncomputable def t6:V->R D
|.non=>.ok .non
|.bl b=>.ok (.bl b)
|.int i=>.ok (.int i)
|.str x=>.ok (.str x)
|_=>.bad
noncomputable def xN(z:Str):List D:=z.cps.toList.map fun c=>D.str ⟨#[c]⟩
noncomputable def jS(lo:Int)(n:Nat):List D:=(bq n).map fun(i:Nat)=>D.int (lo+(i:Int))
noncomputable def mY:List D->List D->List D
|x::xs,y::ys=>.tup [x,y]::mY xs ys
|_,_=>[]
noncomputable def qe:List D->R (Bool×List D)
|[.lst _ xs,.lst _ ys]=>.ok (false,mY (aB xs) (aB ys))
|[.tup xs,.tup ys]=>.ok (false,mY (aB xs) (aB ys))
|_=>.bad
noncomputable def jI:Nat->List D->List D
|_,[]=>[]
|n,x::r=>.tup [.int (n:Int),x]::jI (n+1) r
noncomputable def qI:D->R (List D)
|.str z=>.ok (xN z)
|.lst _ xs=>.ok (aB xs)
|.tup xs=>.ok (aB xs)
|_=>.bad
noncomputable def lB:List D->R (List D)
|[.int j]=>.bH (decide (-(2 ^ 62)<=j/\j.toNat<=ai)) (.ok (jS 0 j.toNat))
|[.int i,.int j]=>.bH (decide (-(2 ^ 62)<=i/\i<2 ^ 62/\-(2 ^ 62)<=j/\j<2 ^ 62/\(j-i).toNat<=ai)) (.ok (jS i (j-i).toNat))
|_=>.bad
noncomputable def fG(g:D->bA->R bA)(c:bA->R Bool)(e:bA->R D):List D->bA->R (List D)
|[],_=>.ok []
|d::r,O=>(g d O).bind fun TH=>(c TH).bind fun b=>if b=true then(e TH).bind fun y=>(fG g c e r TH).bind fun ys=>.ok (y::ys)else fG g c e r TH
noncomputable def forR(g:D->bA->R bA)(b:bA->Fl):List D->bA->Fl
|[],O=>.nx O
|d::r,O=>(g d O).aY fun TH=>match b TH with
 |.nx TQ=>forR g b r TQ
 |.ct TQ=>forR g b r TQ
 |.bk TQ=>.nx TQ
 |.rt d=>.rt d
 |.ex x=>.ex x
 |.bad=>.bad
noncomputable def yG(Y:List PG):List Nat->Option Addr->Option Bool
|[],_=>some false
|g::r,c=>match Y[g]? with
 |some (.gy D Cs)=>match c with
  |none=>yG Y r c
  |some C=>if C∈Cs then(if C=D then some true else yG Y r c)else none
 |_=>none
noncomputable def JZ(Y:List PG)(gs:List Nat):Bool:=gs.all fun g=>match Y[g]? with
|some (.gy _ _)=>true
|_=>false
noncomputable def t7(Y:List PG)(gs:List Nat)(x:D):R Bool:=.bH (!gs.isEmpty&&decide (gs.length<=1000)&&JZ Y gs) (match x with
|.non=>R.opt (yG Y gs none)
|.exc C _ _=>R.opt (yG Y gs (some C))
|_=>.bad)
noncomputable def t8(Y:List PG)(g:Nat)(x:D):R Bool:=match Y[g]? with
|some (.mJ Cs _)=>match x with
 |.non=>.ok false
 |.exc C _ _=>.bH (decide (C∈Cs)) (.ok true)
 |_=>.bad
|_=>.bad
noncomputable def EY:List Str->List D->Str->Option D
|k::ks,d::ds,f=>if f=k then some d else EY ks ds f
|_,_,_=>none
noncomputable def yH(Y:List PG)(g:Nat)(f:Str)(x:D):R D:=match Y[g]? with
|some (.mJ Cs as)=>match x with
 |.exc C ks xs=>.bH (decide (C∈Cs)&&decide (f∈as)) ((R.opt (EY ks xs f)).bind fun d=>.ok (bG d))
 |_=>.bad
|_=>.bad
noncomputable def yI:D->Option Str
|.str x=>some x
|.int i=>if i.natAbs.log2<1920 then some (yt i)else none
|_=>none
noncomputable def GP(O:bA):List (Str×Nat)->Str->Option Str
|[],a=>some a
|p::r,a=>match O[p.2]? with
 |some (some d)=>(yI d).bind fun y=>GP O r (a++p.1++y)
 |_=>none
mutual
noncomputable def pE(Y:List PG):CE->bA->R D
|.var i=>fun O=>match O[i]? with
 |some (some d)=>.ok (bG d)
 |_=>.bad
|.con v=>fun _=>t6 v
|.glo g=>fun _=>match Y[g]? with
 |some (.val d)=>.ok (bG d)
 |_=>.bad
|.bin op a b=>fun O=>(pE Y a O).bind fun x=>(pE Y b O).bind fun y=>pe op x y
|.neg a=>fun O=>(pE Y a O).bind fun x=>match x with
 |.int i=>.ok (.int (-i))
 |_=>.bad
|.not a=>fun O=>(pE Y a O).bind fun x=>(iN x).bind fun b=>.ok (.bl (!b))
|.and a b=>fun O=>(pE Y a O).bind fun x=>match x with
 |.bl c=>if c=true then pE Y b O else .ok (.bl false)
 |_=>.bad
|.or a b=>fun O=>(pE Y a O).bind fun x=>match x with
 |.bl c=>if c=true then .ok (.bl true)else pE Y b O
 |_=>.bad
|.ite c a b=>fun O=>(pT Y c O).bind fun k=>if k=true then pE Y a O else pE Y b O
|.cmp op a b=>fun O=>(pE Y a O).bind fun x=>(pE Y b O).bind fun y=>eZ op x y
|.chain o1 o2 a b c=>fun O=>(pE Y a O).bind fun x=>(pE Y b O).bind fun y=>(eZ o1 x y).bind fun z=>match z with
 |.bl k=>if k=true then(pE Y c O).bind fun u=>eZ o2 y u else .ok (.bl false)
 |_=>.bad
|.call g as=>fun O=>match Y[g]? with
 |some (.fn m dds)=>(dz Y as O).bind fun ds=>m (aB ds++dds)
 |_=>.bad
|.blt f as=>fun O=>(dz Y as O).bind fun ds=>iO f ds
|.isi a t=>fun O=>(pE Y a O).bind fun x=>.bH (i_ x) (.ok (.bl (lX t x)))
|.mth m o as=>fun O=>(pE Y o O).bind fun x=>(dz Y as O).d8.bind fun ds=>tZ m x ds
|.ix a b=>fun O=>(pE Y a O).bind fun x=>(pE Y b O).bind fun y=>vK x y
|.sl a lo hi=>fun O=>(pE Y a O).bind fun x=>(pO Y lo O).bind fun l=>(pO Y hi O).bind fun h=>xM x l h
|.lst as=>fun O=>(dz Y as O).bind fun ds=>.bH (decide (ds.length<=ai)) (.ok (.lst true ds))
|.tup as=>fun O=>(dz Y as O).bind fun ds=>.bH (decide (ds.length<=ai)) (.ok (.tup ds))
|.comp nl fr elt tg src cond=>fun O=>(pI Y src O).bind fun items=>(fG (pG tg) (pC Y cond) (pE Y elt) items.2 (nl.map (fun _=>none)++fr.map (fun i=>O.getD i none))).d8.bind fun ds=>.ok (.lst true ds)
|.isx _ gs a=>fun O=>(pE Y a O).bind fun x=>(t7 Y gs x).bind fun b=>.ok (.bl b)
|.isv g a=>fun O=>(pE Y a O).bind fun x=>(t8 Y g x).bind fun b=>.ok (.bl b)
|.att g a f=>fun O=>(pE Y a O).bind fun x=>yH Y g f x
noncomputable def pT(Y:List PG):CE->bA->R Bool
|.not a=>fun O=>(pT Y a O).bind fun b=>.ok (!b)
|.and a b=>fun O=>(pT Y a O).bind fun c=>if c=true then pT Y b O else .ok false
|.or a b=>fun O=>(pT Y a O).bind fun c=>if c=true then .ok true else pT Y b O
|.ite c a b=>fun O=>(pT Y c O).bind fun k=>if k=true then pT Y a O else pT Y b O
|.cmp op a b=>fun O=>(pE Y a O).bind fun x=>(pE Y b O).bind fun y=>(eZ op x y).bind fun z=>match z with
 |.bl k=>.ok k
 |_=>.bad
|.chain o1 o2 a b c=>fun O=>(pE Y a O).bind fun x=>(pE Y b O).bind fun y=>(eZ o1 x y).bind fun z=>match z with
 |.bl k=>if k=true then(pE Y c O).bind fun u=>(eZ o2 y u).bind fun z=>match z with
  |.bl k=>.ok k
  |_=>.bad
  else .ok false
 |_=>.bad
|.var i=>fun O=>match O[i]? with
 |some (some d)=>iN d
 |_=>.bad
|.ix a b=>fun O=>((pE Y a O).bind fun x=>(pE Y b O).bind fun y=>vK x y).bind iN
|.call g as=>fun O=>match Y[g]? with
 |some (.fn m dds)=>((dz Y as O).bind fun ds=>m (aB ds++dds)).bind iN
 |_=>.bad
|.blt f as=>fun O=>((dz Y as O).bind fun ds=>iO f ds).bind iN
|.isi a t=>fun O=>(pE Y a O).bind fun x=>.bH (i_ x) (.ok (lX t x))
|.mth m o as=>fun O=>(pE Y o O).bind fun x=>(dz Y as O).d8.bind fun ds=>(tZ m x ds).bind iN
|.isx _ gs a=>fun O=>(pE Y a O).bind fun x=>t7 Y gs x
|.isv g a=>fun O=>(pE Y a O).bind fun x=>t8 Y g x
|_=>fun _=>.bad
noncomputable def dz(Y:List PG):i0->bA->R (List D)
|.nil=>fun _=>.ok []
|.cons a r=>fun O=>(pE Y a O).bind fun x=>(dz Y r O).bind fun xs=>.ok (x::xs)
noncomputable def pO(Y:List PG):CO->bA->R (Option Int)
|.none=>fun _=>.ok none
|.some a=>fun O=>(pE Y a O).bind fun x=>match x with
 |.int i=>.ok (some i)
 |_=>.bad
noncomputable def pC(Y:List PG):CO->bA->R Bool
|.none=>fun _=>.ok true
|.some a=>pT Y a
noncomputable def pG:CG->D->bA->R bA
|.name i=>fun d O=>.ok (O.set i (some d))
|.tup gs=>fun d O=>match d with
 |.tup ds=>.bH (decide (ds.length=gs.len)) (sO gs ds O)
 |_=>.bad
|.sub _ _=>fun _ _=>.bad
noncomputable def sO:ny->List D->bA->R bA
|.nil=>fun ds O=>match ds with
 |[]=>.ok O
 |_=>.bad
|.cons g r=>fun ds O=>match ds with
 |d::dr=>(pG g d O).bind fun TF=>sO r dr TF
 |_=>.bad
noncomputable def pI(Y:List PG):CI->bA->R (Bool×List D)
|.seq a=>fun O=>(pE Y a O).bind fun x=>(qI x).bind fun ds=>.ok (a9 x,ds)
|.range as=>fun O=>(dz Y as O).bind fun xs=>(lB xs).bind fun ds=>.ok (true,ds)
|.zip as=>fun O=>(dz Y as O).bind fun xs=>qe xs
|.enum a=>fun O=>(pE Y a O).bind fun x=>match x with
 |.lst _ xs=>.ok (a9 x,jI 0 (aB xs))
 |_=>.bad
end
mutual
noncomputable def cT:CE->Bool
|.con v=>match v with
 |.str x=>decide (x.length<=ai)
 |_=>true
|.bin _ a b=>cT a&&cT b
|.neg a=>cT a
|.not a=>cT a
|.and a b=>cT a&&cT b
|.or a b=>cT a&&cT b
|.ite c a b=>cT c&&(cT a&&cT b)
|.cmp _ a b=>cT a&&cT b
|.chain _ _ a b c=>cT a&&(cT b&&cT c)
|.call _ as=>iP as
|.blt _ as=>iP as
|.isi a _=>cT a
|.mth _ o as=>cT o&&iP as
|.ix a b=>cT a&&cT b
|.sl a lo hi=>cT a&&(GQ lo&&GQ hi)
|.lst as=>iP as
|.tup as=>iP as
|.comp _ _ elt _ src cond=>cT elt&&(ltI src&&GQ cond)
|.isx _ _ a=>cT a
|.isv _ a=>cT a
|.att _ a _=>cT a
|_=>true
noncomputable def iP:i0->Bool
|.nil=>true
|.cons a r=>cT a&&iP r
noncomputable def GQ:CO->Bool
|.none=>true
|.some a=>cT a
noncomputable def ltI:CI->Bool
|.seq a=>cT a
|.range as=>iP as
|.zip as=>iP as
|.enum a=>cT a
end
noncomputable def qC:Bf->i0->Bool
|.len,.cons (.var _) .nil=>true
|_,_=>false
mutual
noncomputable def cA:CE->List Nat
|.var i=>[i]
|.con _=>[]
|.glo _=>[]
|.bin _ a b=>cA a++cA b
|.neg a=>cA a
|.not a=>cA a
|.and a b=>cA a++cA b
|.or a b=>cA a++cA b
|.ite c a b=>cA c++(cA a++cA b)
|.cmp _ a b=>cA a++cA b
|.chain _ _ a b c=>cA a++(cA b++cA c)
|.call _ as=>ja as
|.blt f as=>if qC f as=true then[]else ja as
|.isi a _=>cA a
|.mth _ o as=>cA o++ja as
|.ix a b=>cA a++cA b
|.sl a lo hi=>cA a++(GS lo++GS hi)
|.lst as=>ja as
|.tup as=>ja as
|.comp _ fr _ _ src _=>qY src++fr
|.isx _ _ a=>cA a
|.isv _ a=>cA a
|.att _ a _=>cA a
noncomputable def ja:i0->List Nat
|.nil=>[]
|.cons a r=>cA a++ja r
noncomputable def GS:CO->List Nat
|.none=>[]
|.some a=>cA a
noncomputable def qY:CI->List Nat
|.seq a=>cA a
|.range as=>ja as
|.zip as=>ja as
|.enum a=>cA a
end
def NT:Option HO->Prop
|none=>True
|some (.tup _)=>True
|_=>False
theorem NT.of{o:Option HO}(h:o=none):NT o:=by rw[h];trivial
theorem NT.own{o:Option HO}{u:HO}(h:NT o)(e:o=some u)(k:BH u):False:=by
 subst e;cases u<;>first|exact h.elim|exact k.elim
structure bD (F H F' H':Hp):Prop where
 h:aS H H'
 f:aS F F'
 s:aS F' H'
 n:∀b o,F' b=some o->F b=none->NT (H b)
structure fH (fp:List Addr) (H F':Hp):Prop where
 nd:fp.Nodup
 nh:∀a∈fp,H a=none
 nf:∀a∈fp,F' a=none
variable{ds:List D}{vs:List V}
variable{f1 f2:List Addr}
variable{p:Addr}
section
variable{K:PySem.W.Frag}{H H1 H2 F F1 F2:Hp}
theorem bD.refl(s:aS F H):bD F H F H:=⟨aS.refl _,aS.refl _,s,fun b o h h'=>by rw[h]at h';cases h'⟩
theorem aS.none(e:aS H H1){a:Addr}(h:H1 a=none):H a=none:=by
 cases q:H a with
 |none=>rfl
 |some o=>rw[e a o q]at h;cases h
theorem NT.back(e:aS H H1){a:Addr}(h:NT (H1 a)):NT (H a):=by
 cases q:H a with
 |none=>trivial
 |some o=>rw[e a o q]at h;exact h
theorem bD.trans(g:bD F H F1 H1)(g':bD F1 H1 F2 H2):bD F H F2 H2:=⟨g.h.trans g'.h,g.f.trans g'.f,g'.s,fun b o h h'=>by
 cases q:F1 b with
 |none=>exact NT.back g.h (g'.n b o h q)
 |some u=>exact g.n b u q h'⟩
theorem fH.nil:fH [] H F:=⟨fk,fun _ h=>absurd h aJ,fun _ h=>absurd h aJ⟩
mutual
theorem bM.ex:∀(d:D) (v:V) (fp:List Addr),bM K H F d v fp->∀a∈fp,∃o,H a=some o/\BH o
|.non,v,fp,h=>by rw[h.2];intro a ha;cases ha
|.bl b,v,fp,h=>by rw[h.2];intro a ha;cases ha
|.int i,v,fp,h=>by rw[h.2];intro a ha;cases ha
|.str x,v,fp,h=>by rw[h.2];intro a ha;cases ha
|.lst o ds,v,fp,h=>by
 unfold bM at h;split at h
 ·obtain⟨a,vs,fs,h1,h2,h3,h4,rfl⟩:=h;intro b hb;rcases aQ.mp hb with rfl|hb
  ·exact⟨_,h2,trivial⟩
  ·exact aX.ex ds vs fs h4 b hb
 ·rw[h.2];intro a ha;cases ha
|.tup ds,v,fp,h=>by
 obtain⟨a,vs,h1,h2,h3,h4⟩:=h;exact aX.ex ds vs fp h4
|.cst ds,v,fp,h=>by rw[h.2];intro a ha;cases ha
|.exc C ks ds,v,fp,h=>by rw[h.2];intro a ha;cases ha
theorem aX.ex:∀(ds:List D) (vs:List V) (fp:List Addr),aX K H F ds vs fp->∀a∈fp,∃o,H a=some o/\BH o
|[],vs,fp,h=>by rw[h.2];intro a ha;cases ha
|d::ds,vs,fp,h=>by
 obtain⟨v,r,f1,f2,h1,rfl,h3,h4⟩:=h;intro a ha;rcases bL.mp ha with ha|ha
 ·exact bM.ex d v f1 h3 a ha
 ·exact aX.ex ds r f2 h4 a ha
end
noncomputable def adopt(F H:Hp)(fp:List Addr):Hp:=fun b=>if b∈fp then H b else F b
theorem jT{a:Addr}(h:a∈fp):adopt F H fp a=H a:=if_pos h
theorem jg{a:Addr}(h:a∉fp):adopt F H fp a=F a:=if_neg h
theorem dP(s:aS F H):aS F (adopt F H fp):=fun b o h=>by
 by_cases q:b∈fp
 ·rw[jT q];exact s b o h
 ·rw[jg q];exact h
theorem dW(s:aS F H):aS (adopt F H fp) H:=fun b o h=>by
 by_cases q:b∈fp
 ·rw[jT q]at h;exact h
 ·rw[jg q]at h;exact s b o h
theorem oq(g:bD F H F1 H1)(n:∀a∈fp,H a=none):bD F H (adopt F1 H1 fp) H1:=⟨g.h,g.f.trans (dP g.s),dW g.s,fun b o h h'=>by
 by_cases q:b∈fp
 ·exact .of (n b q)
 ·rw[jg q]at h;exact g.n b o h h'⟩
theorem J0(g:bD F H F1 H1)(fr:fH fp H F1)(r:bM K H1 F1 d v fp):∃F2,bD F H F2 H1/\aS F1 F2/\aP K F2 d v:=
 ⟨adopt F1 H1 fp,oq g fr.nh,dP g.s,bM.fix (dP g.s) d v fp (fun _ ha=>jT ha) r⟩
theorem qf(g:bD F H F1 H1)(fr:fH fp H F1)(r:aX K H1 F1 ds vs fp):∃F2,bD F H F2 H1/\aS F1 F2/\aF K F2 ds vs:=
 ⟨adopt F1 H1 fp,oq g fr.nh,dP g.s,aX.fix (dP g.s) ds vs fp (fun _ ha=>jT ha) r⟩
theorem carry(g:bD F1 H1 F2 H2)(fr:fH fp H F1)(r:bM K H1 F1 d v fp):bM K H2 F2 d v fp/\(∀a∈fp,F2 a=none):=by
 refine⟨bM.mono g.f d v fp (fun a ha=>?_) r,fun a ha=>?_⟩
 ·obtain⟨o,e,_⟩:=bM.ex d v fp r a ha;rw[e,g.h a o e]
 ·obtain⟨o,e,k⟩:=bM.ex d v fp r a ha;cases q:F2 a with
  |none=>rfl
  |some u=>exact((g.n a u q (fr.nf a ha)).own e k).elim
theorem PR(g:bD F1 H1 F2 H2)(fr:fH fp H F1)(r:aX K H1 F1 ds vs fp):aX K H2 F2 ds vs fp/\(∀a∈fp,F2 a=none):=by
 refine⟨aX.mono g.f ds vs fp (fun a ha=>?_) r,fun a ha=>?_⟩
 ·obtain⟨o,e,_⟩:=aX.ex ds vs fp r a ha;rw[e,g.h a o e]
 ·obtain⟨o,e,k⟩:=aX.ex ds vs fp r a ha;cases q:F2 a with
  |none=>rfl
  |some u=>exact((g.n a u q (fr.nf a ha)).own e k).elim
theorem fH.app(s:aS H H1)(a1:fH f1 H F1)(e1:∀a∈f1,∃o,H1 a=some o)(k1:∀a∈f1,F2 a=none)(a2:fH f2 H1 F2):fH (f1++f2) H F2:=by
 refine⟨bJ.mpr ⟨a1.nd,a2.nd,fun a h1 b h2 z=>?_⟩,fun a ha=>?_,fun a ha=>?_⟩
 ·subst z;obtain⟨o,e⟩:=e1 a h1;rw[a2.nh a h2]at e;cases e
 ·rcases bL.mp ha with h|h
  ·exact a1.nh a h
  ·exact aS.none s (a2.nh a h)
 ·rcases bL.mp ha with h|h
  ·exact k1 a h
  ·exact a2.nf a h
theorem newList{p:Addr}{vs:List V}{o:HO}(s:aS F H)(hp:H p=none):bD F H F (upd H p o)/\F p=none:=by
 have hf:F p=none:=aS.none s hp;refine⟨⟨fun b u q=>by rw[aK (bQ q hp)];exact q,aS.refl _,fun b u q=>by rw[aK (bQ q hf)];exact s b u q,fun b o h h'=>by rw[h]at h';cases h'⟩,hf⟩
theorem qZ{o:HO}(s:aS F H)(hp:H p=none):bD F H (upd F p o) (upd H p o):=by
 have hf:F p=none:=aS.none s hp;refine⟨fun b u q=>by rw[aK (bQ q hp)];exact q,fun b u q=>by rw[aK (bQ q hf)];exact q,fun b u q=>?_,fun b u q q'=>?_⟩
 ·by_cases e:b=p
  ·subst e;rw[bu]at q ⊢;exact q
  ·rw[aK e]at q ⊢;exact s b u q
 ·by_cases e:b=p
  ·subst e;exact .of hp
  ·rw[aK e]at q;rw[q]at q';cases q'
end
class Ex where
 E:XK
def ie[Ex](K:PySem.W.Frag)(F H:Hp)(x:D):Prop:=match x with
|.exc C ks xs=>∀F' H' d vs,bD F H F' H'->F' d=some (f_ d (ks.zip vs))->aF K F' xs vs->Ex.E (.ref C) (some d) H'
|_=>False
variable{K:PySem.W.Frag}{F H F1 H1:Hp}{x:D}
theorem ie.grow[Ex](h:ie K F H x)(g:bD F H F1 H1):ie K F1 H1 x:=by
 cases x with
 |exc C ks xs=>exact fun F' H' d vs g'=>h F' H' d vs (g.trans g')
 |_=>exact h
def PV[Ex](K:PySem.W.Frag)(F H:Hp)(r:R D)(Q:VK):Prop:=match r with
|.ok d=>∀F' H' v fp,bD F H F' H'->fH fp H F'->bM K H' F' d v fp->Q v H'
|.ex x=>ie K F H x
|.bad=>False
def t9[Ex](K:PySem.W.Frag)(F H:Hp)(r:R (List D))(Q:List V->Hp->Prop):Prop:=match r with
|.ok ds=>∀F' H' vs fp,bD F H F' H'->fH fp H F'->aX K H' F' ds vs fp->Q vs H'
|.ex x=>ie K F H x
|.bad=>False
def PB[Ex]{α:Type}(K:PySem.W.Frag)(F H:Hp)(r:R α)(Q:α->Hp->Prop):Prop:=match r with
|.ok b=>∀F' H',bD F H F' H'->Q b H'
|.ex x=>ie K F H x
|.bad=>False
def PU(K:PySem.W.Frag)(F:Hp)(d:D):Item->Prop
|.v x=>aP K F d x
|.tup xs=>∃ds,d=.tup ds/\aF K F ds xs/\xs.length<=ai
def jU(K:PySem.W.Frag)(F:Hp):List D->List Item->Prop
|[],its=>its=[]
|d::ds,its=>∃it r,its=it::r/\PU K F d it/\jU K F ds r
noncomputable def minus(F:Hp)(A:List Addr):Hp:=fun b=>if b∈A then none else F b
noncomputable def ou(own:Bool)(F:Hp)(A:List Addr):Hp:=if own=true then minus F A else F
def PI'[Ex](K:PySem.W.Frag)(A:List Addr)(F H:Hp)(r:R (Bool×List D))(k:(Hp->Prop)->List Item->Hp->Prop):Prop:=match r with
|.ok ds=>∀F' H' ok its,bD F H F' H'->(∀H'',aS (ou ds.1 F' A) H''->ok H'')->jU K (ou ds.1 F' A) ds.2 its->ds.2.length<=ai->k ok its H'
|.ex x=>ie K F H x
|.bad=>False
def J2(K:PySem.W.Frag)(H:Hp)(L:bA)(O:L2.St):Prop:=∀(k:Nat) d,L[k]?=some (some d)->∃v F',O[k]?=some (some v)/\aS F' H/\aP K F' d v
structure ig (K:PySem.W.Frag) (F H:Hp) (is:List Nat) (L:bA) (O:L2.St):Prop where
 e:∀i∈is,∀d,L[i]?=some (some d)->∃v,O[i]?=some (some v)/\aP K F d v
 n:J2 K H L O
noncomputable def sP(K:PySem.W.Frag)(m:List D->R D):Sp:=fun vs H Q E=>∃F ds,aS F H/\aB ds=ds/\aF K F ds vs/\@PV ⟨E⟩ K F H (m ds) Q
def J3(K:PySem.W.Frag):PG->G->Prop
|.val d,.val v=>aP K (fun _=>none) d v
|.val d,.tup a _=>aP K (fun _=>none) d (.ref a)
|.fn m dds,.fn sp dvs=>(∀vs H Q E,sP K m vs H Q E->sp vs H Q E)/\aB dds=dds/\aF K (fun _=>none) dds dvs
|.cls C fs n,.cls C' fs' n'=>C=C'/\fs=fs'/\n=n'
|.gy D Cs,.gy D' Cs'=>D=D'/\Cs=Cs'
|.mJ Cs as,.mJ Cs' as'=>Cs=Cs'/\as=as'
|.fh m,.fh sp=>∀vs H Q E,sP K m vs H Q E->sp vs H Q E
|.fe _,.fn _ _=>True
|.exb Cs,.exb B Cs'=>Cs=Cs'/\∀C∈Cs,PySem.W.mroIn K C (.ref B)=some true
|.nop,.nop=>True
|_,_=>False
def bV(K:PySem.W.Frag):List PG->List G->Prop
|p::ps,gs=>∃g r,gs=g::r/\J3 K p g/\bV K ps r
|[],_=>True
theorem bV.hand{e:Addr}:∀{ps:List PG}{gs:List G},bV K ps gs->bV K (ps.map PG.hand) (gs.map (G.hand e))
|[],_,_=>trivial
|p::ps,_,h=>by
 obtain⟨g,r,rfl,h2,h3⟩:=h;refine⟨_,_,rfl,?_,bV.hand h3⟩;cases p<;>cases g<;>first|exact h2|exact trivial|exact h2.elim
theorem bV.semi:∀{ps:List PG}{gs:List G},bV K ps gs->bV K (ps.map PG.semi) (gs.map G.semi)
|[],_,_=>trivial
|p::ps,_,h=>by
 obtain⟨g,r,rfl,h2,h3⟩:=h;refine⟨_,_,rfl,?_,bV.semi h3⟩;cases p<;>cases g<;>first|exact h2|exact trivial|exact h2.elim|exact⟨h2,rfl,rfl⟩
theorem bV.get:∀{ps:List PG}{gs:List G} (i:Nat) {p:PG},bV K ps gs->ps[i]?=some p->∃g,gs[i]?=some g/\J3 K p g
|[],_,i,_,_,e=>by simp at e
|p::ps,_,0,_,h,e=>by
 obtain⟨g,r,rfl,h2,_⟩:=h;simp at e;subst e;exact⟨g,rfl,h2⟩
|p::ps,_,i+1,_,h,e=>by
 obtain⟨g,r,rfl,_,h3⟩:=h;obtain⟨w,e1,e2⟩:=bV.get i h3 (by simpa using e);exact⟨w,by simpa using e1,e2⟩
def t_(K:PySem.W.Frag)(Tv:List PG)(Y:List G)(H0:Hp):Prop:=∀(g:Nat) (m:List D->R D),Tv[g]?=some (.fe m)->∃(e:Addr) (sp0:Sp) (C:Addr) (od:Option Addr),Y[g]?=some (.fn (Gv e sp0) [])/\H0 e=some (eF false e C od)/\∀vs H Q E,sP K m vs H Q E->sp0 vs H Q E
variable{Tv:List PG}{C:Addr}
theorem t_.hand{Y:List G}{e:Addr}{od:Option Addr}(h:bV K Tv Y)(q:H e=some (eF false e C od)):t_ K (Tv.map PG.hand) (Y.map (G.hand e)) H:=fun g m z=>by
 rw[aU]at z;cases y:Tv[g]? with
 |none=>rw[y]at z;cases z
 |some p=>
  rw[y]at z;obtain⟨g',e1,e2⟩:=h.get g y;cases p<;>first|cases z|skip
  cases g'<;>first|exact e2.elim|skip
  rename_i sp;exact⟨e,sp,C,od,by rw[aU,e1];rfl,q,e2⟩
variable{A:List Addr}
theorem eT{b:Addr}(h:b∉A):minus F A b=F b:=if_neg h
theorem wz{b:Addr}(h:b∈A):minus F A b=none:=if_pos h
theorem zM(F:Hp):minus F []=F:=by funext b;exact eT aJ
theorem GU(o:Bool)(F:Hp):ou o F []=F:=by unfold ou;rw[zM];split<;>rfl
theorem jV(F:Hp)(A:List Addr):aS (minus F A) F:=fun b o h=>by
 by_cases q:b∈A
 ·rw[wz q]at h;cases h
 ·rw[eT q]at h;exact h
theorem zN(o:Bool)(F:Hp)(A:List Addr):aS (ou o F A) F:=by
 unfold ou;split
 ·exact jV F A
 ·exact aS.refl F
def lK(H:Hp)(A:List Addr):Prop:=∀a∈A,∃o,H a=some o/\BH o
theorem kh(s:aS F H)(h:lK H A):wy F (minus F A):=fun b o q=>by
 by_cases z:b∈A
 ·obtain⟨u,e,k⟩:=h b z;rw[s b o q]at e;cases e;exact .inr k
 ·exact .inl (by rw[eT z];exact q)
variable{H':Hp}
theorem lK.mono(s:aS H H')(h:lK H A):lK H' A:=fun a ha=>by
 obtain⟨o,e,k⟩:=h a ha;exact⟨o,s a o e,k⟩
theorem PX(hA:lK H A)(g:bD F H F1 H1)(fr:fH fp H F1)(r:bM K H1 F1 d v fp):∃F2,bD F H F2 H1/\aP K (ou (a9 d) F2 A) d v:=by
 have g2:=oq g fr.nh;refine⟨adopt F1 H1 fp,g2,?_⟩;unfold ou;by_cases ho:a9 d=true
 ·rw[if_pos ho];have r2:=bM.less (kh g.s (hA.mono g.h)) d v fp ho r;refine bM.fix (F':=minus (adopt F1 H1 fp) A) ?_ d v fp ?_ r2
  ·intro b o q;by_cases z:b∈A
   ·rw[wz z]at q;cases q
   ·rw[eT z]at q ⊢;exact dP g.s b o q
  ·intro a ha;have z:a∉A:=fun z=>by
    obtain⟨o,e,_⟩:=hA a z;rw[fr.nh a ha]at e;cases e
   rw[eT z,jT ha]
 ·rw[if_neg ho];exact bM.fix (dP g.s) d v fp (fun _ ha=>jT ha) r
variable{b:Bool}
variable{F':Hp}{Q:VK}
variable{α:Type}
section
variable{K:PySem.W.Frag}{H H1 F F1:Hp}{L:bA}{O:L2.St}
theorem ig.l{a b:List Nat}(h:ig K F H (a++b) L O):ig K F H a L O:=⟨fun i hi=>h.e i (aM _ hi),h.n⟩
theorem ig.r{a b:List Nat}(h:ig K F H (a++b) L O):ig K F H b L O:=⟨fun i hi=>h.e i (aA _ hi),h.n⟩
theorem ig.mono{a:List Nat}(h:ig K F H a L O)(g:bD F H F1 H1):ig K F1 H1 a L O:=⟨fun i hi d hd=>by
 obtain⟨v,h1,h2⟩:=h.e i hi d hd;exact⟨v,h1,aP.mono g.f d v h2⟩,fun k d e=>by
 obtain⟨v,F',h1,h2,h3⟩:=h.n k d e;exact⟨v,F',h1,h2.trans g.h,h3⟩⟩
theorem PV.int[Ex]{n:Int}(h:PV K F H (.ok (.int n)) Q)(s:aS F H):PV K F' H (.ok (.int n)) Q:=fun F2 H2 v fp g fr r=>by
 obtain⟨rfl,rfl⟩:=r;exact h F H2 _ [] ⟨g.h,aS.refl _,s.trans g.h,fun b o q q'=>by rw[q]at q';cases q'⟩ .nil ⟨rfl,rfl⟩
theorem PV.grow[Ex]{r:R D}(h:PV K F H r Q)(g:bD F H F1 H1):PV K F1 H1 r Q:=by
 cases r with
 |ok d=>exact fun F' H' v fp g' fr rx=>h F' H' v fp (g.trans g') ⟨fr.nd,fun a ha=>aS.none g.h (fr.nh a ha),fr.nf⟩ rx
 |ex x=>exact ie.grow (K:=K) (x:=x) h g
 |bad=>exact h
theorem PB.grow[Ex]{r:R α}{Q:α->Hp->Prop}(h:PB K F H r Q)(g:bD F H F1 H1):PB K F1 H1 r Q:=by
 cases r with
 |ok d=>exact fun F' H' g'=>h F' H' (g.trans g')
 |ex x=>exact ie.grow (K:=K) (x:=x) h g
 |bad=>exact h
theorem PV.here[Ex](h:PV K F H (.ok (bG d)) Q)(s:aS F H)(r:aP K F d v):Q v H:=h F H v [] (bD.refl s) .nil (aP.vJ d v r)
theorem PV.flat[Ex](h:PV K F H (.ok d) Q)(s:aS F H)(r:bM K H F d v []):Q v H:=h F H v [] (bD.refl s) .nil r
theorem gW{r:R α}{a:α}(h:R.bH b r=.ok a):b=true/\r=.ok a:=by
 cases b with
 |true=>exact⟨rfl,h⟩
 |false=>cases h
theorem PV.bH[Ex]{r:R D}(h:PV K F H (R.bH b r) Q):b=true/\PV K F H r Q:=by
 cases b with
 |true=>exact⟨rfl,h⟩
 |false=>exact h.elim
theorem PB.bH[Ex]{r:R α}{Q:α->Hp->Prop}(h:PB K F H (R.bH b r) Q):b=true/\PB K F H r Q:=by
 cases b with
 |true=>exact⟨rfl,h⟩
 |false=>exact h.elim
end
theorem szl:ai=16777216:=by unfold ai;rfl
theorem yJ(x:Str):x.cps.toList.length=x.length:=by simp[gE]
theorem GV(l:List Nat):(⟨l.toArray⟩:Str).length=l.length:=by simp[gE]
theorem EZ(z:Str)(n:Nat):(BI z n).length=z.length*n:=by
 unfold BI;rw[GV];induction n with
 |zero=>simp
 |succ n ih=>rw[bX,cS,aR,ih,yJ,CP,uH]
theorem DO(l:List α)(lo hi:Option Int):(cut l lo hi).length<=l.length:=by
 unfold cut;rw[eB,f6];omega
variable{i:Int}
theorem oG{xs:List α}{x:α}(h:gU xs i=some x):∃j,gh xs.length i=some j/\xs[j]?=some x:=by
 unfold gU at h;cases q:gh xs.length i with
 |none=>rw[q]at h;cases h
 |some j=>rw[q]at h;exact⟨j,rfl,h⟩
theorem xO{xs:List α}{j:Nat}{x:α}(h:gh xs.length i=some j)(e:xs[j]?=some x):gU xs i=some x:=by
 unfold gU;rw[h];exact e
def R.bf{α:Type}(r:R α):Prop:=∀x,r≠.ex x
theorem bf.ok{a:α}:(R.ok a).bf:=fun _ h=>by cases h
theorem bf.bad:(R.bad:R α).bf:=fun _ h=>by cases h
theorem bf.opt{o:Option α}:(R.opt o).bf:=fun _ h=>by cases o<;>cases h
theorem bf.bH{r:R α}(n:r.bf):(R.bH b r).bf:=fun x h=>by
 cases b with
 |true=>exact n x h
 |false=>cases h
variable{β:Type}
theorem bf.bind{r:R α}{f:α->R β}(n:r.bf)(k:∀a,(f a).bf):(r.bind f).bf:=fun x h=>by
 cases r with
 |ok a=>exact k a x h
 |ex y=>exact n y rfl
 |bad=>cases h
theorem bf.d8(r:R α):r.d8.bf:=fun x h=>by cases r<;>cases h
theorem DP(x y:D):(inD x y).bf:=by unfold inD;(repeat' (first|exact bf.ok|exact bf.bad|exact bf.opt|exact bf.d8 _|refine bf.bH ?_|(refine bf.bind ?_ fun _=>?_)|split))
theorem sf(x:D):(iN x).bf:=by unfold iN;(repeat' (first|exact bf.ok|exact bf.bad|exact bf.opt|exact bf.d8 _|refine bf.bH ?_|(refine bf.bind ?_ fun _=>?_)|split))
theorem DQ(x y:D):(vK x y).bf:=by unfold vK;(repeat' (first|exact bf.ok|exact bf.bad|exact bf.opt|exact bf.d8 _|refine bf.bH ?_|(refine bf.bind ?_ fun _=>?_)|split))
theorem J4(x:D):(qI x).bf:=by unfold qI;(repeat' (first|exact bf.ok|exact bf.bad|exact bf.opt|exact bf.d8 _|refine bf.bH ?_|(refine bf.bind ?_ fun _=>?_)|split))
theorem J5(xs:List D):(lB xs).bf:=by unfold lB;(repeat' (first|exact bf.ok|exact bf.bad|exact bf.opt|exact bf.d8 _|refine bf.bH ?_|(refine bf.bind ?_ fun _=>?_)|split))
theorem J6(m:Mt)(xs:List D)(k:Bool):(PM m xs k).bf:=by unfold PM;(repeat' (first|exact bf.ok|exact bf.bad|exact bf.opt|exact bf.d8 _|refine bf.bH ?_|(refine bf.bind ?_ fun _=>?_)|split))
theorem sj(m:Mt)(x:D)(ds:List D):(tZ m x ds).bf:=by unfold tZ;(repeat' (first|exact J6 _ _ _|exact bf.ok|exact bf.bad|exact bf.opt|exact bf.d8 _|refine bf.bH ?_|(refine bf.bind ?_ fun _=>?_)|split))
variable{u:V}{y:D}
variable{op:qo}
variable{t:Ty}
variable{m:Mt}
section
variable{K:PySem.W.Frag}{H H0 F F0:Hp}
theorem zO(r:aP K F x v):decide (v=.non)=jR x:=by
 cases x with
 |non=>rw[show v=.non from r];rfl
 |bl b=>rw[show v=.bl b from r];rfl
 |int i=>rw[show v=.int i from r];rfl
 |str z=>rw[show v=.str z from r.1];rfl
 |lst o ds=>obtain⟨a,vs,rfl,_⟩:=r;rfl
 |tup ds=>obtain⟨a,vs,rfl,_⟩:=r;rfl
 |cst ds=>obtain⟨a,vs,rfl,_⟩:=r;rfl
 |exc C ks ds=>obtain⟨a,d,vs,rfl,_⟩:=r;rfl
theorem GW(r:aP K F x v)(h:jR x=true):v=.non:=by
 cases x<;>first|exact r|(cases h)
theorem J8{k:Key}(r:aP K F x v)(h:JY x=some k):v=kV k:=by
 cases x with
 |int i=>cases h;exact r
 |str z=>cases h;exact r.1
 |_=>cases h
theorem zP:∀{ds:List D}{vs:List V}{k:List Key},aF K F ds vs->xJ ds=some k->vs=k.map kV/\keysOk k=true
|[],_,_,h,e=>by cases h;cases e;exact⟨rfl,rfl⟩
|d::ds,_,k,h,e=>by
 obtain⟨v,r,rfl,h2,h3⟩:=h;unfold xJ at e;cases hd:JY d with
 |none=>rw[hd]at e;cases e
 |some q=>
  rw[hd]at e;cases hr:xJ ds with
  |none=>rw[hr]at e;cases e
  |some rs=>
   rw[hr]at e;cases e;obtain⟨w1,w2⟩:=zP h3 hr;refine⟨by rw[J8 h2 hd,w1];rfl,?_⟩;show(keyOk q&&keysOk rs)=true;rw[w2,sZ];cases d with
   |int i=>cases hd;rfl
   |str z=>cases hd;exact decide_eq_true h2.2
   |_=>cases hd
theorem lD:∀(xs ys:List D),aB (xs++ys)=aB xs++aB ys
|[],_=>rfl
|x::r,ys=>by show bG x::aB (r++ys)=_;rw[lD r ys];rfl
theorem gv:∀xs:List D,(aB xs).length=xs.length
|[]=>rfl
|x::r=>by show(aB r).length+1=_;rw[gv r];rfl
theorem PV.lst[Ex]{ds:List D}{vs:List V}{Q:VK}{p:Addr}(h:PV K F H (.ok (.lst true (aB ds))) Q)(s:aS F H)(r:aF K F ds vs)(hl:vs.length<=ai)(hp:H p=none):Q (.ref p) (upd H p (.lst vs)):=by
 obtain⟨g,hf⟩:=newList (vs:=vs) (o:=.lst vs) s hp;refine h F _ (.ref p) [p] g ⟨by simp,?_,?_⟩ ?_
 ·intro a ha;rw[bR.mp ha];exact hp
 ·intro a ha;rw[bR.mp ha];exact hf
 ·unfold bM;rw[if_pos rfl];exact⟨p,vs,[],rfl,bu,hl,aF.vJ ds vs r,rfl⟩
theorem PV.tup[Ex]{ds:List D}{vs:List V}{Q:VK}{p:Addr}(h:PV K F H (.ok (.tup (aB ds))) Q)(s:aS F H)(r:aF K F ds vs)(hl:vs.length<=ai)(hp:H p=none):Q (.ref p) (upd H p (.tup vs)):=by
 have g:=qZ (o:=.tup vs) s hp;refine h _ _ (.ref p) [] g .nil ?_;exact⟨p,vs,rfl,bu,hl,aF.vJ ds vs (aF.mono g.f ds vs r)⟩
theorem BJ:∀(n:Nat) {ds:List D}{vs:List V},aF K F ds vs->aF K F (aW n ds).flatten (aW n vs).flatten
|0,_,_,_=>rfl
|n+1,ds,vs,r=>by
 rw[bX,bX,cS,cS];exact aF.app r (BJ n r)
theorem J9(n:Nat)(xs:List D):(aW n (aB xs)).flatten=aB (aW n xs).flatten:=by
 induction n with
 |zero=>rfl
 |succ n ih=>rw[bX,bX,cS,cS,lD,ih]
theorem Ru[Ex]{op:lF}(s:aS F H)(rx:aP K F x v)(ry:aP K F y u)(h:PV K F H (pe op x y) Q):Jy K op v u H Q:=by
 cases x with
 |int i=>
  cases rx;cases y with
  |int j=>
   cases ry;cases op<;>first|exact h.elim|exact h.flat s ⟨rfl,rfl⟩|(obtain⟨c,h⟩:=h.bH;exact⟨of_decide_eq_true c,h.flat s ⟨rfl,rfl⟩⟩)
  |_=>exact h.elim
 |str z=>
  obtain⟨rfl,hz⟩:=rx;cases y with
  |int j=>
   cases ry;cases op<;>first|exact h.elim|skip
   obtain⟨c,h⟩:=h.bH;have c:=of_decide_eq_true c;exact⟨c,h.flat s ⟨⟨rfl,by rw[EZ];exact c.2.2⟩,rfl⟩⟩
  |str q=>
   obtain⟨rfl,hq⟩:=ry;cases op<;>first|exact h.elim|skip
   obtain⟨c,h⟩:=h.bH;have c:=of_decide_eq_true c;exact⟨c,h.flat s ⟨⟨rfl,by rw[Str.length_append];exact c⟩,rfl⟩⟩
  |_=>exact h.elim
 |lst o xs=>
  obtain⟨a,vs,rfl,h2,h3,h4⟩:=rx;cases y with
  |lst o' ys=>
   obtain⟨b,us,rfl,k2,k3,k4⟩:=ry;cases op<;>first|exact h.elim|skip
   obtain⟨c,h⟩:=h.bH;have c:=of_decide_eq_true c;rw[<-h4.len,<-k4.len]at c;rw[<-lD]at h;exact .inl ⟨vs,us,Rd.same s h2,Rd.same s k2,c,fun p hp=>h.lst s (h4.app k4) (by rw[aR];exact c) hp⟩
  |int k=>
   cases ry;cases op<;>first|exact h.elim|skip
   obtain⟨c,h⟩:=h.bH;have c:=of_decide_eq_true c;rw[<-h4.len]at c;rw[J9]at h;refine⟨vs,Rd.same s h2,c.1,c.2,fun p hp=>h.lst s (BJ _ h4) ?_ hp⟩;have z:∀n,(aW n vs).flatten.length=vs.length*n:=by
    intro n;induction n with
    |zero=>rfl
    |succ n ih=>rw[bX,cS,aR,ih,CP,uH]
   rw[z];exact c.2
  |_=>exact h.elim
 |tup xs=>
  obtain⟨a,vs,rfl,h2,h3,h4⟩:=rx;cases y with
  |tup ys=>
   obtain⟨b,us,rfl,k2,k3,k4⟩:=ry;cases op<;>first|exact h.elim|skip
   obtain⟨c,h⟩:=h.bH;simp only[bx,decide_eq_true_eq,vq,List.isEmpty_eq_false_iff]at c;obtain⟨⟨c1,c2⟩,c3⟩:=c;rw[<-h4.len,<-k4.len]at c3;rw[<-lD]at h;refine .inr ⟨vs,us,(tupS h2).same' s,(tupS k2).same' s,?_,?_,c3,fun p hp=>h.tup s (h4.app k4) (by rw[aR];exact c3) hp⟩
   ·rintro rfl;exact c1 (ed (by rw[<-h4.len];rfl))
   ·rintro rfl;exact c2 (ed (by rw[<-k4.len];rfl))
  |_=>exact h.elim
 |_=>exact h.elim
theorem okIn(s:aS F H)(rx:aP K F x v)(ry:aP K F y u)(h:inD x y=.ok b){Q:Bool->Prop}(q:Q b):∃a,u=.ref a/\((∃t xs dx ds,dO K H a t xs/\aP K H dx v/\aF K H ds xs/\di dx=true/\iE ds=true/\Q (memD dx ds))\/∃kvs k,Rd H a (.dK kvs)/\v=kV k/\Q (jj kvs k).isSome):=by
 cases y with
 |lst o ys=>
  obtain⟨a,us,rfl,k2,k3,k4⟩:=ry;obtain⟨c,e⟩:=gW h;cases e;have c:di x=true/\iE ys=true:=by simpa using c
  exact⟨a,rfl,.inl ⟨false,us,x,ys,(Rd.seq k2).same' s,aP.mono s _ _ rx,aF.mono s _ _ k4,c.1,c.2,q⟩⟩
 |tup ys=>
  obtain⟨a,us,rfl,k2,k3,k4⟩:=ry;obtain⟨c,e⟩:=gW h;cases e;have c:di x=true/\iE ys=true:=by simpa using c
  exact⟨a,rfl,.inl ⟨true,us,x,ys,(tupS k2).same' s,aP.mono s _ _ rx,aF.mono s _ _ k4,c.1,c.2,q⟩⟩
 |cst ys=>
  obtain⟨a,us,rfl,k2,k3,k4⟩:=ry;obtain⟨c,e⟩:=gW h;cases e;have c:di x=true/\iE ys=true:=by simpa using c
  exact⟨a,rfl,.inl ⟨true,us,x,ys,.inr k2,aP.mono s _ _ rx,aF.mono s _ _ k4,c.1,c.2,q⟩⟩
 |_=>cases h
theorem u5[Ex](s:aS F H)(rx:aP K F x v)(ry:aP K F y u)(h:PV K F H (eZ op x y) Q):lu K op v u H Q:=by
 have ord:(op=.Lt\/op=.LtE\/op=.Gt\/op=.GtE)->PV K F H (PN op x y) Q->lu K op v u H Q:=by
  intro ho h;cases x with
  |int i=>
   cases rx;cases y with
   |int j=>
    cases ry;rcases ho with rfl|rfl|rfl|rfl<;>exact h.flat s ⟨rfl,rfl⟩
   |_=>exact h.elim
  |str z=>
   obtain⟨rfl,_⟩:=rx;cases y with
   |str j=>
    obtain⟨rfl,_⟩:=ry;rcases ho with rfl|rfl|rfl|rfl<;>first|exact h.flat s ⟨rfl,rfl⟩|exact h.elim
   |_=>exact h.elim
  |_=>exact h.elim
 cases op with
 |Lt=>exact ord (.inl rfl) h
 |LtE=>exact ord (.inr (.inl rfl)) h
 |Gt=>exact ord (.inr (.inr (.inl rfl))) h
 |GtE=>exact ord (.inr (.inr (.inr rfl))) h
 |Eq=>
  obtain⟨c,h⟩:=h.bH;have c:di x=true/\di y=true:=by simpa using c
  exact⟨x,y,aP.mono s _ _ rx,aP.mono s _ _ ry,c.1,c.2,h.flat s ⟨rfl,rfl⟩⟩
 |NotEq=>
  obtain⟨c,h⟩:=h.bH;have c:di x=true/\di y=true:=by simpa using c
  exact⟨x,y,aP.mono s _ _ rx,aP.mono s _ _ ry,c.1,c.2,h.flat s ⟨rfl,rfl⟩⟩
 |Is=>
  obtain⟨c,h⟩:=h.bH;rw[GW ry c];show Q (.bl (decide (v=.non))) H;rw[zO rx];exact h.flat s ⟨rfl,rfl⟩
 |IsNot=>
  obtain⟨c,h⟩:=h.bH;rw[GW ry c];show Q (.bl (!decide (v=.non))) H;rw[zO rx];exact h.flat s ⟨rfl,rfl⟩
 |In=>
  have h:PV K F H ((inD x y).bind fun b=>.ok (.bl b)) Q:=h;cases e:inD x y with
  |ok b=>
   rw[e]at h;obtain⟨a,rfl,z⟩:=okIn s rx ry e (Q:=fun b=>Q (.bl b) H) (h.flat s ⟨rfl,rfl⟩);exact z
  |ex z=>exact absurd e (DP x y z)
  |bad=>rw[e]at h;exact h.elim
 |NotIn=>
  have h:PV K F H ((inD x y).bind fun b=>.ok (.bl (!b))) Q:=h;cases e:inD x y with
  |ok b=>
   rw[e]at h;obtain⟨a,rfl,z⟩:=okIn s rx ry e (Q:=fun b=>Q (.bl (!b)) H) (h.flat s ⟨rfl,rfl⟩);exact z
  |ex z=>exact absurd e (DP x y z)
  |bad=>rw[e]at h;exact h.elim
theorem vL{xs:List α}{ys:List β}(h:xs.length=ys.length):xs.isEmpty=ys.isEmpty:=by
 cases xs<;>cases ys<;>first|rfl|(simp at h)
theorem E1{Q:Bool->Prop}(s:aS F H)(rx:aP K F x v)(h:iN x=.ok b)(q:Q b):ic K v H Q:=by
 cases x with
 |non=>cases rx;cases h;exact q
 |bl k=>cases rx;cases h;exact q
 |int i=>cases rx;cases h;exact q
 |str z=>obtain⟨rfl,hz⟩:=rx;cases h;exact⟨hz,q⟩
 |lst o ds=>
  obtain⟨a,vs,rfl,h2,h3,h4⟩:=rx;cases h;exact .inl ⟨false,vs,(Rd.seq h2).same' s,by show Q (!vs.isEmpty);rw[vL h4.len];exact q⟩
 |tup ds=>
  obtain⟨a,vs,rfl,h2,h3,h4⟩:=rx;cases h;exact .inl ⟨true,vs,(tupS h2).same' s,by show Q (!vs.isEmpty);rw[vL h4.len];exact q⟩
 |cst ds=>cases h
 |exc C ks ds=>cases h
theorem bZ{r:R α}{f:α->R β}{b:β}(h:r.bind f=.ok b):∃a,r=.ok a/\f a=.ok b:=by
 cases r with
 |ok a=>exact⟨a,rfl,h⟩
 |ex x=>cases h
 |bad=>cases h
theorem nB{o:Option α}{a:α}(h:R.opt o=.ok a):o=some a:=by
 cases o with
 |none=>cases h
 |some b=>cases h;rfl
theorem PV.some[Ex]{r:R D}(h:PV K F H r Q)(n:r.bf):∃d,r=.ok d:=by
 cases r with
 |ok d=>exact⟨d,rfl⟩
 |ex x=>exact absurd rfl (n x)
 |bad=>exact h.elim
theorem PY[Ex](s:aS F H)(rx:aP K F x v)(ry:aP K F y u)(h:PV K F H (vK x y) Q):Bq K v u H Q:=by
 obtain⟨d,e⟩:=h.some (by first|exact DQ _ _|exact sj _ _ _|(repeat' (first|exact bf.ok|exact bf.bad|exact bf.opt|exact bf.d8 _|refine bf.bH ?_|(refine bf.bind ?_ fun _=>?_)|split)));rw[e]at h;have hs:=szl;cases x with
 |str z=>
  obtain⟨rfl,hz⟩:=rx;cases y with
  |int i=>
   cases ry;obtain⟨c,e1,e2⟩:=bZ e;cases e2;exact⟨hz,c,nB e1,h.flat s ⟨⟨rfl,by show(1:Nat)<=_;omega⟩,rfl⟩⟩
  |_=>cases e
 |lst o ds=>
  obtain⟨a,vs,rfl,h2,h3,h4⟩:=rx;cases y with
  |int i=>
   cases ry;obtain⟨c,e1,e2⟩:=bZ e;cases e2;obtain⟨j,i1,i2⟩:=oG (nB e1);obtain⟨w,w1,w2⟩:=h4.get j i2;exact .inl ⟨false,vs,i,w,rfl,(Rd.seq h2).same' s,xO (by rw[h4.len];exact i1) w1,h.here s w2⟩
  |_=>cases e
 |tup ds=>
  obtain⟨a,vs,rfl,h2,h3,h4⟩:=rx;cases y with
  |int i=>
   cases ry;obtain⟨c,e1,e2⟩:=bZ e;cases e2;obtain⟨j,i1,i2⟩:=oG (nB e1);obtain⟨w,w1,w2⟩:=h4.get j i2;exact .inl ⟨true,vs,i,w,rfl,(tupS h2).same' s,xO (by rw[h4.len];exact i1) w1,h.here s w2⟩
  |_=>cases e
 |_=>cases e
theorem aF.cut:∀{ds:List D}{vs:List V},aF K F ds vs->∀lo hi,aF K F (L3.cut ds lo hi) (L3.cut vs lo hi):=by
 have dr:∀(n:Nat) {ds:List D}{vs:List V},aF K F ds vs->aF K F (ds.drop n) (vs.drop n):=by
  intro n;induction n with
  |zero=>intro ds vs h;exact h
  |succ n ih=>
   intro ds vs h;cases ds with
   |nil=>cases h;exact rfl
   |cons d ds=>
    obtain⟨v,r,rfl,_,h3⟩:=h;exact ih h3
 have tk:∀(n:Nat) {ds:List D}{vs:List V},aF K F ds vs->aF K F (ds.take n) (vs.take n):=by
  intro n;induction n with
  |zero=>intro ds vs h;exact rfl
  |succ n ih=>
   intro ds vs h;cases ds with
   |nil=>cases h;exact rfl
   |cons d ds=>
    obtain⟨v,r,rfl,h2,h3⟩:=h;exact⟨v,_,rfl,h2,ih h3⟩
 intro ds vs h lo hi;unfold L3.cut;rw[h.len];exact tk _ (dr _ h)
theorem SM[Ex]{lo hi:Option Int}(s:aS F H)(rx:aP K F x v)(h:PV K F H (xM x lo hi) Q):LU K v lo hi H Q:=by
 cases x with
 |str z=>
  obtain⟨rfl,hz⟩:=rx;refine⟨hz,h.flat s ⟨⟨rfl,?_⟩,rfl⟩⟩;rw[GV];have:=DO z.cps.toList lo hi;rw[yJ]at this;omega
 |lst o ds=>
  obtain⟨a,vs,rfl,h2,h3,h4⟩:=rx;exact .inl ⟨false,vs,(Rd.seq h2).same' s,rfl,fun p hp=>h.lst s (h4.cut lo hi) (c9 (DO _ _ _) h3) hp⟩
 |tup ds=>
  obtain⟨a,vs,rfl,h2,h3,h4⟩:=rx;cases lo with
  |none=>exact h.elim
  |some n=>
   cases hi with
   |some _=>exact h.elim
   |none=>
    obtain⟨c,h⟩:=h.bH;have c:=of_decide_eq_true c;have en:((n.toNat:Nat):Int)=n:=by omega
    have dr:∀(n:Nat) {ds:List D}{vs:List V},aF K F ds vs->aF K F (ds.drop n) (vs.drop n):=by
     intro n;induction n with
     |zero=>intro ds vs h;exact h
     |succ n ih=>
      intro ds vs h;cases ds with
      |nil=>cases h;exact rfl
      |cons d ds=>
       obtain⟨v,r,rfl,_,h3⟩:=h;exact ih h3
    have hl:=h4.len;exact .inr ⟨n.toNat,vs,(tupS h2).same' s,by rw[en],rfl,by omega,by omega,fun p hp=>h.tup s (dr n.toNat h4) (by rw[f6];omega) hp⟩
 |_=>exact h.elim
theorem zQ:∀{ds:List D}{vs:List V},aF K F ds vs->ds.all r9=true->xy vs=true/\vs.all mR=ds.all uZ/\vs.any mR=ds.any uZ
|[],_,h,_=>by cases h;exact⟨rfl,rfl,rfl⟩
|d::ds,_,h,e=>by
 obtain⟨v,r,rfl,h2,h3⟩:=h;have e':r9 d=true/\ds.all r9=true:=by simpa using e
 obtain⟨i1,i2,i3⟩:=zQ h3 e'.2;cases d with
 |bl b=>
  cases h2;refine⟨by show(true&&xy r)=true;rw[i1];rfl,?_,?_⟩
  ·rw[nU,nU,i2];cases b<;>rfl
  ·rw[kZ,kZ,i3];cases b<;>rfl
 |_=>exact absurd e'.1 aE
theorem xP:∀{ds:List D}{vs:List V},aF K F ds vs->ds.all qX=true->xA vs=true/\nA vs=(ds.map intD).sum
|[],_,h,_=>by cases h;exact⟨rfl,rfl⟩
|d::ds,_,h,e=>by
 obtain⟨v,r,rfl,h2,h3⟩:=h;have e':qX d=true/\ds.all qX=true:=by simpa using e
 obtain⟨i1,i2⟩:=xP h3 e'.2;cases d with
 |int i=>
  cases h2;refine⟨by show(true&&xA r)=true;rw[i1];rfl,?_⟩;unfold nA at i2 ⊢;rw[cM,cM,s9,s9,i2];rfl
 |_=>exact absurd e'.1 aE
theorem Nt:∀{kss:List (List Key)}{ts:List Addr},qU H kss ts->kss.length=ts.length/\∀i,i<kss.length->H (ts.getD i 0)=some (.tup ((kss.getD i []).map kV))/\ts.getD i 0∈ts
|_,_,.nil=>⟨rfl,fun i h=>absurd h (yh _)⟩
|_,_,.cons (b:=t) e r=>by
 obtain⟨h1,h2⟩:=Nt r;refine⟨by simp[h1],fun i hi=>?_⟩;cases i with
 |zero=>exact⟨e,aG⟩
 |succ i=>
  obtain⟨a,b⟩:=h2 i (by simpa using hi);exact⟨by simpa using a,ao _ (by simpa using b)⟩
theorem zR:∀{ds:List D}{vs:List V}{ss:List Str},aF K F ds vs->xK ds=some ss->vs=ss.map V.str
|[],_,_,h,e=>by cases h;cases e;rfl
|d::ds,_,ss,h,e=>by
 obtain⟨v,r,rfl,h2,h3⟩:=h;cases d with
 |str z=>
  have e:(xK ds).map (z::·)=some ss:=e;cases q:xK ds with
  |none=>rw[q]at e;cases e
  |some s2=>
   rw[q]at e;cases e;rw[zR h3 q,h2.1];rfl
 |_=>cases e
theorem zS:∀{ds:List D}{vs:List V}{ss:List Int},aF K F ds vs->qa ds=some ss->vs=ss.map V.int
|[],_,_,h,e=>by cases h;cases e;rfl
|d::ds,_,ss,h,e=>by
 obtain⟨v,r,rfl,h2,h3⟩:=h;cases d with
 |int z=>
  have e:(qa ds).map (z::·)=some ss:=e;cases q:qa ds with
  |none=>rw[q]at e;cases e
  |some s2=>
   rw[q]at e;cases e;rw[zS h3 q,h2];rfl
 |_=>cases e
theorem zT:∀{ds:List D}{vs:List V}{kss:List (List Key)},aF K F ds vs->r_ ds=some kss->∃ts,vs=ts.map V.ref/\qU F kss ts
|[],_,_,h,e=>by cases e;cases h;exact⟨[],rfl,.nil⟩
|d::ds,_,_,h,e=>by
 obtain⟨v,r,rfl,h2,h3⟩:=h;have e:((nH d).bind fun k=>(r_ ds).map (k::·))=some _:=e;cases q:nH d with
 |none=>rw[q]at e;cases e
 |some k=>
  rw[q]at e;have e:(r_ ds).map (k::·)=some _:=e;cases q2:r_ ds with
  |none=>rw[q2]at e;cases e
  |some ks=>
   rw[q2]at e;cases e;obtain⟨ts,rfl,ht⟩:=zT h3 q2;cases d with
   |tup xs=>
    obtain⟨a,us,rfl,u2,_,u4⟩:=h2;exact⟨a::ts,rfl,.cons (by rw[u2,(zP u4 q).1]) ht⟩
   |_=>cases q
theorem vM(s:aS F H):∀{kss:List (List Key)}{ts:List Addr},qU F kss ts->qU H kss ts
|_,_,.nil=>.nil
|_,_,.cons e r=>.cons (s _ _ e) (vM s r)
theorem GX{kss:List (List Key)}(h:aF K F ds vs)(e:sd ds=some kss):kss.length=ds.length/\∀{H:Hp},aS F H->Be H vs kss:=by
 have hl:=h.len;unfold sd at e;split at e
 ·rename_i ss q;cases e;have:=zR h q;exact⟨by rw[<-hl,this,aC,aC],fun _=>.inr (.inl ⟨ss,this,rfl⟩)⟩
 ·split at e
  ·rename_i ns q;cases e;have:=zS h q;exact⟨by rw[<-hl,this,aC,aC],fun _=>.inr (.inr ⟨ns,this,rfl⟩)⟩
  ·obtain⟨ts,e1,e2⟩:=zT h e;exact⟨by rw[<-hl,e1,aC];exact Paired.length e2,fun s=>.inl ⟨ts,e1,vM s e2⟩⟩
theorem zU:∀(ds:List D) (i:Nat),(aB ds).getD i .non=bG (ds.getD i .non)
|[],_=>rfl
|_::_,0=>rfl
|_::ds,i+1=>zU ds i
theorem zV(h:aF K F ds vs):∀l:List Nat,(∀i∈l,i<ds.length)->aF K F (l.map fun i=>ds.getD i .non) (l.map fun i=>vs.getD i .non)/\aB (l.map fun i=>ds.getD i .non)=l.map fun i=>(aB ds).getD i .non
|[],_=>⟨rfl,rfl⟩
|i::r,hi=>by
 have h0:=hi i aG;obtain⟨v,e1,e2⟩:=aF.get i h (ak h0);obtain⟨q1,q2⟩:=zV h r fun j hj=>hi j (ao _ hj);refine⟨⟨_,_,rfl,?_,q1⟩,?_⟩
 ·show aP K F (ds.getD i .non) (vs.getD i .non);rw[aH,aH,ak h0,e1];exact e2
 ·show bG (ds.getD i .non)::aB _=(aB ds).getD i .non::_;rw[q2,zU]
theorem E2[Ex]{f:Bf}(s:aS F H)(r:aF K F ds vs)(h:PV K F H (iO f ds) Q):qF K f vs H Q:=by
 match ds,r,h with
 |[],_,h=>exact h.elim
 |[x],r,h=>
  obtain⟨v,r',rfl,rx,e⟩:=r;cases e;cases f with
  |len=>
   cases x with
   |str z=>obtain⟨rfl,hz⟩:=rx;exact⟨hz,h.flat s ⟨rfl,rfl⟩⟩
   |lst o ds=>
    obtain⟨a,vs,rfl,h2,h3,h4⟩:=rx;exact .inl ⟨false,vs,(Rd.seq h2).same' s,by show Q (.int vs.length) H;rw[h4.len];exact h.flat s ⟨rfl,rfl⟩⟩
   |tup ds=>
    obtain⟨a,vs,rfl,h2,h3,h4⟩:=rx;exact .inl ⟨true,vs,(tupS h2).same' s,by show Q (.int vs.length) H;rw[h4.len];exact h.flat s ⟨rfl,rfl⟩⟩
   |_=>exact h.elim
  |all=>
   cases x with
   |lst o ds=>
    obtain⟨a,vs,rfl,h2,h3,h4⟩:=rx;obtain⟨c,h⟩:=h.bH;obtain⟨i1,i2,i3⟩:=zQ h4 c;exact⟨false,vs,(Rd.seq h2).same' s,rfl,i1,by rw[i2];exact h.flat s ⟨rfl,rfl⟩⟩
   |_=>exact h.elim
  |int=>
   cases x with
   |int i=>cases rx;exact h.flat s ⟨rfl,rfl⟩
   |bl b=>cases rx;exact h.flat s ⟨rfl,rfl⟩
   |str z=>
    obtain⟨rfl,hz⟩:=rx;obtain⟨c,h⟩:=h.bH;obtain⟨d,e⟩:=h.some (by first|exact DQ _ _|exact sj _ _ _|(repeat' (first|exact bf.ok|exact bf.bad|exact bf.opt|exact bf.d8 _|refine bf.bH ?_|(refine bf.bind ?_ fun _=>?_)|split)));obtain⟨n,e1,e2⟩:=bZ e;rw[e]at h;cases e2;exact⟨of_decide_eq_true c,n,nB e1,h.flat s ⟨rfl,rfl⟩⟩
   |_=>exact h.elim
  |str=>
   cases x with
   |int i=>
    cases rx;obtain⟨c,h⟩:=h.bH;have c:i.natAbs.log2<1920/\(yt i).length<=ai:=by simpa using c
    exact⟨c.1,h.flat s ⟨⟨rfl,c.2⟩,rfl⟩⟩
   |_=>exact h.elim
  |sum=>
   cases x with
   |lst o ds=>
    obtain⟨a,vs,rfl,h2,h3,h4⟩:=rx;obtain⟨c,h⟩:=h.bH;obtain⟨i1,i2⟩:=xP h4 c;exact⟨false,vs,(Rd.seq h2).same' s,rfl,i1,by rw[i2];exact h.flat s ⟨rfl,rfl⟩⟩
   |_=>exact h.elim
  |sorted=>
   cases x with
   |lst o ds=>
    obtain⟨a,vs,rfl,h2,h3,h4⟩:=rx;have h:PV K F H ((R.opt (sd ds)).bind fun kss=>.bH (sortable kss) (.ok (.lst true (se kss ds)))) Q:=h;cases e:sd ds with
    |none=>rw[e]at h;exact h.elim
    |some kss=>
     rw[e]at h;obtain⟨c,h⟩:=PV.bH (show PV K F H (.bH (sortable kss) (.ok (.lst true (se kss ds)))) Q from h);obtain⟨k1,k2⟩:=GX h4 e;refine⟨vs,kss,Rd.same s h2,k2 s,c,fun p hp=>?_⟩;obtain⟨r1,r2⟩:=zV h4 (nI kss) fun i hi=>by rw[<-k1];exact xq _ _ i hi
     have:=(vH c).1;exact PV.lst (ds:=(nI kss).map fun i=>ds.getD i .non) (by rw[r2];exact h) s r1 (by rw[aC];unfold nI;rw[DB,cD];omega) hp
   |_=>exact h.elim
  |_=>exact h.elim
 |[x,y],r,h=>
  obtain⟨v,r',rfl,rx,u,r2,rfl,ry,e⟩:=r;cases e;cases x with
  |int i=>
   cases rx;cases y with
   |int j=>
    cases ry;cases f<;>first|exact h.elim|exact h.flat s ⟨rfl,rfl⟩
   |_=>exact h.elim
  |_=>exact h.elim
 |_::_::_::_,_,h=>exact h.elim
theorem Mf{Q:Bool->Prop}(s:aS F H)(rx:aP K F x v)(hn:i_ x=true)(q:Q (lX t x)):oX K t v H Q:=by
 cases x with
 |non=>cases rx;exact q
 |bl k=>cases rx;exact q
 |int i=>cases rx;exact q
 |str z=>obtain⟨rfl,hz⟩:=rx;exact q
 |lst o ds=>
  obtain⟨a,vs,rfl,h2,h3,h4⟩:=rx;exact .inl ⟨vs,Rd.same s h2,q⟩
 |tup ds=>
  obtain⟨a,vs,rfl,h2,h3,h4⟩:=rx;exact .inr (.inl ⟨vs,(tupS h2).same' s,q⟩)
 |cst ds=>
  obtain⟨a,vs,rfl,h2,h3,h4⟩:=rx;exact .inr (.inl ⟨vs,.inr h2,q⟩)
 |exc C ks ds=>cases hn
theorem GY(s:aS F H)(rx:aP K F x v)(h:tZ m x ds=.ok d):p6 m v H:=by cases h
theorem Mg[Ex](s:aS F H)(rx:aP K F x v)(r:aF K F ds vs)(h:PV K F H (tZ m x ds) Q):rO K m v vs H Q:=h.elim
end
variable{Q':List V->Hp->Prop}
variable{L:bA}{is:List Nat}
variable{E:XK}
variable{nl:List Str}{fr:List Nat}
section
variable{K:PySem.W.Frag}{Tv:List PG}{Y:List G}
theorem PV.bind[Ex]{r:R D}{f:D->R D}{Q':VK}(h:PV K F H (r.bind f) Q)(k:∀x F1 H1 v,bD F H F1 H1->aP K F1 x v->PV K F1 H1 (f x) Q->Q' v H1):PV K F H r Q':=by
 cases r with
 |ok x=>
  intro F1 H1 v fp g fr rx;obtain⟨F2,g2,s2,rf⟩:=J0 g fr rx;exact k x F2 H1 v g2 rf (PV.grow h g2)
 |ex x=>exact h
 |bad=>exact h.elim
theorem PB.jJ[Ex]{r:R D}{f:D->R α}{Q:α->Hp->Prop}{Q':VK}(h:PB K F H (r.bind f) Q)(k:∀x F1 H1 v,bD F H F1 H1->aP K F1 x v->PB K F1 H1 (f x) Q->Q' v H1):PV K F H r Q':=by
 cases r with
 |ok x=>
  intro F1 H1 v fp g fr rx;obtain⟨F2,g2,s2,rf⟩:=J0 g fr rx;exact k x F2 H1 v g2 rf (PB.grow h g2)
 |ex x=>exact h
 |bad=>exact h.elim
theorem PB.bindB[Ex]{r:R β}{f:β->R α}{Q:α->Hp->Prop}{Q':β->Hp->Prop}(h:PB K F H (r.bind f) Q)(k:∀x F1 H1,bD F H F1 H1->PB K F1 H1 (f x) Q->Q' x H1):PB K F H r Q':=by
 cases r with
 |ok x=>exact fun F1 H1 g=>k x F1 H1 g (PB.grow h g)
 |ex x=>exact h
 |bad=>exact h.elim
theorem PV.bindB[Ex]{r:R β}{f:β->R D}{Q':β->Hp->Prop}(h:PV K F H (r.bind f) Q)(k:∀x F1 H1,bD F H F1 H1->PV K F1 H1 (f x) Q->Q' x H1):PB K F H r Q':=by
 cases r with
 |ok x=>exact fun F1 H1 g=>k x F1 H1 g (PV.grow h g)
 |ex x=>exact h
 |bad=>exact h.elim
theorem t9.AU[Ex]{r:R (List D)}{f:List D->R D}(h:PV K F H (r.bind f) Q)(k:∀xs F1 H1 vs,bD F H F1 H1->aF K F1 xs vs->PV K F1 H1 (f xs) Q->Q' vs H1):t9 K F H r Q':=by
 cases r with
 |ok x=>
  intro F1 H1 v fp g fr rx;obtain⟨F2,g2,s2,rf⟩:=qf g fr rx;exact k x F2 H1 v g2 rf (PV.grow h g2)
 |ex x=>exact h
 |bad=>exact h.elim
theorem PB.PZ[Ex]{r:R (List D)}{f:List D->R α}{Q:α->Hp->Prop}(h:PB K F H (r.bind f) Q)(k:∀xs F1 H1 vs,bD F H F1 H1->aF K F1 xs vs->PB K F1 H1 (f xs) Q->Q' vs H1):t9 K F H r Q':=by
 cases r with
 |ok x=>
  intro F1 H1 v fp g fr rx;obtain⟨F2,g2,s2,rf⟩:=qf g fr rx;exact k x F2 H1 v g2 rf (PB.grow h g2)
 |ex x=>exact h
 |bad=>exact h.elim
theorem PV.P0[Ex](h:PV K F H (.ok (.lst true ds)) Q)(g:bD F H F1 H1)(fr:fH fp H F1)(r:aX K H1 F1 ds vs fp)(hl:vs.length<=ai)(hp:H1 p=none):Q (.ref p) (upd H1 p (.lst vs)):=by
 obtain⟨g2,hf⟩:=newList (vs:=vs) (o:=.lst vs) g.s hp;have np:p∉fp:=fun z=>by
  obtain⟨o,e,_⟩:=aX.ex ds vs fp r p z;rw[hp]at e;cases e
 refine h F1 _ (.ref p) (p::fp) (g.trans g2) ⟨b9.mpr ⟨np,fr.nd⟩,?_,?_⟩ ?_
 ·intro a ha;rcases aQ.mp ha with rfl|ha
  ·exact aS.none g.h hp
  ·exact fr.nh a ha
 ·intro a ha;rcases aQ.mp ha with rfl|ha
  ·exact hf
  ·exact fr.nf a ha
 ·unfold bM;rw[if_pos rfl];exact⟨p,vs,fp,rfl,bu,hl,aX.mono (aS.refl _) ds vs fp (fun a ha=>aK (fun z=>np (by rw[<-z];exact ha))) r,rfl⟩
theorem PV.SN[Ex](h:PV K F H (.ok (.tup ds)) Q)(g:bD F H F1 H1)(fr:fH fp H F1)(r:aX K H1 F1 ds vs fp)(hl:vs.length<=ai)(hp:H1 p=none):Q (.ref p) (upd H1 p (.tup vs)):=by
 have g2:=qZ (o:=.tup vs) g.s hp;have np:p∉fp:=fun z=>by
  obtain⟨o,e,_⟩:=aX.ex ds vs fp r p z;rw[hp]at e;cases e
 refine h _ _ (.ref p) fp (g.trans g2) ⟨fr.nd,fr.nh,fun a ha=>?_⟩ ?_
 ·rw[aK (fun z=>np (by rw[<-z];exact ha))];exact fr.nf a ha
 ·exact⟨p,vs,rfl,bu,hl,aX.mono g2.f ds vs fp (fun a ha=>aK (fun z=>np (by rw[<-z];exact ha))) r⟩
theorem GZ(z:Str):jU K F (xN z) ((chars z).map .v):=by
 unfold xN chars;have hs:=szl;induction z.cps.toList with
 |nil=>exact rfl
 |cons c r ih=>exact⟨_,_,rfl,⟨rfl,by show(1:Nat)<=_;omega⟩,ih⟩
theorem ua:∀{ds:List D}{vs:List V},aF K F ds vs->jU K F (aB ds) (vs.map .v)
|[],_,h=>by cases h;exact rfl
|d::ds,_,h=>by
 obtain⟨v,r,rfl,h2,h3⟩:=h;exact⟨_,_,rfl,(aP.bG d v).mpr h2,ua h3⟩
theorem yK:∀{ds es:List D}{vs us:List V},aF K F ds vs->aF K F es us->jU K F (mY (aB ds) (aB es)) (nJ vs us)
|[],_,_,_,h,h'=>by cases h;exact rfl
|d::ds,[],_,_,h,h'=>by
 obtain⟨v,r,rfl,h2,h3⟩:=h;cases h';exact rfl
|d::ds,e::es,_,_,h,h'=>by
 obtain⟨v,r,rfl,h2,h3⟩:=h;obtain⟨v',r',rfl,h2',h3'⟩:=h';have hs:=szl;exact⟨_,_,rfl,⟨_,rfl,⟨_,_,rfl,(aP.bG d v).mpr h2,_,_,rfl,(aP.bG e v').mpr h2',rfl⟩,by show(2:Nat)<=_;omega⟩,yK h3 h3'⟩
theorem wA:∀(ds es:List D),(mY ds es).length<=ds.length
|[],es=>by cases es<;>exact aT _
|d::ds,[]=>gO _
|d::ds,e::es=>Nat.succ_le_succ (wA ds es)
theorem BK:∀{ds:List D}{vs:List V} (n:Nat),aF K F ds vs->jU K F (jI n (aB ds)) (kQ n vs)
|[],_,n,h=>by cases h;exact rfl
|d::ds,_,n,h=>by
 obtain⟨v,r,rfl,h2,h3⟩:=h;have hs:=szl;exact⟨_,_,rfl,⟨_,rfl,⟨_,_,rfl,rfl,_,_,rfl,(aP.bG d v).mpr h2,rfl⟩,by show(2:Nat)<=_;omega⟩,BK (n+1) h3⟩
theorem zW(lo:Int)(n:Nat):jU K F (jS lo n) ((bq n).map fun(i:Nat)=>Item.v (.int (lo+(i:Int)))):=by
 unfold jS;induction bq n with
 |nil=>exact rfl
 |cons c r ih=>exact⟨_,_,rfl,rfl,ih⟩
theorem zX:∀(ds:List D) (n:Nat),(jI n ds).length=ds.length
|[],n=>rfl
|d::r,n=>by show(jI (n+1) r).length+1=_;rw[zX r];rfl
theorem jU.mono(e:aS F F'):∀{ds:List D}{its:List Item},jU K F ds its->jU K F' ds its
|[],_,h=>h
|d::ds,_,h=>by
 obtain⟨it,r,h1,h2,h3⟩:=h;refine⟨it,r,h1,?_,jU.mono e h3⟩;cases it with
 |v x=>exact aP.mono e d x h2
 |tup xs=>obtain⟨es,q1,q2,q3⟩:=h2;exact⟨es,q1,aF.mono e es xs q2,q3⟩
theorem zY{it:Item}{k:V->Hp->Prop}(s:aS F H)(r:PU K F d it)(h:∀F1 H1 v,bD F H F1 H1->aP K F1 d v->k v H1):mkItem it H k:=by
 cases it with
 |v x=>exact h F H x (bD.refl s) r
 |tup xs=>
  obtain⟨ds,rfl,r2,r3⟩:=r;intro p hp;have g:=qZ (o:=.tup xs) s hp;exact h _ _ _ g ⟨p,xs,rfl,bu,r3,aF.mono g.f ds xs r2⟩
def kI(K:PySem.W.Frag)(F:Hp)(L:bA)(O:L2.St):Prop:=∀(i:Nat) d,L[i]?=some (some d)->∃v,O[i]?=some (some v)/\aP K F d v
theorem kI.env{O:L2.St}(h:kI K F L O)(s:aS F H):ig K F H is L O:=⟨fun i _ d e=>h i d e,fun k d e=>let⟨v,h1,h2⟩:=h k d e;⟨v,F,h1,s,h2⟩⟩
theorem kI.mono{O:L2.St}(h:kI K F L O)(e:aS F F'):kI K F' L O:=fun i d q=>by
 obtain⟨v,h1,h2⟩:=h i d q;exact⟨v,h1,aP.mono e d v h2⟩
theorem kI.set{O:L2.St}{i:Nat}(h:kI K F L O)(hl:L.length=O.length)(r:aP K F d v):kI K F (L.set i (some d)) (O.set i (some v)):=fun j e q=>by
 by_cases hij:i=j
 ·subst hij;rw[dm]at q;by_cases hi:i<L.length
  ·simp[hi]at q;subst q;exact⟨v,by rw[dm];simp[<-hl,hi],r⟩
  ·simp[hi]at q
 ·rw[ck hij]at q;obtain⟨w,h1,h2⟩:=h j e q;exact⟨w,by rw[ck hij];exact h1,h2⟩
mutual
theorem R1:∀(g:CG) {d:D}{v:V}{L TM:bA}{O:L2.St}{F H:Hp}{Q:L2.St->Hp->Prop},kI K F L O->L.length=O.length->aS F H->aP K F d v->pG g d L=.ok TM->(∀TF,kI K F TM TF->TM.length=TF.length->Q TF H)->wG K Y E g v O H Q
|.name i,d,v,L,TM,O,F,H,Q,a,hl,s,r,e,h=>by
 cases e;exact h _ (a.set hl r) (by simp[hl])
|.tup gs,d,v,L,TM,O,F,H,Q,a,hl,s,r,e,h=>by
 cases d with
 |tup ds=>
  obtain⟨b,vs,rfl,h2,h3,h4⟩:=r;obtain⟨c,e⟩:=gW e;exact⟨true,vs,(tupS h2).same' s,rfl,by rw[h4.len];exact of_decide_eq_true c,P_ gs a hl s h4 e h⟩
 |_=>cases e
|.sub _ _,d,v,L,TM,O,F,H,Q,a,hl,s,r,e,h=>by cases e
theorem P_:∀(g:ny) {ds:List D}{vs:List V}{L TM:bA}{O:L2.St}{F H:Hp}{Q:L2.St->Hp->Prop},kI K F L O->L.length=O.length->aS F H->aF K F ds vs->sO g ds L=.ok TM->(∀TF,kI K F TM TF->TM.length=TF.length->Q TF H)->DE K Y E g vs O H Q
|.nil,ds,vs,L,TM,O,F,H,Q,a,hl,s,r,e,h=>by
 cases ds with
 |nil=>cases r;cases e;exact h O a hl
 |cons d dr=>cases e
|.cons g gr,ds,vs,L,TM,O,F,H,Q,a,hl,s,r,e,h=>by
 cases ds with
 |nil=>cases e
 |cons d dr=>
  obtain⟨v,vr,rfl,r1,r2⟩:=r;obtain⟨TH,e1,e2⟩:=bZ e;exact R1 g a hl s r1 e1 fun TF a' hl'=>P_ gr a' hl' s r2 e2 h
end
theorem G0{O:L2.St}(h:ig K F H fr L O):kI K F (nl.map (fun _=>none)++fr.map (fun i=>L.getD i none)) (nl.map (fun _=>none)++fr.map (fun i=>O.getD i none)):=by
 intro i d e;by_cases hi:i<nl.length
 ·rw[bW (by simpa using hi)]at e;rw[aU]at e;cases q:nl[i]? with
  |none=>rw[q]at e;cases e
  |some x=>rw[q]at e;cases e
 ·rw[cG (by simpa using hi)]at e ⊢;simp only[aC,aU]at e ⊢;cases q:fr[i-nl.length]? with
  |none=>rw[q]at e;cases e
  |some j=>
   rw[q]at e;have e:L.getD j none=some d:=by simpa using e
   have e':L[j]?=some (some d):=by
    rw[aH]at e;cases z:L[j]? with
    |none=>rw[z]at e;cases e
    |some o=>rw[z]at e;simp at e;rw[e]
   obtain⟨v,h1,h2⟩:=h.e j (eG q) d e';refine⟨v,?_,h2⟩;simp[aH,h1]
theorem G1{O:L2.St}:(nl.map (fun _=>(none:Option D))++fr.map (fun i=>L.getD i none)).length=(nl.map (fun _=>(none:Option V))++fr.map (fun i=>O.getD i none)).length:=by simp
theorem BL[Ex]{E:XK}{tg:CG}{cond:CO}{elt:CE}{k:List V->Hp->Prop}
 (hc:∀{L:bA}{O:L2.St}{F H:Hp}{Q:Bool->Hp->Prop},kI K F L O->aS F H->PB K F H (pC Tv cond L) Q->wC K Y E cond O H Q)
 (he:∀{L:bA}{O:L2.St}{F H:Hp}{Q:VK},kI K F L O->aS F H->PV K F H (pE Tv elt L) Q->wE K Y E elt O H Q) (ok:Hp->Prop) (H0:Hp) (F0:Hp) :
 ∀(ds:List D) (its:List Item) (acc:List D) (vacc:List V) (fp:List Addr) (L:bA) (O:L2.St) (F H:Hp),kI K F L O->L.length=O.length->bD F0 H0 F H->jU K F ds its->(∀H'',aS F H''->ok H'')->acc.length+ds.length<=ai->
  aX K H F acc vacc fp->fH fp H0 F->
  (∀ys,fG (pG tg) (pC Tv cond) (pE Tv elt) ds L=.ok ys->∀F' H' vs fp',bD F0 H0 F' H'->aX K H' F' (acc++ys) vs fp'->fH fp' H0 F'->k vs H')->(∃ys,fG (pG tg) (pC Tv cond) (pE Tv elt) ds L=.ok ys)->
  m_ ok (wG K Y E tg) (wC K Y E cond) (wE K Y E elt) k its vacc O H
|[],its,acc,vacc,fp,L,O,F,H,a,hl,g,hi,hok,hz,ra,fr,hk,hy=>by
 cases hi;refine⟨hok H g.s,hk [] rfl F H vacc fp g (by rw[dM];exact ra) fr⟩
|d::ds,its,acc,vacc,fp,L,O,F,H,a,hl,g,hi,hok,hz,ra,fr,hk,hy=>by
 obtain⟨it,r,rfl,i1,i2⟩:=hi;obtain⟨ys,ey⟩:=hy;obtain⟨TH,e1,e2⟩:=bZ ey;obtain⟨b,e3,e4⟩:=bZ e2;simp only[bP]at hz;refine⟨hok H g.s,by rw[ra.len];omega,zY g.s i1 fun F1 H1 v g1 r1=>?_⟩;have fresh1:∀{F' H':Hp},bD F H F' H'->aX K H' F' acc vacc fp/\fH fp H0 F':=fun g'=>by
  obtain⟨c1,c2⟩:=PR g' fr ra;exact⟨c1,fr.nd,fr.nh,c2⟩
 refine R1 tg (a.mono g1.f) hl g1.s r1 e1 fun TF a' hl'=>?_;refine hc a' g1.s ?_;rw[e3];intro F2 H2 g2;have g12:=g1.trans g2;have hok2:∀{F' H':Hp},bD F H F' H'->∀H'',aS F' H''->ok H'':=fun g' H'' s''=>hok H'' (g'.f.trans s'');cases b with
 |false=>
  rw[if_neg aE];have e4:fG (pG tg) (pC Tv cond) (pE Tv elt) ds TH=.ok ys:=e4;obtain⟨c1,c2⟩:=fresh1 g12;refine BL hc he ok H0 F0 ds r acc vacc fp TH TF F2 H2 (a'.mono g2.f) hl' (g.trans g12) (jU.mono g12.f i2) (hok2 g12) (by omega) c1 c2 (fun zs ez=>?_) ⟨ys,e4⟩;refine hk zs ?_;simp only[fG,e1,R.bind,e3,jZ,if_false];exact ez
 |true=>
  rw[if_pos rfl];have e4:((pE Tv elt TH).bind fun y=>(fG (pG tg) (pC Tv cond) (pE Tv elt) ds TH).bind fun ys=>.ok (y::ys))=.ok ys:=e4;obtain⟨y,e5,e6⟩:=bZ e4;obtain⟨zs,e7,e8⟩:=bZ e6;refine he (a'.mono g2.f) g2.s ?_;rw[e5];intro F3 H3 w f3 g3 fr3 r3;have g123:=g12.trans g3;obtain⟨c1,c2⟩:=fresh1 g123;have hx:∀a∈fp,∃o,H a=some o:=fun a ha=>by
   obtain⟨o,e,_⟩:=aX.ex acc vacc fp ra a ha;exact⟨o,e⟩
  have fr':fH (fp++f3) H0 F3:=fH.app (H1:=H) g.h fr hx c2.nf ⟨fr3.nd,fun a ha=>aS.none g12.h (fr3.nh a ha),fr3.nf⟩;refine BL hc he ok H0 F0 ds r (acc++[y]) (vacc++[w]) (fp++f3) TH TF F3 H3 (a'.mono (g2.f.trans g3.f)) hl' (g.trans g123) (jU.mono g123.f i2) (hok2 g123) (by simp;omega) (aX.app c1 (aX.one r3)) fr' (fun zs' ez=>?_) ⟨zs,e7⟩;rw[cJ];refine hk (y::zs') ?_;simp only[fG,e1,R.bind,e3,e5,ez,if_true]
end
variable{k:(Hp->Prop)->List Item->Hp->Prop}
variable{g:Nat}
variable{as:i0}
section
variable{K:PySem.W.Frag}{Tv:List PG}{Y:List G}
mutual
theorem DR:∀d:D,bG (bG d)=bG d
|.non=>rfl
|.bl _=>rfl
|.int _=>rfl
|.str _=>rfl
|.lst o xs=>by show D.lst false (aB (aB xs))=_;rw[ef xs];rfl
|.tup xs=>by show D.tup (aB (aB xs))=_;rw[ef xs];rfl
|.cst xs=>by show D.cst (aB (aB xs))=_;rw[ef xs];rfl
|.exc C ks xs=>by show D.exc C ks (aB (aB xs))=_;rw[ef xs];rfl
theorem ef:∀ds:List D,aB (aB ds)=aB ds
|[]=>rfl
|d::r=>by show bG (bG d)::aB (aB r)=_;rw[DR d,ef r];rfl
end
theorem PV.isOk[Ex]{r:R D}(h:PV K F H r Q)(n:r.bf):∃d,r=.ok d:=h.some n
theorem PI'.isOk[Ex]{r:R (Bool×List D)}(h:PI' K A F H r k)(n:r.bf):∃d,r=.ok d:=by
 cases r with
 |ok d=>exact⟨d,rfl⟩
 |ex x=>exact absurd rfl (n x)
 |bad=>exact h.elim
theorem PB.isOk[Ex]{r:R α}{Q:α->Hp->Prop}(h:PB K F H r Q)(n:r.bf):∃d,r=.ok d:=by
 cases r with
 |ok d=>exact⟨d,rfl⟩
 |ex x=>exact absurd rfl (n x)
 |bad=>exact h.elim
theorem yL{r:R α}{a:α}(h:r.d8=.ok a):r=.ok a:=by
 cases r with
 |ok b=>exact h
 |ex x=>cases h
 |bad=>cases h
theorem xQ(Tw:bV K Tv Y){c:Option Addr}:∀(gs:List Nat) {b:Bool},yG Tv gs c=some b->qG Y gs c=some b
|[],b,h=>h
|g::gs,b,h=>by
 unfold yG at h;unfold qG;cases q:Tv[g]? with
 |none=>rw[q]at h;cases h
 |some p=>
  obtain⟨g',e1,e2⟩:=Tw.get g q;rw[q]at h;rw[e1];cases p<;>first|cases h|skip
  cases g'<;>first|exact e2.elim|skip
  obtain⟨rfl,rfl⟩:=e2;cases c with
  |none=>exact xQ Tw gs h
  |some C=>
   dsimp only at h ⊢;split at h
   ·rename_i hC;rw[if_pos hC];split at h
    ·rename_i hD;rw[if_pos hD];exact h
    ·rename_i hD;rw[if_neg hD];exact xQ Tw gs h
   ·cases h
theorem DS(Tw:bV K Tv Y):∀(gs:List Nat),JZ Tv gs=true->∃Ds,uX Y gs Ds
|[],_=>⟨[],rfl⟩
|g::gs,h=>by
 unfold JZ at h;rw[nU]at h;obtain⟨h1,h2⟩:=sN.mp h;obtain⟨Ds,hD⟩:=DS Tw gs h2;cases q:Tv[g]? with
 |none=>rw[q]at h1;cases h1
 |some p=>
  obtain⟨g',e1,e2⟩:=Tw.get g q;rw[q]at h1;cases p<;>first|cases h1|skip
  cases g'<;>first|exact e2.elim|skip
  rename_i D Cs _ _;obtain⟨rfl,rfl⟩:=e2;exact⟨_,_,_,_,rfl,e1,hD⟩
theorem BO(Tv:List PG)(gs:List Nat)(x:D):(t7 Tv gs x).bf:=by unfold t7;(repeat' (first|exact bf.ok|exact bf.bad|exact bf.opt|exact bf.d8 _|refine bf.bH ?_|(refine bf.bind ?_ fun _=>?_)|split))
theorem BP(Tv:List PG)(g:Nat)(x:D):(t8 Tv g x).bf:=by unfold t8;(repeat' (first|exact bf.ok|exact bf.bad|exact bf.opt|exact bf.d8 _|refine bf.bH ?_|(refine bf.bind ?_ fun _=>?_)|split))
theorem J_(Tv:List PG)(g:Nat)(f:Str)(x:D):(yH Tv g f x).bf:=by unfold yH;(repeat' (first|exact bf.ok|exact bf.bad|exact bf.opt|exact bf.d8 _|refine bf.bH ?_|(refine bf.bind ?_ fun _=>?_)|split))
theorem Mh(Tw:bV K Tv Y){gs:List Nat}{Q:Bool->Prop}(s:aS F H)(r:aP K F x v)(e:t7 Tv gs x=.ok b)(q:Q b):Br Y gs v H Q:=by
 unfold t7 at e;obtain⟨c,e⟩:=gW e;simp only[bx,decide_eq_true_eq]at c;obtain⟨⟨c1,c2⟩,c3⟩:=c;refine⟨(fun z=>by subst z;cases c1),c2,DS Tw gs c3,?_⟩;cases x<;>first|cases e|skip
 ·cases r;exact⟨b,xQ Tw gs (nB e),q⟩
 ·obtain⟨a,d,vs,rfl,h2,h3,h4⟩:=r;exact⟨false,_,d,_,s _ _ h2,s _ _ h3,b,xQ Tw gs (nB e),q⟩
theorem Mi(Tw:bV K Tv Y){Q:Bool->Prop}(s:aS F H)(r:aP K F x v)(e:t8 Tv g x=.ok b)(q:Q b):yw Y g v H Q:=by
 unfold t8 at e;unfold yw;cases z:Tv[g]? with
 |none=>rw[z]at e;cases e
 |some p=>
  obtain⟨g',e1,e2⟩:=Tw.get g z;rw[z]at e;rw[e1];cases p<;>first|cases e|skip
  cases g'<;>first|exact e2.elim|skip
  obtain⟨rfl,rfl⟩:=e2;cases x<;>first|cases e|skip
  ·cases r;exact q
  ·obtain⟨a,d,vs,rfl,h2,h3,h4⟩:=r;obtain⟨c,e⟩:=gW e;cases e;exact⟨false,_,d,_,s _ _ h2,s _ _ h3,of_decide_eq_true c,q⟩
theorem DT{f:Str}:∀{ks:List Str}{ds:List D}{vs:List V},aF K F ds vs->EY ks ds f=some d->∃v,(ks.zip vs).lookup f=some v/\aP K F d v
|[],_,_,_,e=>by cases e
|k::ks,[],_,_,e=>by cases e
|k::ks,x::ds,_,h,e=>by
 obtain⟨v,r,rfl,h2,h3⟩:=h;unfold EY at e;rw[List.zip_cons_cons,b_];by_cases z:f=k
 ·rw[if_pos z]at e;cases e;rw[show(f==k)=true from by simp[z]];exact⟨v,rfl,h2⟩
 ·rw[if_neg z]at e;rw[show(f==k)=false from by simp[z]];exact DT h3 e
theorem Rv[Ex](Tw:bV K Tv Y){f:Str}(s:aS F H)(r:aP K F x v)(h:PV K F H (yH Tv g f x) Q):Bs Y g f v H Q:=by
 obtain⟨y,e⟩:=h.isOk (J_ Tv g f x);rw[e]at h;unfold yH at e;unfold Bs;cases z:Tv[g]? with
 |none=>rw[z]at e;cases e
 |some p=>
  obtain⟨g',e1,e2⟩:=Tw.get g z;rw[z]at e;rw[e1];cases p<;>first|cases e|skip
  ·cases g'<;>first|exact e2.elim|skip
   obtain⟨rfl,rfl⟩:=e2;cases x<;>first|cases e|skip
   obtain⟨a,d,vs,rfl,h2,h3,h4⟩:=r;obtain⟨c,e⟩:=gW e;obtain⟨y',e3,e4⟩:=bZ e;cases e4;obtain⟨w,k1,k2⟩:=DT h4 (nB e3);simp only[bx,decide_eq_true_eq]at c;exact⟨false,_,d,_,s _ _ h2,s _ _ h3,c,w,k1,h.here s k2⟩
theorem PB.Mj[Ex]{r:R D}{Q:Bool->Hp->Prop}(h:PB K F H (r.bind iN) Q):PV K F H r (fun x H1=>ic K x H1 fun b=>Q b H1):=by
 refine h.jJ fun x F1 H1 v g r hb=>?_;obtain⟨b,e⟩:=hb.isOk (sf x);rw[e]at hb;exact E1 g.s r e (hb F1 H1 (bD.refl g.s))
theorem qg(F:Hp):aS (fun _=>none) F:=fun b o h=>by cases h
theorem Ka(r:aP K F x v)(h:qI x=.ok ds):ds.length<=ai:=by
 cases x with
 |str z=>cases h;unfold xN;rw[aC,yJ];exact r.2
 |lst o xs=>cases h;obtain⟨a,vs,_,_,h3,h4⟩:=r;rw[gv,<-h4.len];exact h3
 |tup xs=>cases h;obtain⟨a,vs,_,_,h3,h4⟩:=r;rw[gv,<-h4.len];exact h3
 |_=>cases h
theorem Rw{G:Hp}(s:aS G H)(r:aP K G x v)(e:qI x=.ok ds)(h:∀ok its,(∀H'',aS G H''->ok H'')->jU K G ds its->ds.length<=ai->k ok its H):yu K v H k:=by
 have hl:=Ka r e;cases x with
 |str z=>cases e;obtain⟨rfl,hz⟩:=r;exact⟨hz,h _ _ (fun _ _=>trivial) (GZ z) hl⟩
 |lst o xs=>
  cases e;obtain⟨a,vs,rfl,h2,h3,h4⟩:=r;exact⟨false,vs,(Rd.seq h2).same' s,h _ _ (fun _ s'=>(Rd.seq h2).same' s') (ua h4) hl⟩
 |tup xs=>
  cases e;obtain⟨a,vs,rfl,h2,h3,h4⟩:=r;exact⟨true,vs,(tupS h2).same' s,h _ _ (fun _ s'=>(tupS h2).same' s') (ua h4) hl⟩
 |_=>cases e
theorem Rx{is:List D}(r:aF K F ds vs)(e:lB ds=.ok is)(h:∀its,(∀G,jU K G is its)->is.length<=ai->k (fun _=>True) its H):tV vs H k:=by
 have hs:=szl
 match ds,r,e with
 |[x],r,e=>
  obtain⟨v,r',rfl,rx,er⟩:=r;cases er;cases x with
  |int j=>
   cases rx;obtain⟨c,e2⟩:=gW e;cases e2;have c:=of_decide_eq_true c;refine⟨⟨c.1,by omega⟩,h _ (fun G=>?_) (by unfold jS;rw[aC,n9];exact c.2)⟩;have q:=zW (K:=K) (F:=G) 0 j.toNat;simpa using q
  |_=>cases e
 |[x,y],r,e=>
  obtain⟨v,r',rfl,rx,u,r2,rfl,ry,er⟩:=r;cases er;cases x with
  |int i=>
   cases rx;cases y with
   |int j=>
    cases ry;obtain⟨c,e2⟩:=gW e;cases e2;have c:=of_decide_eq_true c;exact⟨⟨c.1,c.2.1,c.2.2.1,c.2.2.2.1⟩,h _ (fun G=>zW i _) (by unfold jS;rw[aC,n9];exact c.2.2.2.2)⟩
   |_=>cases e
  |_=>cases e
 |[],_,e=>cases e
 |_::_::_::_,_,e=>
  unfold lB at e;split at e<;>first|(cases e)|(rename_i z;cases z)
theorem band'{a:Bool}(h:(a&&b)=true):a=true/\b=true:=by simpa using h
theorem Qa{O:L2.St}(n:J2 K H L O):∀(ps:List (Str×Nat)) (a y:Str),GP L ps a=some y->LW O ps a=some y
|[],a,y,h=>h
|p::r,a,y,h=>by
 have h:(match L[p.2]? with
  |some (some d)=>(yI d).bind fun y=>GP L r (a++p.1++y)
  |_=>none)=some y:=h
 show(match O[p.2]? with
  |some (some v)=>(EG v).bind fun y=>LW O r (a++p.1++y)
  |_=>none)=some y
 cases q:L[p.2]? with
 |none=>rw[q]at h;cases h
 |some o=>
  cases o with
  |none=>rw[q]at h;cases h
  |some d=>
   rw[q]at h;obtain⟨v,F',h1,_,h2⟩:=n p.2 d q;rw[h1];have e:∀z,yI d=some z->EG v=some z:=fun z hz=>by
    cases d<;>first|cases hz|skip
    ·cases h2;exact hz
    ·obtain⟨rfl,_⟩:=h2;rfl
   cases c:yI d with
   |none=>have h:(yI d).bind (fun y=>GP L r (a++p.1++y))=some y:=h;rw[c]at h;cases h
   |some z=>
    have h:(yI d).bind (fun y=>GP L r (a++p.1++y))=some y:=h;rw[c]at h;show(EG v).bind (fun y=>LW O r (a++p.1++y))=some y;rw[e z c];exact Qa n r _ y h
theorem Ry[Ex](h:PV K F H (iO .len [x]) Q)(s:aS F H):PV K F' H (iO .len [x]) Q:=by
 cases x<;>first|exact PV.int h s|exact h.elim
theorem Mk[Ex]{f:Bf}{O:L2.St}(n:J2 K H L O)(s:aS F H)(hl:qC f as=true)(h:PV K F H ((dz Tv as L).bind fun ds=>iO f ds) Q):wEs K Y Ex.E as O H fun vs H1=>qF K f vs H1 Q:=by
 unfold qC at hl;split at hl
 ·rename_i k;have h:PV K F H (((match L[k]? with
   |some (some d)=>R.ok (bG d)
   |_=>.bad).bind fun x=>(R.ok []).bind fun xs=>.ok (x::xs)).bind fun ds=>iO .len ds) Q:=h
  show j9 O k fun v=>qF K .len [v] H Q;unfold j9;cases q:L[k]? with
  |none=>rw[q]at h;exact h.elim
  |some o=>
   cases o with
   |none=>rw[q]at h;exact h.elim
   |some d=>
    rw[q]at h;obtain⟨v,F',h1,h2,h3⟩:=n k d q;rw[h1];exact E2 h2 (show aF K F' [bG d] [v]from⟨v,[],rfl,(aP.bG d v).mpr h3,rfl⟩) (Ry (show PV K F H (iO .len [bG d]) Q from h) s)
 ·cases hl
theorem G2(Tw:bV K Tv Y)[Ex]{O:L2.St}(hE:∀QA:List V->Hp->Prop,t9 K F H (dz Tv as L) QA->wEs K Y Ex.E as O H QA)(h:PV K F H (pE Tv (.call g as) L) Q):wE K Y Ex.E (.call g as) O H Q:=by
 have h:PV K F H (match Tv[g]? with
  |some (.fn m dds)=>(dz Tv as L).bind fun ds=>m (aB ds++dds)
  |_=>.bad) Q:=h
 show(match Y[g]? with
  |some (.fn sp dvs)=>wEs K Y Ex.E as O H fun vs H1=>sp (vs++dvs) H1 Q Ex.E
  |_=>False)
 cases q:Tv[g]? with
 |none=>rw[q]at h;exact h.elim
 |some p=>
  obtain⟨g',e1,e2⟩:=Tw.get g q;rw[q]at h;rw[e1];cases p<;>first|exact h.elim|skip
  ·rename_i m dds;cases g'<;>first|exact e2.elim|skip
   ·rename_i sp dvs;refine hE _ (t9.AU (show PV K F H ((dz Tv as L).bind fun ds=>m (aB ds++dds)) Q from h) fun ds F1 H1 vs g1 r1 h1=>?_);exact e2.1 _ _ _ _ ⟨F1,aB ds++dds,g1.s,by rw[lD,ef,e2.2.1],aF.app ((aF.aB ds vs).mpr r1) (aF.mono (qg F1) dds dvs e2.2.2),h1⟩
mutual
theorem eL(Tw:bV K Tv Y)[Ex]:∀(e:CE) {L:bA}{O:L2.St}{F H:Hp}{Q:VK},ig K F H (cA e) L O->aS F H->cT e=true->PV K F H (pE Tv e L) Q->wE K Y Ex.E e O H Q
|.var i,L,O,F,H,Q,env,s,lt,h=>by
 have h:PV K F H (match L[i]? with
  |some (some d)=>.ok (bG d)
  |_=>.bad) Q:=h
 show j9 O i fun v=>Q v H;unfold j9;cases q:L[i]? with
 |none=>rw[q]at h;exact h.elim
 |some o=>
  cases o with
  |none=>rw[q]at h;exact h.elim
  |some d=>
   rw[q]at h;obtain⟨v,h1,h2⟩:=env.e i (bR.mpr rfl) d q;rw[h1];exact h.here s h2
|.con v,L,O,F,H,Q,env,s,lt,h=>by
 have h:PV K F H (t6 v) Q:=h;show Q v H;unfold t6 at h;cases v<;>first|exact h.elim|exact h.flat s ⟨rfl,rfl⟩|exact h.flat s ⟨⟨rfl,of_decide_eq_true lt⟩,rfl⟩
|.glo g,L,O,F,H,Q,env,s,lt,h=>by
 have h:PV K F H (match Tv[g]? with
  |some (.val d)=>.ok (bG d)
  |_=>.bad) Q:=h
 show(match Y[g]? with
  |some (.val v)=>Q v H
  |some (.tup a _)=>Q (.ref a) H
  |_=>False)
 cases q:Tv[g]? with
 |none=>rw[q]at h;exact h.elim
 |some p=>
  obtain⟨g',e1,e2⟩:=Tw.get g q;rw[q]at h;rw[e1];cases p with
  |val d=>
   cases g' with
   |val v=>exact h.here s (aP.mono (qg F) d v e2)
   |tup a xs=>exact h.here s (aP.mono (qg F) d _ e2)
   |_=>exact e2.elim
  |_=>exact h.elim
|.bin op a b,L,O,F,H,Q,env,s,lt,h=>by
 obtain⟨l1,l2⟩:=band' lt;refine eL Tw a env.l s l1 (PV.bind (show PV K F H ((pE Tv a L).bind fun x=>(pE Tv b L).bind fun y=>pe op x y) Q from h) fun x F1 H1 v g1 r1 h1=>?_);refine eL Tw b (env.r.mono g1) g1.s l2 (h1.bind fun y F2 H2 u g2 r2 h2=>?_);exact Ru g2.s (aP.mono g2.f x v r1) r2 h2
|.neg a,L,O,F,H,Q,env,s,lt,h=>by
 refine eL Tw a env s lt (PV.bind (show PV K F H ((pE Tv a L).bind fun x=>match x with|.int i=>.ok (.int (-i))|_=>.bad) Q from h) fun x F1 H1 v g1 r1 h1=>?_);cases x with
 |int i=>cases r1;exact h1.flat g1.s ⟨rfl,rfl⟩
 |_=>exact h1.elim
|.not a,L,O,F,H,Q,env,s,lt,h=>by
 refine eL Tw a env s lt (PV.bind (show PV K F H ((pE Tv a L).bind fun x=>(iN x).bind fun b=>.ok (.bl (!b))) Q from h) fun x F1 H1 v g1 r1 h1=>?_);obtain⟨d,e⟩:=h1.isOk (bf.bind (sf x) fun _=>bf.ok);obtain⟨b,e1,e2⟩:=bZ e;rw[e1]at h1;exact E1 g1.s r1 e1 (h1.flat g1.s ⟨rfl,rfl⟩)
|.and a b,L,O,F,H,Q,env,s,lt,h=>by
 obtain⟨l1,l2⟩:=band' lt;refine eL Tw a env.l s l1 (PV.bind (show PV K F H ((pE Tv a L).bind fun x=>match x with|.bl c=>if c=true then pE Tv b L else .ok (.bl false)|_=>.bad) Q from h) fun x F1 H1 v g1 r1 h1=>?_);cases x with
 |bl c=>
  cases r1;cases c with
  |true=>exact eL Tw b (env.r.mono g1) g1.s l2 h1
  |false=>exact h1.flat g1.s ⟨rfl,rfl⟩
 |_=>exact h1.elim
|.or a b,L,O,F,H,Q,env,s,lt,h=>by
 obtain⟨l1,l2⟩:=band' lt;refine eL Tw a env.l s l1 (PV.bind (show PV K F H ((pE Tv a L).bind fun x=>match x with|.bl c=>if c=true then .ok (.bl true)else pE Tv b L|_=>.bad) Q from h) fun x F1 H1 v g1 r1 h1=>?_);cases x with
 |bl c=>
  cases r1;cases c with
  |false=>exact eL Tw b (env.r.mono g1) g1.s l2 h1
  |true=>exact h1.flat g1.s ⟨rfl,rfl⟩
 |_=>exact h1.elim
|.ite c a b,L,O,F,H,Q,env,s,lt,h=>by
 obtain⟨l1,l2⟩:=band' lt;obtain⟨l2,l3⟩:=band' l2;refine sQ Tw c env.l s l1 (PV.bindB (K:=K) (show PV K F H ((pT Tv c L).bind fun k=>if k=true then pE Tv a L else pE Tv b L) Q from h) fun k F1 H1 g1 h1=>?_);cases k with
 |true=>exact eL Tw a (env.r.l.mono g1) g1.s l2 h1
 |false=>exact eL Tw b (env.r.r.mono g1) g1.s l3 h1
|.cmp op a b,L,O,F,H,Q,env,s,lt,h=>by
 obtain⟨l1,l2⟩:=band' lt;refine eL Tw a env.l s l1 (PV.bind (show PV K F H ((pE Tv a L).bind fun x=>(pE Tv b L).bind fun y=>eZ op x y) Q from h) fun x F1 H1 v g1 r1 h1=>?_);refine eL Tw b (env.r.mono g1) g1.s l2 (h1.bind fun y F2 H2 u g2 r2 h2=>?_);exact u5 g2.s (aP.mono g2.f x v r1) r2 h2
|.chain o1 o2 a b c,L,O,F,H,Q,env,s,lt,h=>by
 obtain⟨l1,l2⟩:=band' lt;obtain⟨l2,l3⟩:=band' l2;refine eL Tw a env.l s l1 (PV.bind (show PV K F H ((pE Tv a L).bind fun x=>(pE Tv b L).bind fun y=>(eZ o1 x y).bind fun z=>match z with|.bl k=>if k=true then(pE Tv c L).bind fun u=>eZ o2 y u else .ok (.bl false)|_=>.bad) Q from h) fun x F1 H1 v g1 r1 h1=>?_);refine eL Tw b (env.r.l.mono g1) g1.s l2 (h1.bind fun y F2 H2 u g2 r2 h2=>?_);refine u5 g2.s (aP.mono g2.f x v r1) r2 (h2.bind fun z F3 H3 w g3 r3 h3=>?_);cases z with
 |bl k=>
  cases r3;cases k with
  |true=>exact eL Tw c (env.r.r.mono (g1.trans (g2.trans g3))) g3.s l3 (PV.bind (show PV K F3 H3 ((pE Tv c L).bind fun u=>eZ o2 y u) Q from h3) fun z F4 H4 w g4 r4 h4=>u5 g4.s (aP.mono (g3.f.trans g4.f) y u r2) r4 h4)
  |false=>exact h3.flat g3.s ⟨rfl,rfl⟩
 |_=>exact h3.elim
|.call g as,L,O,F,H,Q,env,s,lt,h=>G2 Tw (fun _ h=>kJ Tw as env s lt h) h
|.blt f as,L,O,F,H,Q,env,s,lt,h=>by
 by_cases hl:qC f as=true
 ·exact Mk env.n s hl h
 have env:ig K F H (ja as) L O:=by
  have e:ig K F H (if qC f as=true then[]else ja as) L O:=env;rw[if_neg hl]at e;exact e
 refine kJ Tw as env s lt (t9.AU (show PV K F H ((dz Tv as L).bind fun ds=>iO f ds) Q from h) fun ds F1 H1 vs g1 r1 h1=>E2 g1.s r1 h1)
|.isi a t,L,O,F,H,Q,env,s,lt,h=>by
 refine eL Tw a env s lt (PV.bind (show PV K F H ((pE Tv a L).bind fun x=>.bH (i_ x) (.ok (.bl (lX t x)))) Q from h) fun x F1 H1 v g1 r1 h1=>?_);obtain⟨hn,h1⟩:=h1.bH;exact Mf g1.s r1 hn (h1.flat g1.s ⟨rfl,rfl⟩)
|.mth m o as,L,O,F,H,Q,env,s,lt,h=>by
 obtain⟨l1,l2⟩:=band' lt;refine eL Tw o env.l s l1 (PV.bind (show PV K F H ((pE Tv o L).bind fun x=>(dz Tv as L).d8.bind fun ds=>tZ m x ds) Q from h) fun x F1 H1 v g1 r1 h1=>?_);obtain⟨d,e⟩:=h1.isOk (bf.bind (bf.d8 _) fun _=>sj _ _ _);obtain⟨ds,e1,e2⟩:=bZ e;have e1':=yL e1;rw[e1,<-e1']at h1;refine⟨GY g1.s r1 e2,kJ Tw as (env.r.mono g1) g1.s l2 (t9.AU h1 fun ds F2 H2 vs g2 r2 h2=>?_)⟩;exact Mg g2.s (aP.mono g2.f x v r1) r2 h2
|.ix a b,L,O,F,H,Q,env,s,lt,h=>by
 obtain⟨l1,l2⟩:=band' lt;refine eL Tw a env.l s l1 (PV.bind (show PV K F H ((pE Tv a L).bind fun x=>(pE Tv b L).bind fun y=>vK x y) Q from h) fun x F1 H1 v g1 r1 h1=>?_);refine eL Tw b (env.r.mono g1) g1.s l2 (h1.bind fun y F2 H2 u g2 r2 h2=>?_);exact PY g2.s (aP.mono g2.f x v r1) r2 h2
|.sl a lo hi,L,O,F,H,Q,env,s,lt,h=>by
 obtain⟨l1,l2⟩:=band' lt;obtain⟨l2,l3⟩:=band' l2;refine eL Tw a env.l s l1 (PV.bind (show PV K F H ((pE Tv a L).bind fun x=>(pO Tv lo L).bind fun l=>(pO Tv hi L).bind fun h=>xM x l h) Q from h) fun x F1 H1 v g1 r1 h1=>?_);refine R3 Tw lo (env.r.l.mono g1) g1.s l2 (h1.bindB fun l F2 H2 g2 h2=>?_);refine R3 Tw hi (env.r.r.mono (g1.trans g2)) g2.s l3 (h2.bindB fun l' F3 H3 g3 h3=>?_);exact SM g3.s (aP.mono (g2.f.trans g3.f) x v r1) h3
|.lst as,L,O,F,H,Q,env,s,lt,h=>by
 have h:PV K F H ((dz Tv as L).bind fun ds=>.bH (decide (ds.length<=ai)) (.ok (.lst true ds))) Q:=h;refine kJ Tw as env s lt ?_;cases e1:dz Tv as L with
 |ex x=>rw[e1]at h;exact h
 |bad=>rw[e1]at h;exact h.elim
 |ok ds=>
 rw[e1]at h;obtain⟨c,h⟩:=PV.bH h;intro F1 H1 vs fp g fr r;have hl:vs.length<=ai:=by rw[r.len];exact of_decide_eq_true c
 exact⟨hl,fun p hp=>h.P0 g fr r hl hp⟩
|.tup as,L,O,F,H,Q,env,s,lt,h=>by
 have h:PV K F H ((dz Tv as L).bind fun ds=>.bH (decide (ds.length<=ai)) (.ok (.tup ds))) Q:=h;refine kJ Tw as env s lt ?_;cases e1:dz Tv as L with
 |ex x=>rw[e1]at h;exact h
 |bad=>rw[e1]at h;exact h.elim
 |ok ds=>
 rw[e1]at h;obtain⟨c,h⟩:=PV.bH h;intro F1 H1 vs fp g fr r;have hl:vs.length<=ai:=by rw[r.len];exact of_decide_eq_true c
 exact⟨hl,fun p hp=>h.SN g fr r hl hp⟩
|.comp nl fr elt tg src cond,L,O,F,H,Q,env,s,lt,h=>by
 obtain⟨l1,l2⟩:=band' lt;obtain⟨l2,l3⟩:=band' l2;have h:PV K F H ((pI Tv src L).bind fun items=>(fG (pG tg) (pC Tv cond) (pE Tv elt) items.2 (nl.map (fun _=>none)++fr.map (fun i=>L.getD i none))).d8.bind fun ds=>.ok (.lst true ds)) Q:=h;refine Qc Tw src [] env.l s (fun _ h=>absurd h aJ) l2 ?_;cases e1:pI Tv src L with
 |ex x=>rw[e1]at h;exact h
 |bad=>rw[e1]at h;exact h.elim
 |ok items=>
 rw[e1]at h;have h:PV K F H ((fG (pG tg) (pC Tv cond) (pE Tv elt) items.2 (nl.map (fun _=>none)++fr.map (fun i=>L.getD i none))).d8.bind fun ds=>.ok (.lst true ds)) Q:=h;obtain⟨d,e⟩:=h.isOk (bf.bind (bf.d8 _) fun _=>bf.ok);obtain⟨ys,e3,e4⟩:=bZ e;rw[e]at h;cases e4;replace e3:=yL e3;intro F1 H1 ok its g1 hok hi hl;rw[GU]at hok hi;refine@BL K Tv Y ⟨E0⟩ E0 tg cond elt _ (fun a s' hb=>@ruC Tw ⟨E0⟩ cond _ _ _ _ _ (a.env s') s' l3 hb) (fun a s' hv=>@eL Tw ⟨E0⟩ elt _ _ _ _ _ (a.env s') s' l1 hv) ok H1 F1 items.2 its [] [] [] _ _ F1 H1 (G0 (env.r.mono g1)) G1 (bD.refl g1.s) hi hok (by simpa using hl) ⟨rfl,rfl⟩ .nil (fun zs ez F' H' vs fp' g' r' fr' p hp=>?_) ⟨ys,e3⟩;rw[e3]at ez;cases ez;have hz:vs.length<=ai:=by
  rw[r'.len,qv];have:∀(ds:List D) (L:bA) (ys:List D),fG (pG tg) (pC Tv cond) (pE Tv elt) ds L=.ok ys->ys.length<=ds.length:=by
   intro ds;induction ds with
   |nil=>intro L ys h;cases h;exact aT _
   |cons d ds ih=>
    intro L ys h;obtain⟨TH,i1,i2⟩:=bZ h;obtain⟨b,i3,i4⟩:=bZ i2;cases b with
    |false=>have:=ih TH ys i4;simp;omega
    |true=>
     obtain⟨y,i5,i6⟩:=bZ (show((pE Tv elt TH).bind fun y=>(fG (pG tg) (pC Tv cond) (pE Tv elt) ds TH).bind fun ys=>.ok (y::ys))=.ok ys from i4);obtain⟨zs,i7,i8⟩:=bZ i6;cases i8;have:=ih TH zs i7;simp;omega
  have:=this items.2 _ ys e3;omega
 refine h.P0 (g1.trans g') ⟨fr'.nd,fun a ha=>aS.none g1.h (fr'.nh a ha),fr'.nf⟩ r' hz hp
|.isx one gs a,L,O,F,H,Q,env,s,lt,h=>by
 refine eL Tw a env s lt (PV.bind (show PV K F H ((pE Tv a L).bind fun x=>(t7 Tv gs x).bind fun b=>.ok (.bl b)) Q from h) fun x F1 H1 v g1 r1 h1=>?_);obtain⟨d,e⟩:=h1.isOk (bf.bind (BO _ _ _) fun _=>bf.ok);obtain⟨b,e1,e2⟩:=bZ e;rw[e1]at h1;exact Mh Tw g1.s r1 e1 (h1.flat g1.s ⟨rfl,rfl⟩)
|.isv g a,L,O,F,H,Q,env,s,lt,h=>by
 refine eL Tw a env s lt (PV.bind (show PV K F H ((pE Tv a L).bind fun x=>(t8 Tv g x).bind fun b=>.ok (.bl b)) Q from h) fun x F1 H1 v g1 r1 h1=>?_);obtain⟨d,e⟩:=h1.isOk (bf.bind (BP _ _ _) fun _=>bf.ok);obtain⟨b,e1,e2⟩:=bZ e;rw[e1]at h1;exact Mi Tw g1.s r1 e1 (h1.flat g1.s ⟨rfl,rfl⟩)
|.att g a f,L,O,F,H,Q,env,s,lt,h=>by
 exact eL Tw a env s lt (PV.bind (show PV K F H ((pE Tv a L).bind fun x=>yH Tv g f x) Q from h) fun x F1 H1 v g1 r1 h1=>Rv Tw g1.s r1 h1)
theorem sQ(Tw:bV K Tv Y)[Ex]:∀(e:CE) {L:bA}{O:L2.St}{F H:Hp}{Q:Bool->Hp->Prop},ig K F H (cA e) L O->aS F H->cT e=true->PB K F H (pT Tv e L) Q->wT K Y Ex.E e O H Q
|.not a,L,O,F,H,Q,env,s,lt,h=>by
 exact sQ Tw a env s lt (PB.bindB (show PB K F H ((pT Tv a L).bind fun b=>.ok (!b)) Q from h) fun b F1 H1 g1 h1=>h1 F1 H1 (bD.refl g1.s))
|.and a b,L,O,F,H,Q,env,s,lt,h=>by
 obtain⟨l1,l2⟩:=band' lt;refine sQ Tw a env.l s l1 (PB.bindB (show PB K F H ((pT Tv a L).bind fun c=>if c=true then pT Tv b L else .ok false) Q from h) fun c F1 H1 g1 h1=>?_);cases c with
 |true=>exact sQ Tw b (env.r.mono g1) g1.s l2 h1
 |false=>exact h1 F1 H1 (bD.refl g1.s)
|.or a b,L,O,F,H,Q,env,s,lt,h=>by
 obtain⟨l1,l2⟩:=band' lt;refine sQ Tw a env.l s l1 (PB.bindB (show PB K F H ((pT Tv a L).bind fun c=>if c=true then .ok true else pT Tv b L) Q from h) fun c F1 H1 g1 h1=>?_);cases c with
 |false=>exact sQ Tw b (env.r.mono g1) g1.s l2 h1
 |true=>exact h1 F1 H1 (bD.refl g1.s)
|.ite c a b,L,O,F,H,Q,env,s,lt,h=>by
 obtain⟨l1,l2⟩:=band' lt;obtain⟨l2,l3⟩:=band' l2;refine sQ Tw c env.l s l1 (PB.bindB (show PB K F H ((pT Tv c L).bind fun k=>if k=true then pT Tv a L else pT Tv b L) Q from h) fun k F1 H1 g1 h1=>?_);cases k with
 |true=>exact sQ Tw a (env.r.l.mono g1) g1.s l2 h1
 |false=>exact sQ Tw b (env.r.r.mono g1) g1.s l3 h1
|.cmp op a b,L,O,F,H,Q,env,s,lt,h=>by
 obtain⟨l1,l2⟩:=band' lt;refine eL Tw a env.l s l1 (PB.jJ (show PB K F H ((pE Tv a L).bind fun x=>(pE Tv b L).bind fun y=>(eZ op x y).bind fun z=>match z with|.bl k=>.ok k|_=>.bad) Q from h) fun x F1 H1 v g1 r1 h1=>?_);refine eL Tw b (env.r.mono g1) g1.s l2 (h1.jJ fun y F2 H2 u g2 r2 h2=>?_);refine u5 g2.s (aP.mono g2.f x v r1) r2 (h2.jJ fun z F3 H3 w g3 r3 h3=>?_);cases z with
 |bl k=>cases r3;exact h3 F3 H3 (bD.refl g3.s)
 |_=>exact h3.elim
|.chain o1 o2 a b c,L,O,F,H,Q,env,s,lt,h=>by
 obtain⟨l1,l2⟩:=band' lt;obtain⟨l2,l3⟩:=band' l2;refine eL Tw a env.l s l1 (PB.jJ (show PB K F H ((pE Tv a L).bind fun x=>(pE Tv b L).bind fun y=>(eZ o1 x y).bind fun z=>match z with|.bl k=>if k=true then(pE Tv c L).bind fun u=>(eZ o2 y u).bind fun z=>match z with|.bl k=>.ok k|_=>.bad else .ok false|_=>.bad) Q from h) fun x F1 H1 v g1 r1 h1=>?_);refine eL Tw b (env.r.l.mono g1) g1.s l2 (h1.jJ fun y F2 H2 u g2 r2 h2=>?_);refine u5 g2.s (aP.mono g2.f x v r1) r2 (h2.jJ fun z F3 H3 w g3 r3 h3=>?_);cases z with
 |bl k=>
  cases r3;cases k with
  |true=>
   refine eL Tw c (env.r.r.mono (g1.trans (g2.trans g3))) g3.s l3 (PB.jJ (show PB K F3 H3 ((pE Tv c L).bind fun u=>(eZ o2 y u).bind fun z=>match z with|.bl k=>.ok k|_=>.bad) Q from h3) fun z F4 H4 w g4 r4 h4=>?_);refine u5 g4.s (aP.mono (g3.f.trans g4.f) y u r2) r4 (h4.jJ fun z F5 H5 w g5 r5 h5=>?_);cases z with
   |bl k=>cases r5;exact h5 F5 H5 (bD.refl g5.s)
   |_=>exact h5.elim
  |false=>exact h3 F3 H3 (bD.refl g3.s)
 |_=>exact h3.elim
|.var i,L,O,F,H,Q,env,s,lt,h=>by
 have h:PB K F H (match L[i]? with
  |some (some d)=>iN d
  |_=>.bad) Q:=h
 show j9 O i fun v=>ic K v H fun b=>Q b H;unfold j9;cases q:L[i]? with
 |none=>rw[q]at h;exact h.elim
 |some o=>
  cases o with
  |none=>rw[q]at h;exact h.elim
  |some d=>
   rw[q]at h;obtain⟨v,h1,h2⟩:=env.e i (bR.mpr rfl) d q;rw[h1];obtain⟨b,e⟩:=h.isOk (sf d);rw[e]at h;exact E1 s h2 e (h F H (bD.refl s))
|.call g as,L,O,F,H,Q,env,s,lt,h=>by
 rw[DN];have h':PB K F H ((pE Tv (.call g as) L).bind iN) Q:=by
  revert h;show PB K F H (match Tv[g]? with
   |some (.fn m dds)=>((dz Tv as L).bind fun ds=>m (aB ds++dds)).bind iN
   |_=>.bad) Q->PB K F H ((match Tv[g]? with
   |some (.fn m dds)=>(dz Tv as L).bind fun ds=>m (aB ds++dds)
   |_=>.bad).bind iN) Q
  cases Tv[g]? with
  |none=>exact fun h=>h
  |some p=>cases p<;>exact fun h=>h
 have hv:=PB.Mj (K:=K) h';exact G2 Tw (fun _ h=>kJ Tw as env s lt h) hv
|.blt f as,L,O,F,H,Q,env,s,lt,h=>by
 have hv:=PB.Mj (K:=K) (show PB K F H (((dz Tv as L).bind fun ds=>iO f ds).bind iN) Q from h);by_cases hl:qC f as=true
 ·exact Mk (Q:=fun x H2=>ic K x H2 fun b=>Q b H2) env.n s hl hv
 have env:ig K F H (ja as) L O:=by
  have e:ig K F H (if qC f as=true then[]else ja as) L O:=env;rw[if_neg hl]at e;exact e
 exact kJ Tw as env s lt (t9.AU hv fun ds F1 H1 vs g1 r1 h1=>E2 g1.s r1 h1)
|.isi a t,L,O,F,H,Q,env,s,lt,h=>by
 refine eL Tw a env s lt (PB.jJ (show PB K F H ((pE Tv a L).bind fun x=>.bH (i_ x) (.ok (lX t x))) Q from h) fun x F1 H1 v g1 r1 h1=>?_);obtain⟨hn,h1⟩:=h1.bH;exact Mf g1.s r1 hn (show ic K (.bl (lX t x)) H1 fun b=>Q b H1 from h1 F1 H1 (bD.refl g1.s))
|.mth m o as,L,O,F,H,Q,env,s,lt,h=>by
 obtain⟨l1,l2⟩:=band' lt;refine eL Tw o env.l s l1 (PB.jJ (show PB K F H ((pE Tv o L).bind fun x=>(dz Tv as L).d8.bind fun ds=>(tZ m x ds).bind iN) Q from h) fun x F1 H1 v g1 r1 h1=>?_);obtain⟨d,e⟩:=h1.isOk (bf.bind (bf.d8 _) fun _=>bf.bind (sj _ _ _) fun _=>sf _);obtain⟨ds,e1,e2⟩:=bZ e;have e1':=yL e1;rw[e1,<-e1']at h1;obtain⟨d',e3,e4⟩:=bZ e2;refine⟨GY g1.s r1 e3,kJ Tw as (env.r.mono g1) g1.s l2 (PB.PZ h1 fun ds F2 H2 vs g2 r2 h2=>?_)⟩;exact Mg g2.s (aP.mono g2.f x v r1) r2 (PB.Mj h2)
|.con v,L,O,F,H,Q,env,s,lt,h=>h.elim
|.glo g,L,O,F,H,Q,env,s,lt,h=>h.elim
|.bin op a b,L,O,F,H,Q,env,s,lt,h=>h.elim
|.neg a,L,O,F,H,Q,env,s,lt,h=>h.elim
|.ix a b,L,O,F,H,Q,env,s,lt,h=>by
 obtain⟨l1,l2⟩:=band' lt;have hv:=PB.Mj (K:=K) (show PB K F H (((pE Tv a L).bind fun x=>(pE Tv b L).bind fun y=>vK x y).bind iN) Q from h);refine eL Tw a env.l s l1 (PV.bind hv fun x F1 H1 v g1 r1 h1=>?_);refine eL Tw b (env.r.mono g1) g1.s l2 (h1.bind fun y F2 H2 u g2 r2 h2=>?_);exact PY g2.s (aP.mono g2.f x v r1) r2 h2
|.sl a lo hi,L,O,F,H,Q,env,s,lt,h=>h.elim
|.lst as,L,O,F,H,Q,env,s,lt,h=>h.elim
|.tup as,L,O,F,H,Q,env,s,lt,h=>h.elim
|.comp nl fr elt tg src cond,L,O,F,H,Q,env,s,lt,h=>h.elim
|.att g a f,L,O,F,H,Q,env,s,lt,h=>h.elim
|.isx one gs a,L,O,F,H,Q,env,s,lt,h=>by
 refine eL Tw a env s lt (PB.jJ (show PB K F H ((pE Tv a L).bind fun x=>t7 Tv gs x) Q from h) fun x F1 H1 v g1 r1 h1=>?_);obtain⟨b,e1⟩:=h1.isOk (BO _ _ _);rw[e1]at h1;exact Mh Tw g1.s r1 e1 (show ic K (.bl b) H1 fun b=>Q b H1 from h1 F1 H1 (bD.refl g1.s))
|.isv g a,L,O,F,H,Q,env,s,lt,h=>by
 refine eL Tw a env s lt (PB.jJ (show PB K F H ((pE Tv a L).bind fun x=>t8 Tv g x) Q from h) fun x F1 H1 v g1 r1 h1=>?_);obtain⟨b,e1⟩:=h1.isOk (BP _ _ _);rw[e1]at h1;exact Mi Tw g1.s r1 e1 (show ic K (.bl b) H1 fun b=>Q b H1 from h1 F1 H1 (bD.refl g1.s))
theorem kJ(Tw:bV K Tv Y)[Ex]:∀(as:i0) {L:bA}{O:L2.St}{F H:Hp}{Q:List V->Hp->Prop},ig K F H (ja as) L O->aS F H->iP as=true->t9 K F H (dz Tv as L) Q->wEs K Y Ex.E as O H Q
|.nil,L,O,F,H,Q,env,s,lt,h=>(show t9 K F H (.ok []) Q from h) F H [] [] (bD.refl s) .nil ⟨rfl,rfl⟩
|.cons a r,L,O,F,H,Q,env,s,lt,h=>by
 obtain⟨l1,l2⟩:=band' lt;have h:t9 K F H ((pE Tv a L).bind fun x=>(dz Tv r L).bind fun xs=>.ok (x::xs)) Q:=h;refine eL Tw a env.l s l1 ?_;cases e1:pE Tv a L with
 |ex x=>rw[e1]at h;exact h
 |bad=>rw[e1]at h;exact h.elim
 |ok x=>
  cases e2:dz Tv r L with
  |ex x=>
   rw[e1]at h;simp only[R.bind,e2]at h;intro F1 H1 v f1 g1 fr1 r1;refine kJ Tw r (env.r.mono g1) g1.s l2 ?_;rw[e2];exact ie.grow (K:=K) (x:=x) h g1
  |bad=>rw[e1]at h;simp only[R.bind,e2]at h;exact h.elim
  |ok xs=>
   rw[e1]at h;simp only[R.bind,e2]at h;intro F1 H1 v f1 g1 fr1 r1;refine kJ Tw r (env.r.mono g1) g1.s l2 ?_;rw[e2];intro F2 H2 vs f2 g2 fr2 r2;obtain⟨c1,c2⟩:=carry g2 fr1 r1;refine h F2 H2 (v::vs) (f1++f2) (g1.trans g2) (fH.app g1.h fr1 (fun a ha=>?_) c2 fr2) ⟨v,vs,f1,f2,rfl,rfl,c1,r2⟩;obtain⟨o,e,_⟩:=bM.ex x v f1 r1 a ha;exact⟨o,e⟩
theorem R3(Tw:bV K Tv Y)[Ex]:∀(c:CO) {L:bA}{O:L2.St}{F H:Hp}{Q:Option Int->Hp->Prop},ig K F H (GS c) L O->aS F H->GQ c=true->PB K F H (pO Tv c L) Q->wO K Y Ex.E c O H Q
|.none,L,O,F,H,Q,env,s,lt,h=>(show PB K F H (.ok none) Q from h) F H (bD.refl s)
|.some a,L,O,F,H,Q,env,s,lt,h=>by
 refine eL Tw a env s lt (PB.jJ (show PB K F H ((pE Tv a L).bind fun x=>match x with|.int i=>.ok (some i)|_=>.bad) Q from h) fun x F1 H1 v g1 r1 h1=>?_);cases x with
 |int i=>cases r1;exact h1 F1 H1 (bD.refl g1.s)
 |_=>exact h1.elim
theorem ruC(Tw:bV K Tv Y)[Ex]:∀(c:CO) {L:bA}{O:L2.St}{F H:Hp}{Q:Bool->Hp->Prop},ig K F H (GS c) L O->aS F H->GQ c=true->PB K F H (pC Tv c L) Q->wC K Y Ex.E c O H Q
|.none,L,O,F,H,Q,env,s,lt,h=>(show PB K F H (.ok true) Q from h) F H (bD.refl s)
|.some a,L,O,F,H,Q,env,s,lt,h=>sQ Tw a env s lt h
theorem Qc(Tw:bV K Tv Y)[Ex]:∀(c:CI) (A:List Addr) {L:bA}{O:L2.St}{F H:Hp}{k:(Hp->Prop)->List Item->Hp->Prop},ig K F H (qY c) L O->aS F H->lK H A->ltI c=true->PI' K A F H (pI Tv c L) k->wI K Y Ex.E c O H k
|.seq a,A,L,O,F,H,k,env,s,hA,lt,h=>by
 have h:PI' K A F H ((pE Tv a L).bind fun x=>(qI x).bind fun ds=>.ok (a9 x,ds)) k:=h;refine eL Tw a env s lt ?_;cases e1:pE Tv a L with
 |ex x=>rw[e1]at h;exact h
 |bad=>rw[e1]at h;exact h.elim
 |ok x=>
 rw[e1]at h;have h:PI' K A F H ((qI x).bind fun ds=>.ok (a9 x,ds)) k:=h;obtain⟨o,e⟩:=h.isOk (bf.bind (J4 x) fun _=>bf.ok);obtain⟨ds,e3,e4⟩:=bZ (show((qI x).bind fun ds=>R.ok (a9 x,ds))=.ok o from e);rw[e]at h;cases e4;intro F1 H1 v fp g fr r;obtain⟨F2,g2,r2⟩:=PX hA g fr r;exact Rw ((zN _ _ _).trans g2.s) r2 e3 fun ok its h1 h2 h3=>h F2 H1 ok its g2 h1 h2 h3
|.range as,A,L,O,F,H,k,env,s,hA,lt,h=>by
 have h:PI' K A F H ((dz Tv as L).bind fun xs=>(lB xs).bind fun ds=>.ok (true,ds)) k:=h;refine kJ Tw as env s lt ?_;cases e1:dz Tv as L with
 |ex x=>rw[e1]at h;exact h
 |bad=>rw[e1]at h;exact h.elim
 |ok xs=>
 rw[e1]at h;have h:PI' K A F H ((lB xs).bind fun ds=>.ok (true,ds)) k:=h;obtain⟨o,e⟩:=h.isOk (bf.bind (J5 xs) fun _=>bf.ok);obtain⟨ds,e3,e4⟩:=bZ (show((lB xs).bind fun ds=>R.ok (true,ds))=.ok o from e);rw[e]at h;cases e4;intro F1 H1 vs fp g fr r;obtain⟨F2,g2,_,r2⟩:=qf g fr r;exact Rx r2 e3 fun its h1 h2=>h F2 H1 _ its g2 (fun _ _=>trivial) (h1 _) h2
|.zip as,A,L,O,F,H,k,env,s,hA,lt,h=>by
 have h:PI' K A F H ((dz Tv as L).bind fun xs=>qe xs) k:=h;refine kJ Tw as env s lt ?_;cases e1:dz Tv as L with
 |ex x=>rw[e1]at h;exact h
 |bad=>rw[e1]at h;exact h.elim
 |ok xs=>
 rw[e1]at h;have h:PI' K A F H (qe xs) k:=h;unfold qe at h;split at h
 ·rename_i o1 xs o2 ys;intro F1 H1 vs fp g fr r;obtain⟨F2,g2,_,r2⟩:=qf g fr r;obtain⟨v,r',rfl,⟨b,us,rfl,h2,h3,h4⟩,v',r'',rfl,⟨b',us',rfl,h2',h3',h4'⟩,hr⟩:=r2;cases hr;exact .inl ⟨b,b',us,us',rfl,rfl,Rd.same g2.s h2,Rd.same g2.s h2',h F2 H1 _ _ g2 (fun _ s'=>⟨Rd.same s' h2,Rd.same s' h2'⟩) (yK h4 h4') (c9 (wA _ _) (by rw[gv,<-h4.len];exact h3))⟩
 ·rename_i xs ys;intro F1 H1 vs fp g fr r;obtain⟨F2,g2,_,r2⟩:=qf g fr r;obtain⟨v,r',rfl,⟨b,us,rfl,h2,h3,h4⟩,v',r'',rfl,⟨b',us',rfl,h2',h3',h4'⟩,hr⟩:=r2;cases hr;exact .inr ⟨b,b',us,us',rfl,rfl,(tupS h2).same' g2.s,(tupS h2').same' g2.s,h F2 H1 _ _ g2 (fun _ s'=>⟨(tupS h2).same' s',(tupS h2').same' s'⟩) (yK h4 h4') (c9 (wA _ _) (by rw[gv,<-h4.len];exact h3))⟩
 ·exact h.elim
|.enum a,A,L,O,F,H,k,env,s,hA,lt,h=>by
 have h:PI' K A F H ((pE Tv a L).bind fun x=>match x with|.lst _ xs=>.ok (a9 x,jI 0 (aB xs))|_=>.bad) k:=h;refine eL Tw a env s lt ?_;cases e1:pE Tv a L with
 |ex x=>rw[e1]at h;exact h
 |bad=>rw[e1]at h;exact h.elim
 |ok x=>
 rw[e1]at h;intro F1 H1 v fp g fr r;obtain⟨F2,g2,r2⟩:=PX hA g fr r;cases x with
 |lst o xs=>
  have s2:=(zN (a9 (.lst o xs)) F2 A).trans g2.s;obtain⟨b,vs,rfl,h2,h3,h4⟩:=r2;exact⟨vs,Rd.same s2 h2,h F2 H1 _ _ g2 (fun _ s'=>Rd.same s' h2) (BK 0 h4) (by rw[zX,gv,<-h4.len];exact h3)⟩
 |_=>exact h.elim
end
end
noncomputable def lE:Nat->bA->bA
|_,[]=>[]
|0,o::r=>o.map bG::r
|n+1,o::r=>o::lE n r
noncomputable def kU:List Nat->bA->bA
|[],O=>O
|i::is,O=>kU is (lE i O)
noncomputable def gJ(is:List Nat)(o:Bool)(O:bA):bA:=match o with
|true=>O
|false=>kU is O
noncomputable def E3:CE->Option Nat
|.var i=>some i
|_=>none
noncomputable def ph(Y:List PG):i0->bA->R (List D)
|.nil=>fun _=>.ok []
|.cons a r=>fun O=>match E3 a with
 |some i=>match O[i]? with
  |some (some d)=>(ph Y r (O.set i none)).bind fun ds=>.ok (d::ds)
  |_=>.bad
 |none=>(pE Y a O).bind fun d=>.bH (a9 d) ((ph Y r O).bind fun ds=>.ok (d::ds))
noncomputable def R.alt{α β:Type}(x:R α)(f:α->R β)(y:R β):R β:=match x with
|.ok a=>f a
|_=>y
noncomputable def pM(Y:List PG)(e:CE)(O:bA):R D:=match e with
|.var i=>match O[i]? with
 |some (some d)=>.ok d
 |_=>.bad
|.tup as=>(ph Y as O).alt (fun ds=>.bH (decide (ds.length<=ai)) (.ok (.tup ds))) (pE Y (.tup as) O)
|e=>pE Y e O
noncomputable def lY:Option (Option D)->Bool
|some (some (.lst true _))=>true
|_=>false
noncomputable def yM(O:bA):CE->Option Int
|.var j=>match O[j]? with
 |some (some (.int n))=>some n
 |_=>none
|.con (.int n)=>some n
|.neg (.con (.int n))=>some (-n)
|_=>none
noncomputable def yN(O:bA):CE->Option (Nat×List Int)
|.var k=>some (k,[])
|.ix o i=>(yN O o).bind fun p=>(yM O i).map fun n=>(p.1,p.2++[n])
|_=>none
noncomputable def fJ:List Int->D->D->Option D
|[],x,d=>match x with
 |.lst true xs=>if xs.length<ai then some (.lst true (xs++[d]))else none
 |_=>none
|i::r,x,d=>match x with
 |.lst true xs=>(gh xs.length i).bind fun n=>(xs[n]?).bind fun y=>(fJ r y d).map fun y'=>.lst true (xs.set n y')
 |.tup xs=>(gh xs.length i).bind fun n=>(xs[n]?).bind fun y=>(fJ r y d).map fun y'=>.tup (xs.set n y')
 |_=>none
noncomputable def ki:List Int->D->Option D
|[],x=>some x
|i::r,x=>match x with
 |.lst true xs=>(gh xs.length i).bind fun n=>(xs[n]?).bind fun y=>ki r y
 |.tup xs=>(gh xs.length i).bind fun n=>(xs[n]?).bind fun y=>ki r y
 |_=>none
noncomputable def E4(Y:List PG)(o a:CE)(O:bA):Fl:=match yN O o with
|some p=>(pE Y a O).mX false fun d=>match O[p.1]? with
 |some (some x)=>if a9 d=true then(R.opt (fJ p.2 x d)).aY fun x'=>.nx (O.set p.1 (some x'))else .bad
 |_=>.bad
|none=>.bad
noncomputable def yO(k:Nat)(is:List Nat)(d:D)(O:bA):Fl:=match d with
|.lst true ys=>match O[k]? with
 |some (some (.lst true xs))=>if(decide (xs.length+ys.length<=ai)&&(a9 d||!is.contains k))=true then .nx ((gJ is (a9 d) O).set k (some (.lst true (xs++ys))))else .bad
 |_=>.bad
|_=>.bad
noncomputable def pX(Y:List PG)(e:CE)(O:bA):Fl:=match e with
|.mth m (.var k) as=>match m with
 |.append=>match as with
  |.cons a .nil=>(pE Y a O).mX (lY O[k]?) fun d=>match O[k]? with
   |some (some (.lst true xs))=>if(decide (xs.length<ai)&&(a9 d||!(cA a).contains k))=true then .nx ((gJ (cA a) (a9 d) O).set k (some (.lst true (xs++[d]))))else .bad
   |_=>.bad
  |_=>.bad
 |.extend=>match as with
  |.cons a .nil=>(pE Y a O).mX (lY O[k]?) fun d=>yO k (cA a) d O
  |_=>.bad
|.mth m (.ix o i) as=>match m with
 |.append=>match as with
  |.cons a .nil=>E4 Y (.ix o i) a O
  |_=>.bad
 |_=>(pE Y e O).aY fun _=>.nx O
|e=>(pE Y e O).aY fun _=>.nx O
mutual
noncomputable def E5:D->Bool
|.lst _ _=>false
|.cst _=>false
|.exc _ _ _=>false
|.tup xs=>lZ xs
|_=>true
noncomputable def lZ:List D->Bool
|[]=>true
|d::r=>E5 d&&lZ r
end
noncomputable def putL(xs:List D)(d j:D):Option D:=match j with
|.int j=>(gh xs.length j).map fun n=>.lst true (xs.set n d)
|_=>none
noncomputable def putIn(x d j:D):Option D:=match x with
|.lst true xs=>putL xs d j
|_=>none
noncomputable def pA(Y:List PG)(g:CG)(e:CE)(O:bA):Fl:=match g with
|.name i=>(pE Y e O).aY fun d=>.nx ((gJ (cA e) (a9 d) O).set i (some d))
|.tup gs=>(pE Y e O).aY fun d=>(pG (.tup gs) d (gJ (cA e) (a9 d) O)).aY .nx
|.sub o i=>match o with
 |.var k=>(pE Y e O).aY fun d=>(pE Y i (gJ (cA e) (a9 d) O)).mX false fun j=>match O[k]? with
  |some (some x)=>if(a9 d||!(cA e).contains k)=true then(R.opt (putIn x d j)).aY fun x'=>.nx ((gJ (cA e) (a9 d) O).set k (some x'))else .bad
  |_=>.bad
 |_=>.bad
noncomputable def pB(Y:List PG):CB->bA->R D
|.call g as=>fun O=>match Y[g]? with
 |some (.fn m dds)=>(dz Y as O).d8.bind fun ds=>m (aB ds++dds)
 |_=>.bad
|.ite c a b=>fun O=>(pT Y c O).d8.bind fun k=>if k=true then pB Y a O else pB Y b O
noncomputable def ltB:CB->Bool
|.call _ as=>iP as
|.ite c a b=>cT c&&(ltB a&&ltB b)
noncomputable def uc(i:Nat):Fl->Fl
|.nx O=>.nx (O.set i none)
|.rt d=>.rt d
|_=>.bad
noncomputable def xR(C:Addr)(fs:List (Str×Nat))(ds:List D):D:=.exc C (fs.map (·.1)) (fs.map fun p=>bG ((D.non::ds).getD p.2 .non))
noncomputable def BQ(i:Nat)(c:Bool)(O:bA):R D->Fl
|.ok (.bl b)=>match c with
 |true=>.nx (O.set i (some (.bl b)))
 |false=>.bad
|_=>.bad
mutual
noncomputable def pS(Y:List PG)(n:Nat):CS->bA->Fl
|.expr e=>fun O=>pX Y e O
|.asg g e=>fun O=>pA Y g e O
|.casg i e=>fun O=>(pE Y e O).aY fun d=>.nx ((gJ (cA e) (a9 d) O).set i (some d))
|.acl i g as=>fun O=>match Y[g]? with
 |some (.fe m)=>(dz Y as O).d8.aY fun ds=>BQ i (iE (aB ds)) O (m (aB ds))
 |_=>.bad
|.tasg g e=>fun O=>pA Y g e O
|.ret e=>fun O=>(pM Y e O).aY .rt
|.ifs c a b=>fun O=>(pT Y c O).aY fun k=>if k=true then cB Y n a O else cB Y n b O
|.forr g src b=>fun O=>(pI Y src O).aY fun items=>forR (pG g) (cB Y n b) items.2 (gJ (qY src) items.1 O)
|.brk=>fun O=>.bk O
|.cont=>fun O=>.ct O
|.never=>fun _=>.bad
|.rais g as=>fun O=>match Y[g]? with
 |some (.cls C fs k)=>(dz Y as O).aY fun ds=>if(decide (ds.length+1=k)&&decide (fs.map (·.1)).Nodup)=true then .ex (xR C fs ds)else .bad
 |_=>.bad
|.tri i g b h=>fun O=>match Y[g]? with
 |some (.exb Cs)=>match pB Y b O with
  |.ok _=>.nx O
  |.ex (.exc C ks xs)=>if(decide (C∈Cs)&&lZ xs)=true then uc i (cB (Y.map PG.hand) n h (O.set i (some (.exc C ks xs))))else .bad
  |_=>.bad
 |_=>.bad
noncomputable def cB(Y:List PG)(n:Nat):dS->bA->Fl
|.nil=>fun O=>.nx O
|.cons s r=>fun O=>match pS Y n s O with
 |.nx TF=>cB Y n r TF
 |x=>x
end
noncomputable def q9(N:List Str)(ds:List D):bA:=ds.map some++aW (N.length-ds.length) none
noncomputable def E6:Fl->R D
|.nx _=>.ok .non
|.rt d=>.ok d
|.ex x=>.ex x
|_=>.bad
noncomputable def yP(Y:List PG)(n:Nat)(N:List Str)(c:dS)(ds:List D):R D:=E6 (cB Y n c (q9 N ds))
mutual
noncomputable def Qd:CS->Bool
|.expr e=>cT e
|.asg g e=>Qe g&&cT e
|.casg _ e=>cT e
|.acl _ _ as=>iP as
|.tasg g e=>Qe g&&cT e
|.ret e=>cT e
|.ifs c a b=>cT c&&(kK a&&kK b)
|.forr _ src b=>ltI src&&kK b
|.rais _ as=>iP as
|.tri _ _ b h=>ltB b&&kK h
|_=>true
noncomputable def kK:dS->Bool
|.nil=>true
|.cons s r=>Qd s&&kK r
noncomputable def Qe:CG->Bool
|.sub o i=>cT o&&cT i
|_=>true
end
structure aZ (K:PySem.W.Frag) (F0 H0:Hp) (L:bA) (O:L2.St) (F H:Hp) (fp:Nat->List Addr):Prop where
 g:bD F0 H0 F H
 len:L.length=O.length
 rep:∀(i:Nat) d,L[i]?=some (some d)->∃v,O[i]?=some (some v)/\bM K H F d v (fp i)
 ex:∀i,lK H (fp i)
 nd:∀i,(fp i).Nodup
 nf:∀i a,a∈fp i->F a=none
 nh:∀i a,a∈fp i->H0 a=none
 dis:∀i j a,a∈fp i->a∈fp j->i=j
structure jA (K:PySem.W.Frag) (H0 F H:Hp) (fp:Nat->List Addr) (d:D) (v:V) (f:List Addr):Prop where
 r:bM K H F d v f
 nd:f.Nodup
 nf:∀a∈f,F a=none
 nh:∀a∈f,H0 a=none
 dis:∀i a,a∈f->a∉fp i
variable{f:List Addr}
section
variable{K:PySem.W.Frag}{F0 H0 F H:Hp}{L:bA}{O:L2.St}{fp:Nat->List Addr}
theorem wD:∀(n:Nat) (O:bA) (i:Nat),(lE n O)[i]?=if i=n then(O[i]?).map (Option.map bG)else O[i]?
|n,[],i=>by cases n<;>simp[lE]
|0,o::r,0=>by simp[lE]
|0,o::r,i+1=>by simp[lE]
|n+1,o::r,0=>by simp[lE]
|n+1,o::r,i+1=>by
 simp only[lE,iu,wD n r i];by_cases h:i=n
 ·simp[h]
 ·simp[h]
theorem BR:∀(n:Nat) (O:bA),(lE n O).length=O.length
|n,[]=>by cases n<;>rfl
|0,o::r=>rfl
|n+1,o::r=>by simp[lE,BR n r]
theorem zZ:∀(is:List Nat) (O:bA),(kU is O).length=O.length
|[],O=>rfl
|i::is,O=>by rw[kU,zZ is,BR]
noncomputable def ownAt(fp:Nat->List Addr)(is:List Nat):List Addr:=is.flatMap fp
theorem e_{a:Addr}:a∈ownAt fp is↔∃i∈is,a∈fp i:=by simp[ownAt,w5]
theorem aZ.lists(I:aZ K F0 H0 L O F H fp)(is:List Nat):lK H (ownAt fp is):=fun a ha=>by
 obtain⟨i,_,h⟩:=e_.mp ha;exact I.ex i a h
theorem aZ.env(I:aZ K F0 H0 L O F H fp)(is:List Nat):ig K (adopt F H (ownAt fp is)) H is L O:=⟨fun i hi d e=>by
 obtain⟨v,h1,h2⟩:=I.rep i d e;exact⟨v,h1,bM.fix (dP I.g.s) d v _ (fun a ha=>jT (e_.mpr ⟨i,hi,ha⟩)) h2⟩,fun k d e=>by
 obtain⟨v,h1,h2⟩:=I.rep k d e;exact⟨v,adopt F H (ownAt fp [k]),h1,dW I.g.s,bM.fix (dP I.g.s) d v _ (fun a ha=>jT (e_.mpr ⟨k,bR.mpr rfl,ha⟩)) h2⟩⟩
theorem aZ.Ml(I:aZ K F0 H0 L O F H fp)(g:bD (adopt F H (ownAt fp is)) H F' H'){i:Nat}{a:Addr}(ha:a∈fp i)(hn:a∉ownAt fp is):F' a=none:=by
 obtain⟨o,e,k⟩:=I.ex i a ha;cases q:F' a with
 |none=>rfl
 |some u=>exact((g.n a u q (by rw[jg hn];exact I.nf i a ha)).own e k).elim
theorem aZ.Mm(I:aZ K F0 H0 L O F H fp)(g:bD (adopt F H (ownAt fp is)) H F' H'):bD F0 H0 F' H':=by
 refine⟨I.g.h.trans g.h,(I.g.f.trans (dP I.g.s)).trans g.f,g.s,fun b o h h'=>?_⟩;cases q:adopt F H (ownAt fp is) b with
 |none=>exact NT.back I.g.h (g.n b o h q)
 |some u=>
  by_cases z:b∈ownAt fp is
  ·obtain⟨i,_,hb⟩:=e_.mp z;exact .of (I.nh i b hb)
  ·rw[jg z]at q;exact I.g.n b u q h'
theorem aZ.back(I:aZ K F0 H0 L O F H fp)(g:bD (adopt F H (ownAt fp is)) H F' H'):aZ K F0 H0 L O (minus F' (ownAt fp is)) H' fp where
 g:=by
  have g0:=I.Mm g;refine⟨g0.h,fun b o h=>?_,(jV _ _).trans g0.s,fun b o h h'=>g0.n b o (jV _ _ b o h) h'⟩;have hn:b∉ownAt fp is:=fun z=>by
   obtain⟨i,_,hb⟩:=e_.mp z;have:=I.nf i b hb;rw[I.g.f b o h]at this;cases this
  rw[eT hn];exact g0.f b o h
 len:=I.len
 rep:=fun i d e=>by
  obtain⟨v,h1,h2⟩:=I.rep i d e;refine⟨v,h1,bM.mono ?_ d v _ (fun a ha=>?_) h2⟩
  ·intro b o h;have hn:b∉ownAt fp is:=fun z=>by
    obtain⟨i,_,hb⟩:=e_.mp z;have:=I.nf i b hb;rw[h]at this;cases this
   rw[eT hn];exact g.f b o (dP I.g.s b o h)
  ·obtain⟨o,e,_⟩:=I.ex i a ha;rw[e,g.h a o e]
 ex:=fun i=>(I.ex i).mono g.h
 nd:=I.nd
 nf:=fun i a ha=>by
  by_cases hn:a∈ownAt fp is
  ·exact wz hn
  ·rw[eT hn];exact I.Ml g ha hn
 nh:=I.nh
 dis:=I.dis
theorem G3:∀(is:List Nat) (O:bA) (i:Nat),(kU is O)[i]?=some (some d)->∃d',O[i]?=some (some d')/\((i∈is/\d=bG d')\/(i∉is/\d=d')):=by
 have ff:∀d:D,L3.bG (L3.bG d)=L3.bG d:=DR;intro is;induction is with
 |nil=>intro O i h;exact⟨d,h,.inr ⟨aJ,rfl⟩⟩
 |cons j is ih=>
  intro O i h;obtain⟨d1,e1,e2⟩:=ih (lE j O) i h;rw[wD]at e1;by_cases hj:i=j
  ·rw[if_pos hj]at e1;cases q:O[i]? with
   |none=>rw[q]at e1;cases e1
   |some o=>
    cases o with
    |none=>rw[q]at e1;cases e1
    |some d'=>
     rw[q]at e1;cases e1;refine⟨d',rfl,.inl ⟨by rw[hj];exact aG,?_⟩⟩;rcases e2 with⟨_,rfl⟩|⟨_,rfl⟩
     ·exact ff d'
     ·rfl
  ·rw[if_neg hj]at e1;refine⟨d1,e1,?_⟩;rcases e2 with⟨h1,h2⟩|⟨h1,h2⟩
   ·exact .inl ⟨ao _ h1,h2⟩
   ·exact .inr ⟨fun z=>by rcases aQ.mp z with z|z;exact hj z;exact h1 z,h2⟩
theorem aZ.Qf(I:aZ K F0 H0 L O F H fp)(g:bD (adopt F H (ownAt fp is)) H F' H'):aZ K F0 H0 (kU is L) O F' H' (fun i=>if i∈is then[]else fp i) where
 g:=I.Mm g
 len:=by rw[zZ];exact I.len
 rep:=fun i d e=>by
  obtain⟨d',e1,e2⟩:=G3 is L i e;rcases e2 with⟨h1,rfl⟩|⟨h1,rfl⟩
  ·obtain⟨v,q1,q2⟩:=(I.env is).e i h1 d' e1;exact⟨v,q1,by rw[if_pos h1];exact aP.vJ d' v (aP.mono g.f d' v q2)⟩
  ·obtain⟨v,q1,q2⟩:=I.rep i d e1;refine⟨v,q1,?_⟩;rw[if_neg h1];refine bM.mono ((dP I.g.s).trans g.f) d v _ (fun a ha=>?_) q2;obtain⟨o,e,_⟩:=I.ex i a ha;rw[e,g.h a o e]
 ex:=fun i=>by
  by_cases h:i∈is
  ·rw[if_pos h];exact fun a ha=>absurd ha aJ
  ·rw[if_neg h];exact(I.ex i).mono g.h
 nd:=fun i=>by
  by_cases h:i∈is
  ·rw[if_pos h];exact fk
  ·rw[if_neg h];exact I.nd i
 nf:=fun i a ha=>by
  by_cases h:i∈is
  ·rw[if_pos h]at ha;exact absurd ha aJ
  ·rw[if_neg h]at ha;refine I.Ml g ha fun z=>?_;obtain⟨j,hj,hb⟩:=e_.mp z;have:=I.dis i j a ha hb;subst this;exact h hj
 nh:=fun i a ha=>by
  by_cases h:i∈is
  ·rw[if_pos h]at ha;exact absurd ha aJ
  ·rw[if_neg h]at ha;exact I.nh i a ha
 dis:=fun i j a ha hb=>by
  by_cases h:i∈is
  ·rw[if_pos h]at ha;exact absurd ha aJ
  ·by_cases h':j∈is
   ·rw[if_pos h']at hb;exact absurd hb aJ
   ·rw[if_neg h]at ha;rw[if_neg h']at hb;exact I.dis i j a ha hb
theorem aZ.told(I:aZ K F0 H0 L O F H fp)(g:bD (adopt F H (ownAt fp is)) H F' H')(fr:fH f H F')(r:bM K H' F' d v f) :
  ∃F1 fp1,aZ K F0 H0 (gJ is (a9 d) L) O F1 H' fp1/\jA K H0 F1 H' fp1 d v f/\(a9 d=true->fp1=fp)/\∀i,i∉is->fp1 i=fp i:=by
 have nn:∀i a,a∈f->a∉fp i:=fun i a ha hb=>by
  obtain⟨o,e,_⟩:=I.ex i a hb;rw[fr.nh a ha]at e;cases e
 cases ho:a9 d with
 |true=>
  refine⟨_,fp,I.back g,⟨bM.less (kh g.s ((I.lists is).mono g.h)) d v f ho r,fr.nd,fun a ha=>?_,fun a ha=>aS.none I.g.h (fr.nh a ha),nn⟩,fun _=>rfl,fun _ _=>rfl⟩;exact aS.none (jV _ _) (fr.nf a ha)
 |false=>
  refine⟨_,_,I.Qf g,⟨r,fr.nd,fr.nf,fun a ha=>aS.none I.g.h (fr.nh a ha),fun i a ha hb=>?_⟩,(fun z=>nomatch z),fun i hi=>if_neg hi⟩;by_cases h:i∈is
  ·rw[if_pos h]at hb;exact absurd hb aJ
  ·rw[if_neg h]at hb;exact nn i a ha hb
theorem aZ.set(I:aZ K F0 H0 L O F H fp)(V:jA K H0 F H fp d v f)(k:Nat):aZ K F0 H0 (L.set k (some d)) (O.set k (some v)) F H (fun i=>if i=k then f else fp i) where
 g:=I.g
 len:=by simp[I.len]
 rep:=fun i d' e=>by
  by_cases h:i=k
  ·subst h;rw[if_pos rfl];rw[dm]at e;by_cases hi:i<L.length
   ·simp[hi]at e;subst e;exact⟨v,by rw[dm];simp[<-I.len,hi],V.r⟩
   ·simp[hi]at e
  ·rw[if_neg h];rw[ck (cP h)]at e;obtain⟨w,h1,h2⟩:=I.rep i d' e;exact⟨w,by rw[ck (cP h)];exact h1,h2⟩
 ex:=fun i=>by
  by_cases h:i=k
  ·rw[if_pos h];exact bM.ex d v f V.r
  ·rw[if_neg h];exact I.ex i
 nd:=fun i=>by
  by_cases h:i=k
  ·rw[if_pos h];exact V.nd
  ·rw[if_neg h];exact I.nd i
 nf:=fun i a ha=>by
  by_cases h:i=k
  ·rw[if_pos h]at ha;exact V.nf a ha
  ·rw[if_neg h]at ha;exact I.nf i a ha
 nh:=fun i a ha=>by
  by_cases h:i=k
  ·rw[if_pos h]at ha;exact V.nh a ha
  ·rw[if_neg h]at ha;exact I.nh i a ha
 dis:=fun i j a ha hb=>by
  by_cases h:i=k
  ·rw[if_pos h]at ha;by_cases h':j=k
   ·rw[h,h']
   ·rw[if_neg h']at hb;exact absurd hb (V.dis j a ha)
  ·rw[if_neg h]at ha;by_cases h':j=k
   ·rw[if_pos h']at hb;exact absurd ha (V.dis i a hb)
   ·rw[if_neg h']at hb;exact I.dis i j a ha hb
theorem aZ.put{k:Nat}{a:Addr}{o:HO}(I:aZ K F0 H0 L O F H fp)(ha:a∈fp k)(hv:O[k]?=some (some v))(hr:bM K (upd H a o) F d v f)(nd:f.Nodup)(nf:∀b∈f,F b=none)(nh:∀b∈f,H0 b=none)(dis:∀i,i≠k->∀b∈f,b∉fp i) :
  aZ K F0 H0 (L.set k (some d)) O F (upd H a o) (fun i=>if i=k then f else fp i):=by
 have hF:=I.nf k a ha;have hH0:=I.nh k a ha;have hne:∀i,i≠k->∀b∈fp i,b≠a:=fun i hi b hb z=>by
  subst z;exact hi (I.dis i k b hb ha)
 refine⟨⟨fun b u q=>by rw[aK (bQ q hH0)];exact I.g.h b u q,I.g.f,fun b u q=>by rw[aK (bQ q hF)];exact I.g.s b u q,I.g.n⟩,by simp[I.len],fun i d' e=>?_,fun i=>?_,fun i=>?_,fun i b hb=>?_,fun i b hb=>?_,fun i j b hb hc=>?_⟩
 ·by_cases h:i=k
  ·subst h;rw[if_pos rfl];rw[dm]at e;by_cases hi:i<L.length
   ·simp[hi]at e;subst e;exact⟨v,hv,hr⟩
   ·simp[hi]at e
  ·rw[if_neg h];rw[ck (cP h)]at e;obtain⟨w,h1,h2⟩:=I.rep i d' e;exact⟨w,h1,bM.mono (aS.refl _) d' w _ (fun b hb=>aK (hne i h b hb)) h2⟩
 ·by_cases h:i=k
  ·rw[if_pos h];exact bM.ex d v f hr
  ·rw[if_neg h];intro b hb;obtain⟨u,e,q⟩:=I.ex i b hb;exact⟨u,by rw[aK (hne i h b hb)];exact e,q⟩
 ·by_cases h:i=k
  ·rw[if_pos h];exact nd
  ·rw[if_neg h];exact I.nd i
 ·by_cases h:i=k
  ·rw[if_pos h]at hb;exact nf b hb
  ·rw[if_neg h]at hb;exact I.nf i b hb
 ·by_cases h:i=k
  ·rw[if_pos h]at hb;exact nh b hb
  ·rw[if_neg h]at hb;exact I.nh i b hb
 ·by_cases h:i=k
  ·rw[if_pos h]at hb;by_cases h':j=k
   ·rw[h,h']
   ·rw[if_neg h']at hc;exact absurd hc (dis j h' b hb)
  ·rw[if_neg h]at hb;by_cases h':j=k
   ·rw[if_pos h']at hc;exact absurd hb (dis i h b hc)
   ·rw[if_neg h']at hc;exact I.dis i j b hb hc
theorem aZ.rebase(I:aZ K F0 H0 L O F H fp):aZ K F H0 L O F H fp:=⟨⟨I.g.h,aS.refl _,I.g.s,fun b o h h'=>by rw[h]at h';cases h'⟩,I.len,I.rep,I.ex,I.nd,I.nf,I.nh,I.dis⟩
theorem aZ.BS(g0:bD F0 H0 F1 H1)(I:aZ K F1 H0 L O F H fp):aZ K F0 H0 L O F H fp:=⟨⟨I.g.h,g0.f.trans I.g.f,I.g.s,fun b o h h'=>by
 cases q:F1 b with
 |none=>exact I.g.n b o h q
 |some u=>exact g0.n b u q h'⟩,I.len,I.rep,I.ex,I.nd,I.nf,I.nh,I.dis⟩
end
def cK[Ex](K:PySem.W.Frag)(F0 H0:Hp)(fl:Fl)(X:Ends):Prop:=match fl with
|.nx L=>∀O F H fp,aZ K F0 H0 L O F H fp->X.nx O H
|.bk L=>∀O F H fp,aZ K F0 H0 L O F H fp->X.bk O H
|.ct L=>∀O F H fp,aZ K F0 H0 L O F H fp->X.ct O H
|.rt d=>∀v F H f,bD F0 H0 F H->fH f H0 F->bM K H F d v f->X.rt v H
|.ex x=>ie K F0 H0 x
|.bad=>False
variable{o:Bool}
variable{e:CE}
variable{f0:List Addr}
section
variable{K:PySem.W.Frag}{Tv:List PG}{Y:List G}{F0 H0 F H:Hp}{L:bA}{O:L2.St}{fp:Nat->List Addr}{X:Ends}
theorem DU(g0:bD F0 H0 F1 H1)(g:bD F1 H0 F H):bD F0 H0 F H:=⟨g.h,g0.f.trans g.f,g.s,fun b o h h'=>by
 cases q:F1 b with
 |none=>exact g.n b o h q
 |some u=>exact g0.n b u q h'⟩
theorem cK.rebase[Ex]{fl:Fl}(g0:bD F0 H0 F1 H1)(h:cK K F0 H0 fl X):cK K F1 H0 fl X:=by
 cases fl with
 |nx L=>exact fun O F H fp I=>h O F H fp (I.BS g0)
 |bk L=>exact fun O F H fp I=>h O F H fp (I.BS g0)
 |ct L=>exact fun O F H fp I=>h O F H fp (I.BS g0)
 |rt d=>exact fun v F H f g fr r=>h v F H f (DU g0 g) fr r
 |ex x=>
  cases x with
  |exc C ks xs=>exact fun F' H' d vs g=>h F' H' d vs (DU g0 g)
  |_=>exact h
 |bad=>exact h
theorem BU[Ex]{r:R α}{f:α->Fl}(h:cK K F0 H0 (r.aY f) X)(n:r.bf):∃a,r=.ok a/\cK K F0 H0 (f a) X:=by
 cases r with
 |ok a=>exact⟨a,rfl,h⟩
 |ex x=>exact absurd rfl (n x)
 |bad=>exact h.elim
theorem l0[Ex]{r:R α}{f:α->Fl}(h:cK K F0 H0 (r.aY f) X):(∃x,r=.ex x/\ie K F0 H0 x)\/∃a,r=.ok a/\cK K F0 H0 (f a) X:=by
 cases r with
 |ok a=>exact .inr ⟨a,rfl,h⟩
 |ex x=>exact .inl ⟨x,rfl,h⟩
 |bad=>exact h.elim
theorem yQ[Ex]{r:R α}{f:α->Fl}(h:cK K F0 H0 (r.mX b f) X):(b=true/\∃x,r=.ex x/\ie K F0 H0 x)\/∃a,r=.ok a/\cK K F0 H0 (f a) X:=by
 cases r with
 |ok a=>exact .inr ⟨a,rfl,h⟩
 |ex x=>
  cases b with
  |true=>exact .inl ⟨rfl,x,rfl,h⟩
  |false=>exact h.elim
 |bad=>exact h.elim
theorem DV[Ex]{r:R α}{f:α->Fl}(h:cK K F0 H0 (r.mX false f) X):∃a,r=.ok a/\cK K F0 H0 (f a) X:=by
 rcases yQ h with⟨z,_⟩|z
 ·cases z
 ·exact z
mutual
theorem BV:∀(g:CG) (d:D) (O:bA),(pG g d O).bf
|.name i,d,O=>bf.ok
|.tup gs,d,O=>by
 cases d<;>first|exact bf.bad|skip
 exact bf.bH (DW gs _ O)
|.sub _ _,d,O=>bf.bad
theorem DW:∀(g:ny) (ds:List D) (O:bA),(sO g ds O).bf
|.nil,ds,O=>by cases ds<;>first|exact bf.ok|exact bf.bad
|.cons g r,ds,O=>by
 cases ds with
 |nil=>exact bf.bad
 |cons d dr=>exact bf.bind (BV g d O) fun TF=>DW r dr TF
end
theorem G4(F H:Hp):adopt F H []=F:=by funext b;exact jg aJ
theorem aZ.grow(I:aZ K F0 H0 L O F H fp)(g:bD F H F1 H1):aZ K F0 H0 L O F1 H1 fp:=by
 have e:ownAt fp []=[]:=rfl;have q:=I.back (is:=[]) (F':=F1) (H':=H1) (by rw[e,G4];exact g);rw[e,zM]at q;exact q
theorem jA.SO(r:aP K F d v):jA K H0 F H fp (bG d) v []:=⟨aP.vJ d v r,fk,fun _ h=>absurd h aJ,fun _ h=>absurd h aJ,fun _ _ h=>absurd h aJ⟩
mutual
theorem ruG':∀(g:CG) {d:D}{v:V}{L TM:bA}{O:L2.St}{fp:Nat->List Addr}{Q:L2.St->Hp->Prop},aZ K F0 H0 L O F H fp->aP K F d v->pG g (bG d) L=.ok TM->(∀TF fp',aZ K F0 H0 TM TF F H fp'->Q TF H)->wG K Y E g v O H Q
|.name i,d,v,L,TM,O,fp,Q,I,r,e,h=>by
 cases e;exact h _ _ (I.set (jA.SO r) i)
|.tup gs,d,v,L,TM,O,fp,Q,I,r,e,h=>by
 cases d with
 |tup ds=>
  obtain⟨b,vs,rfl,h2,h3,h4⟩:=r;obtain⟨c,e⟩:=gW (show R.bH (decide ((aB ds).length=gs.len)) (sO gs (aB ds) L)=.ok TM from e);have c:=of_decide_eq_true c;rw[gv]at c;exact⟨true,vs,(tupS h2).same' I.g.s,rfl,by rw[h4.len];exact c,ruGs' gs I h4 e h⟩
 |_=>cases e
|.sub _ _,d,v,L,TM,O,fp,Q,I,r,e,h=>by cases e
theorem ruGs':∀(g:ny) {ds:List D}{vs:List V}{L TM:bA}{O:L2.St}{fp:Nat->List Addr}{Q:L2.St->Hp->Prop},aZ K F0 H0 L O F H fp->aF K F ds vs->sO g (aB ds) L=.ok TM->(∀TF fp',aZ K F0 H0 TM TF F H fp'->Q TF H)->DE K Y E g vs O H Q
|.nil,ds,vs,L,TM,O,fp,Q,I,r,e,h=>by
 cases ds with
 |nil=>cases r;cases e;exact h O fp I
 |cons d dr=>cases e
|.cons g gr,ds,vs,L,TM,O,fp,Q,I,r,e,h=>by
 cases ds with
 |nil=>cases e
 |cons d dr=>
  obtain⟨v,vr,rfl,r1,r2⟩:=r;obtain⟨TH,e1,e2⟩:=bZ (show((pG g (bG d) L).bind fun TF=>sO gr (aB dr) TF)=.ok TM from e);exact ruG' g I r1 e1 fun TF fp' I'=>ruGs' gr I' r2 e2 h
end
mutual
theorem Qg:∀(g:CG) {d:D}{v:V}{L TM:bA}{O:L2.St}{fp:Nat->List Addr}{f:List Addr}{Q:L2.St->Hp->Prop},aZ K F0 H0 L O F H fp->jA K H0 F H fp d v f->pG g d L=.ok TM->
 (∀TF fp',aZ K F0 H0 TM TF F H fp'->(∀i a,a∈fp' i->a∈f\/a∈fp i)->Q TF H)->wG K Y E g v O H Q
|.name i,d,v,L,TM,O,fp,f,Q,I,V,e,h=>by
 cases e;refine h _ _ (I.set V i) fun j a ha=>?_;by_cases c:j=i
 ·rw[if_pos c]at ha;exact .inl ha
 ·rw[if_neg c]at ha;exact .inr ha
|.tup gs,d,v,L,TM,O,fp,f,Q,I,V,e,h=>by
 cases d with
 |tup ds=>
  obtain⟨b,vs,rfl,h2,h3,h4⟩:=V.r;obtain⟨c,e⟩:=gW e;exact⟨true,vs,(tupS h2).same' I.g.s,rfl,by rw[h4.len];exact of_decide_eq_true c,Mn gs I h4 V.nd V.nf V.nh V.dis e h⟩
 |_=>cases e
|.sub _ _,d,v,L,TM,O,fp,f,Q,I,V,e,h=>by cases e
theorem Mn:∀(g:ny) {ds:List D}{vs:List V}{L TM:bA}{O:L2.St}{fp:Nat->List Addr}{f:List Addr}{Q:L2.St->Hp->Prop},aZ K F0 H0 L O F H fp->aX K H F ds vs f->f.Nodup->(∀a∈f,F a=none)->(∀a∈f,H0 a=none)->
 (∀i a,a∈f->a∉fp i)->sO g ds L=.ok TM->(∀TF fp',aZ K F0 H0 TM TF F H fp'->(∀i a,a∈fp' i->a∈f\/a∈fp i)->Q TF H)->DE K Y E g vs O H Q
|.nil,ds,vs,L,TM,O,fp,f,Q,I,r,nd,nf,nh,dis,e,h=>by
 cases ds with
 |nil=>
  obtain⟨rfl,_⟩:=r;cases e;exact h O fp I fun _ _ z=>.inr z
 |cons d dr=>cases e
|.cons g gr,ds,vs,L,TM,O,fp,f,Q,I,r,nd,nf,nh,dis,e,h=>by
 cases ds with
 |nil=>cases e
 |cons d dr=>
  obtain⟨v,vr,f1,f2,rfl,rfl,r1,r2⟩:=r;obtain⟨TH,e1,e2⟩:=bZ e;obtain⟨n1,n2,n3⟩:=bJ.mp nd;refine Qg g I ⟨r1,n1,fun a ha=>nf a (aM _ ha),fun a ha=>nh a (aM _ ha),fun i a ha=>dis i a (aM _ ha)⟩ e1 fun TF fp' I' sub=>?_;refine Mn gr I' r2 n2 (fun a ha=>nf a (aA _ ha)) (fun a ha=>nh a (aA _ ha)) (fun i a ha z=>?_) e2 fun TQ fp3 I3 sub3=>h TQ fp3 I3 fun i a ha=>?_
  ·rcases sub i a z with q|q
   ·exact n3 a q a ha rfl
   ·exact dis i a (aA _ ha) q
  ·rcases sub3 i a ha with q|q
   ·exact .inl (aA _ q)
   ·rcases sub i a q with q|q
    ·exact .inl (aM _ q)
    ·exact .inr q
end
theorem wF[Ex](Tw:bV K Tv Y)(I:aZ K F0 H0 L O F H fp)(lt:cT e=true)(he:pE Tv e L=.ok d)
  (h:∀v F1 H1 fp1 f,aZ K F0 H0 (gJ (cA e) (a9 d) L) O F1 H1 fp1->jA K H0 F1 H1 fp1 d v f->Q v H1):wE K Y Ex.E e O H Q:=by
 refine eL Tw e (I.env (cA e)) (dW I.g.s) lt ?_;rw[he];intro F' H' v f g fr r;obtain⟨F1,fp1,I1,V1,_,_⟩:=I.told g fr r;exact h v F1 H' fp1 f I1 V1
theorem runD'[Ex](Tw:bV K Tv Y)(I:aZ K F0 H0 L O F H fp)(lt:cT e=true)(he:pE Tv e L=.ok d)
  (h:∀v F1 H1,aZ K F0 H0 L O F1 H1 fp->aS H H1->(a9 d=true->∃f,jA K H0 F1 H1 fp d v f)->Q v H1):wE K Y Ex.E e O H Q:=by
 refine eL Tw e (I.env (cA e)) (dW I.g.s) lt ?_;rw[he];intro F' H' v f g fr r;refine h v _ H' (I.back g) g.h fun ho=>?_;refine⟨f,bM.less (kh g.s ((I.lists _).mono g.h)) d v f ho r,fr.nd,fun a ha=>aS.none (jV _ _) (fr.nf a ha),fun a ha=>aS.none I.g.h (fr.nh a ha),fun i a ha hb=>?_⟩;obtain⟨o,e,_⟩:=I.ex i a hb;rw[fr.nh a ha]at e;cases e
theorem jA.back(I:aZ K F0 H0 L O F H fp)(V:jA K H0 F H fp d v f)(g:bD (adopt F H (ownAt fp is)) H F' H'):jA K H0 (minus F' (ownAt fp is)) H' fp d v f:=by
 have hn:∀a∈f,a∉ownAt fp is:=fun a ha z=>by
  obtain⟨i,_,hb⟩:=e_.mp z;exact V.dis i a ha hb
 have hx:=bM.ex d v f V.r;refine⟨bM.mono ?_ d v f (fun a ha=>?_) V.r,V.nd,fun a ha=>?_,V.nh,V.dis⟩
 ·intro b o h;have hb:b∉ownAt fp is:=fun z=>by
   obtain⟨i,_,hb⟩:=e_.mp z;have:=I.nf i b hb;rw[h]at this;cases this
  rw[eT hb];exact g.f b o (dP I.g.s b o h)
 ·obtain⟨o,e,_⟩:=hx a ha;rw[e,g.h a o e]
 ·rw[eT (hn a ha)];obtain⟨o,e,k⟩:=hx a ha;cases q:F' a with
  |none=>rfl
  |some u=>exact((g.n a u q (by rw[jg (hn a ha)];exact V.nf a ha)).own e k).elim
structure kW (K:PySem.W.Frag) (H0 F H:Hp) (fp:Nat->List Addr) (ds:List D) (vs:List V) (f:List Addr):Prop where
 r:aX K H F ds vs f
 nd:f.Nodup
 nf:∀a∈f,F a=none
 nh:∀a∈f,H0 a=none
 dis:∀i a,a∈f->a∉fp i
theorem kW.back(I:aZ K F0 H0 L O F H fp){d:List D}{v:List V}(V:kW K H0 F H fp d v f)(g:bD (adopt F H (ownAt fp is)) H F' H'):kW K H0 (minus F' (ownAt fp is)) H' fp d v f:=by
 have hn:∀a∈f,a∉ownAt fp is:=fun a ha z=>by
  obtain⟨i,_,hb⟩:=e_.mp z;exact V.dis i a ha hb
 have hx:=aX.ex d v f V.r;refine⟨aX.mono ?_ d v f (fun a ha=>?_) V.r,V.nd,fun a ha=>?_,V.nh,V.dis⟩
 ·intro b o h;have hb:b∉ownAt fp is:=fun z=>by
   obtain⟨i,_,hb⟩:=e_.mp z;have:=I.nf i b hb;rw[h]at this;cases this
  rw[eT hb];exact g.f b o (dP I.g.s b o h)
 ·obtain⟨o,e,_⟩:=hx a ha;rw[e,g.h a o e]
 ·rw[eT (hn a ha)];obtain⟨o,e,k⟩:=hx a ha;cases q:F' a with
  |none=>rfl
  |some u=>exact((g.n a u q (by rw[jg (hn a ha)];exact V.nf a ha)).own e k).elim
theorem kW.snoc{f':List Addr}(V:kW K H0 F H fp ds vs f)(W:jA K H0 F H fp d v f')(hd:∀a∈f,a∉f'):kW K H0 F H fp (ds++[d]) (vs++[v]) (f++f'):=by
 refine⟨V.r.app ⟨v,[],f',[],rfl,by simp,W.r,rfl,rfl⟩,bJ.mpr ⟨V.nd,W.nd,fun a ha b hb z=>hd a ha (by rw[z];exact hb)⟩,fun a ha=>?_,fun a ha=>?_,fun i a ha=>?_⟩
 ·rcases bL.mp ha with q|q
  ·exact V.nf a q
  ·exact W.nf a q
 ·rcases bL.mp ha with q|q
  ·exact V.nh a q
  ·exact W.nh a q
 ·rcases bL.mp ha with q|q
  ·exact V.dis i a q
  ·exact W.dis i a q
theorem runN[Ex](Tw:bV K Tv Y)(I:aZ K F0 H0 L O F H fp)(V0:kW K H0 F H fp ds vs f0)(lt:cT e=true)(he:pE Tv e L=.ok d)(ho:a9 d=true)
  (h:∀v F1 H1 f,aZ K F0 H0 L O F1 H1 fp->kW K H0 F1 H1 fp (ds++[d]) (vs++[v]) f->Q v H1):wE K Y Ex.E e O H Q:=by
 refine eL Tw e (I.env (cA e)) (dW I.g.s) lt ?_;rw[he];intro F' H' v f g fr r;refine h v _ H' _ (I.back g) ((V0.back I g).snoc (f':=f) ⟨bM.less (kh g.s ((I.lists _).mono g.h)) d v f ho r,fr.nd,fun a ha=>aS.none (jV _ _) (fr.nf a ha),fun a ha=>aS.none I.g.h (fr.nh a ha),fun i a ha hb=>?_⟩ fun a ha hb=>?_)
 ·obtain⟨o,e,_⟩:=I.ex i a hb;rw[fr.nh a ha]at e;cases e
 ·obtain⟨o,e,_⟩:=aX.ex ds vs f0 V0.r a ha;rw[fr.nh a hb]at e;cases e
theorem aZ.Rz(I:aZ K F0 H0 L O F H fp)(k:Nat):aZ K F0 H0 (L.set k none) O F H (fun i=>if i=k then[]else fp i):=by
 have sub:∀i a,a∈(if i=k then[]else fp i)->a∈fp i:=fun i a ha=>by
  by_cases c:i=k
  ·rw[if_pos c]at ha;cases ha
  ·rw[if_neg c]at ha;exact ha
 refine⟨I.g,by simp[I.len],fun i d e=>?_,fun i a ha=>I.ex i a (sub i a ha),fun i=>?_,fun i a ha=>I.nf i a (sub i a ha),fun i a ha=>I.nh i a (sub i a ha),fun i j a ha hb=>I.dis i j a (sub i a ha) (sub j a hb)⟩
 ·by_cases c:i=k
  ·subst c;rw[dm]at e;by_cases hi:i<L.length
   ·simp[hi]at e
   ·simp[hi]at e
  ·rw[ck (cP c)]at e;rw[if_neg c];exact I.rep i d e
 ·by_cases c:i=k
  ·rw[if_pos c];exact fk
  ·rw[if_neg c];exact I.nd i
theorem SQ[Ex](Tw:bV K Tv Y){d0:D}{v0:V}(I:aZ K F0 H0 L O F H fp)(V0:jA K H0 F H fp d0 v0 f0)(lt:cT e=true)(he:pE Tv e L=.ok d)
  (h:∀v F1 H1,aZ K F0 H0 L O F1 H1 fp->jA K H0 F1 H1 fp d0 v0 f0->(∀{x:D},d=x->a9 x=true->aP K H1 x v)->Q v H1):wE K Y Ex.E e O H Q:=by
 refine eL Tw e (I.env (cA e)) (dW I.g.s) lt ?_;rw[he];intro F' H' v f g fr r;refine h v _ H' (I.back g) (V0.back I g) fun z ho=>?_;subst z;obtain⟨F2,g2,s2,rf⟩:=J0 g fr r;exact aP.mono g2.s d v rf
theorem Qh[Ex](Tw:bV K Tv Y){Q:Bool->Hp->Prop}(I:aZ K F0 H0 L O F H fp)(lt:cT e=true)(he:pT Tv e L=.ok b)
  (h:∀F1 H1,aZ K F0 H0 L O F1 H1 fp->Q b H1):wT K Y Ex.E e O H Q:=by
 refine sQ Tw e (I.env (cA e)) (dW I.g.s) lt ?_;rw[he];exact fun F' H' g=>h _ H' (I.back g)
theorem aZ.own(I:aZ K F0 H0 L O F H fp)(is:List Nat):bD F0 H0 (adopt F H (ownAt fp is)) H:=oq I.g fun a ha=>by
 obtain⟨i,_,hi⟩:=e_.mp ha;exact I.nh i a hi
theorem ud[Ex](Tw:bV K Tv Y)(I:aZ K F0 H0 L O F H fp)(lt:cT e=true)(he:pE Tv e L=.ex x)(h:ie K F0 H0 x):wE K Y Ex.E e O H Q:=by
 refine eL Tw e (I.env (cA e)) (dW I.g.s) lt ?_;rw[he];exact ie.grow (K:=K) (x:=x) h (I.own (cA e))
theorem RA[Ex](Tw:bV K Tv Y){Q:Bool->Hp->Prop}(I:aZ K F0 H0 L O F H fp)(lt:cT e=true)(he:pT Tv e L=.ex x)(h:ie K F0 H0 x):wT K Y Ex.E e O H Q:=by
 refine sQ Tw e (I.env (cA e)) (dW I.g.s) lt ?_;rw[he];exact ie.grow (K:=K) (x:=x) h (I.own (cA e))
theorem RB[Ex](Tw:bV K Tv Y){c:CI}(I:aZ K F0 H0 L O F H fp)(lt:ltI c=true)(he:pI Tv c L=.ex x)(h:ie K F0 H0 x):wI K Y Ex.E c O H k:=by
 refine Qc Tw c (ownAt fp (qY c)) (I.env (qY c)) (dW I.g.s) (I.lists _) lt ?_;rw[he];exact ie.grow (K:=K) (x:=x) h (I.own (qY c))
theorem RC[Ex](Tw:bV K Tv Y){c:i0}{Q:List V->Hp->Prop}(I:aZ K F0 H0 L O F H fp)(lt:iP c=true)(he:dz Tv c L=.ex x)(h:ie K F0 H0 x):wEs K Y Ex.E c O H Q:=by
 refine kJ Tw c (I.env (ja c)) (dW I.g.s) lt ?_;rw[he];exact ie.grow (K:=K) (x:=x) h (I.own (ja c))
theorem yR{O:bA}{k:Nat}(h:(o||!is.contains k)=true):(gJ is o O)[k]?=O[k]?:=by
 cases o with
 |true=>rfl
 |false=>
  have hk:k∉is:=by simpa using h
  show(kU is O)[k]?=_;clear h;induction is generalizing O with
  |nil=>rfl
  |cons i is ih=>
   rw[kU,ih (fun z=>hk (ao _ z)),wD,if_neg (fun z=>hk (by rw[z];exact aG))]
theorem aZ.lst{k:Nat}{xs:List D}(I:aZ K F0 H0 L O F H fp)(e:L[k]?=some (some (.lst true xs))):∃a vs fs,O[k]?=some (some (.ref a))/\H a=some (.lst vs)/\vs.length<=ai/\aX K H F xs vs fs/\fp k=a::fs:=by
 obtain⟨v,h1,h2⟩:=I.rep k _ e;unfold bM at h2;rw[if_pos rfl]at h2;obtain⟨a,vs,fs,rfl,q⟩:=h2;exact⟨a,vs,fs,h1,q⟩
theorem slot_of{i:Nat}{k:V->Prop}(h:O[i]?=some (some v))(q:k v):j9 O i k:=by
 unfold j9;rw[h];exact q
theorem aX.set:∀{ds:List D}{vs:List V}{fs f:List Addr} (n:Nat) {d:D}{v:V},aX K H F ds vs fs->bM K H F d v f->(fs++f).Nodup->∃fs',aX K H F (ds.set n d) (vs.set n v) fs'/\fs'.Nodup/\∀b∈fs',b∈fs\/b∈f
|[],_,_,_,n,_,_,h,_,nd=>by
 obtain⟨rfl,rfl⟩:=h;exact⟨[],⟨rfl,rfl⟩,fk,fun b hb=>absurd hb aJ⟩
|e::ds,_,_,f,0,d,v,h,hd,nd=>by
 obtain⟨w,r,f1,f2,rfl,rfl,h3,h4⟩:=h;refine⟨f++f2,⟨v,r,f,f2,rfl,rfl,hd,h4⟩,?_,?_⟩
 ·simp only[cJ,bJ,bL]at nd ⊢;obtain⟨n1,⟨n2,n3,n4⟩,n5⟩:=nd;exact⟨n3,n2,fun a ha b hb z=>n4 b hb a ha z.symm⟩
 ·intro b hb;rcases bL.mp hb with hb|hb
  ·exact .inr hb
  ·exact .inl (aA _ hb)
|e::ds,_,_,f,n+1,d,v,h,hd,nd=>by
 obtain⟨w,r,f1,f2,rfl,rfl,h3,h4⟩:=h;have nd':(f2++f).Nodup/\f1.Nodup/\∀a∈f1,∀b,(b∈f2\/b∈f)->a≠b:=by
  rw[cJ]at nd;obtain⟨n1,n2,n3⟩:=bJ.mp nd;exact⟨n2,n1,fun a ha b hb=>n3 a ha b (bL.mpr hb)⟩
 obtain⟨fs',q1,q2,q3⟩:=aX.set n h4 hd nd'.1;refine⟨f1++fs',⟨w,_,f1,fs',rfl,rfl,h3,q1⟩,bJ.mpr ⟨nd'.2.1,q2,fun a ha b hb=>nd'.2.2 a ha b (q3 b hb)⟩,?_⟩;intro b hb;rcases bL.mp hb with hb|hb
 ·exact .inl (aM _ hb)
 ·rcases q3 b hb with z|z
  ·exact .inl (aA _ z)
  ·exact .inr z
theorem aZ.BW{k:Nat}{xs xs':List D}{a:Addr}{vs vs':List V}{fs fs' f:List Addr}{d:D}{v:V}(I:aZ K F0 H0 L O F H fp)(V:jA K H0 F H fp d v f)(Ub:O[k]?=some (some (.ref a)))(hk:fp k=a::fs)(hl:vs'.length<=ai)
  (hr:∀{H':Hp},(∀b∈fs,H' b=H b)->(∀b∈f,H' b=H b)->aX K H' F xs' vs' fs') (nd:fs'.Nodup) (sub:∀b∈fs',b∈fs\/b∈f) :
  ∃fp',aZ K F0 H0 (L.set k (some (.lst true xs'))) O F (upd H a (.lst vs')) fp':=by
 have hak:a∈fp k:=by rw[hk];exact aG
 have nda:a∉fs/\fs.Nodup:=by have:=I.nd k;rw[hk]at this;exact b9.mp this
 have haf:a∉f:=fun z=>V.dis k a z hak;have hs:∀b∈fs',b∈fp k\/b∈f:=fun b hb=>by
  rcases sub b hb with z|z
  ·exact .inl (by rw[hk];exact ao _ z)
  ·exact .inr z
 refine⟨_,I.put hak Ub (d:=.lst true xs') (f:=a::fs') ?_ ?_ ?_ ?_ ?_⟩
 ·unfold bM;rw[if_pos rfl];refine⟨a,vs',fs',rfl,bu,hl,hr (fun b hb=>aK (fun z=>nda.1 (by rw[<-z];exact hb))) (fun b hb=>aK (fun z=>haf (by rw[<-z];exact hb))),rfl⟩
 ·refine b9.mpr ⟨fun z=>?_,nd⟩;rcases sub a z with z|z
  ·exact nda.1 z
  ·exact haf z
 ·intro b hb;rcases aQ.mp hb with rfl|hb
  ·exact I.nf k b hak
  ·rcases hs b hb with z|z
   ·exact I.nf k b z
   ·exact V.nf b z
 ·intro b hb;rcases aQ.mp hb with rfl|hb
  ·exact I.nh k b hak
  ·rcases hs b hb with z|z
   ·exact I.nh k b z
   ·exact V.nh b z
 ·intro i hi b hb hc;rcases aQ.mp hb with rfl|hb
  ·exact hi (I.dis i k b hc hak)
  ·rcases hs b hb with z|z
   ·exact hi (I.dis i k b hc z)
   ·exact V.dis i b z hc
end
variable{a:CE}
variable{f3:List Addr}
variable{src:CI}
variable{n:Nat}
section
variable{K:PySem.W.Frag}{Tv:List PG}{Y:List G}{F0 H0 F H:Hp}{L:bA}{O:L2.St}{fp:Nat->List Addr}{X:Ends}
theorem Kc[Ex](Tw:bV K Tv Y):∀(as:i0) {ds acc:List D}{av:List V}{af:List Addr}{L:bA}{F H:Hp}{fp:Nat->List Addr}{Q:List V->Hp->Prop},aZ K F0 H0 L O F H fp->kW K H0 F H fp acc av af->iP as=true->ph Tv as L=.ok ds->
 (∀vs F1 H1 TU fp1 f,aZ K F0 H0 TU O F1 H1 fp1->kW K H0 F1 H1 fp1 (acc++ds) (av++vs) f->Q vs H1)->wEs K Y Ex.E as O H Q
|.nil,ds,acc,av,af,L,F,H,fp,Q,I,V,lt,e,h=>by
 cases e;exact h [] F H L fp af I (by rw[dM,dM];exact V)
|.cons a r,ds,acc,av,af,L,F,H,fp,Q,I,V,lt,e,h=>by
 obtain⟨l1,l2⟩:=band' lt;have e:(match E3 a with
  |some i=>match L[i]? with
   |some (some d)=>(ph Tv r (L.set i none)).bind fun ds=>.ok (d::ds)
   |_=>.bad
  |none=>(pE Tv a L).bind fun d=>.bH (a9 d) ((ph Tv r L).bind fun ds=>.ok (d::ds)))=R.ok ds:=e
 cases va:E3 a with
 |some i=>
  have ea:a=.var i:=by cases a<;>first|(cases va;rfl)|(cases va)
  subst ea;rw[va]at e;simp only at e;cases q:L[i]? with
  |none=>rw[q]at e;cases e
  |some o=>
   cases o with
   |none=>rw[q]at e;cases e
   |some d=>
    rw[q]at e;obtain⟨ds',e1,e2⟩:=bZ (show((ph Tv r (L.set i none)).bind fun ds=>.ok (d::ds))=R.ok ds from e);cases e2;obtain⟨v,h1,h2⟩:=I.rep i d q;have V1:kW K H0 F H (fun j=>if j=i then[]else fp j) (acc++[d]) (av++[v]) (af++fp i):=by
     refine kW.snoc ⟨V.r,V.nd,V.nf,V.nh,fun j a ha=>?_⟩ ⟨h2,I.nd i,I.nf i,I.nh i,fun j a ha=>?_⟩ fun a ha hb=>V.dis i a ha hb
     ·by_cases c:j=i
      ·rw[if_pos c];exact aJ
      ·rw[if_neg c];exact V.dis j a ha
     ·by_cases c:j=i
      ·rw[if_pos c];exact aJ
      ·rw[if_neg c];exact fun z=>c (I.dis j i a z ha)
    refine slot_of h1 (Kc Tw r (I.Rz i) V1 l2 e1 fun vs F1 H1 TU fp1 f I1 W=>h (v::vs) F1 H1 TU fp1 f I1 ?_);rw[cJ,cJ]at W;exact W
 |none=>
  rw[va]at e;simp only at e;obtain⟨d,e1,e2⟩:=bZ e;obtain⟨ho,e2⟩:=gW e2;obtain⟨ds',e3,e4⟩:=bZ e2;cases e4;refine runN Tw I V l1 e1 ho fun v F1 H1 f I1 V1=>?_;refine Kc Tw r I1 V1 l2 e3 fun vs F2 H2 TH fp2 f2 I2 W=>h (v::vs) F2 H2 TH fp2 f2 I2 ?_;rw[cJ,cJ]at W;exact W
theorem RD[Ex](Tw:bV K Tv Y)(I:aZ K F0 H0 L O F H fp)(lt:cT e=true)(h:cK K F0 H0 ((pM Tv e L).aY .rt) X):wE K Y Ex.E e O H X.rt:=by
 rcases l0 h with⟨x,e1,hx⟩|⟨d,e1,h'⟩
 ·have gen:pE Tv e L=.ex x->wE K Y Ex.E e O H X.rt:=fun he=>ud Tw I lt he hx;cases e with
  |var i=>
   have e1:(match L[i]? with|some (some d)=>R.ok d|_=>.bad)=.ex x:=e1;split at e1<;>cases e1
  |tup as=>
   have e1:(ph Tv as L).alt (fun ds=>.bH (decide (ds.length<=ai)) (.ok (.tup ds))) (pE Tv (.tup as) L)=.ex x:=e1;unfold R.alt at e1;split at e1
   ·exact absurd e1 (bf.bH bf.ok x)
   ·exact gen e1
  |_=>exact gen e1
 clear h;have gen:pE Tv e L=.ok d->wE K Y Ex.E e O H X.rt:=fun he=>wF Tw I lt he fun v F1 H1 fp1 f I1 V1=>h' v F1 H1 f I1.g ⟨V1.nd,V1.nh,V1.nf⟩ V1.r;cases e with
 |var i=>
  have e1:(match L[i]? with|some (some d)=>R.ok d|_=>.bad)=.ok d:=e1;cases q:L[i]? with
  |none=>rw[q]at e1;cases e1
  |some o=>
   cases o with
   |none=>rw[q]at e1;cases e1
   |some d'=>
    rw[q]at e1;cases e1;obtain⟨v,h1,h2⟩:=I.rep i d q;exact slot_of h1 (h' v F H (fp i) I.g ⟨I.nd i,I.nh i,I.nf i⟩ h2)
 |tup as=>
  have e1:(ph Tv as L).alt (fun ds=>.bH (decide (ds.length<=ai)) (.ok (.tup ds))) (pE Tv (.tup as) L)=.ok d:=e1;cases e2:ph Tv as L with
  |ok ds=>
   rw[e2]at e1;obtain⟨c3,e4⟩:=gW e1;cases e4;refine Kc Tw as I (acc:=[]) (av:=[]) (af:=[]) ⟨⟨rfl,rfl⟩,fk,fun _ z=>absurd z aJ,fun _ z=>absurd z aJ,fun _ _ z=>absurd z aJ⟩ lt e2 fun vs F1 H1 TU fp1 f I1 V=>?_;have hr:aX K H1 F1 ds vs f:=V.r;have hl:vs.length<=ai:=by rw[hr.len];exact of_decide_eq_true c3
   refine⟨hl,fun p hp=>?_⟩;have g2:=qZ (o:=.tup vs) I1.g.s hp;have I2:=I1.grow g2;have np:∀a∈f,a≠p:=fun a ha z=>by
    obtain⟨o,e,_⟩:=aX.ex ds vs f hr a ha;rw[z,hp]at e;cases e
   exact h' (.ref p) _ _ f I2.g ⟨V.nd,V.nh,fun a ha=>by rw[aK (np a ha)];exact V.nf a ha⟩ ⟨p,vs,rfl,bu,hl,aX.mono g2.f ds vs f (fun a ha=>aK (np a ha)) hr⟩
  |_=>
   rw[e2]at e1;exact gen e1
 |_=>exact gen e1
theorem xS{g:List Addr}(nd:(f1++(f2++f3)).Nodup)(g3:∀b∈g,b∈f2\/b∈f)(g2:g.Nodup)(df:∀a∈f,a∉f1++(f2++f3)):(f1++(g++f3)).Nodup:=by
 obtain⟨n1,n23,n4⟩:=bJ.mp nd;obtain⟨n2,n3,n5⟩:=bJ.mp n23;refine bJ.mpr ⟨n1,bJ.mpr ⟨g2,n3,fun a ha b hb z=>?_⟩,fun a ha b hb z=>?_⟩
 ·rcases g3 a ha with q|q
  ·exact n5 a q b hb z
  ·exact df a q (by rw[z];exact aA _ (aA _ hb))
 ·rcases bL.mp hb with hb|hb
  ·rcases g3 b hb with q|q
   ·exact n4 a ha b (aM _ q) z
   ·exact df b q (by rw[<-z];exact aM _ ha)
  ·exact n4 a ha b (aA _ hb) z
theorem wH{g:List Addr}(g3:∀b∈g,b∈f2\/b∈f):∀b∈f1++(g++f3),b∈f1++(f2++f3)\/b∈f:=fun b hb=>by
 rcases bL.mp hb with z|z
 ·exact .inl (aM _ z)
 ·rcases bL.mp z with z|z
  ·rcases g3 b z with q|q
   ·exact .inl (aA _ (aM _ q))
   ·exact .inr q
  ·exact .inl (aA _ (aA _ z))
theorem G5{a:Addr}{g:List Addr}(nd:(a::(f1++(f2++f3))).Nodup)(g3:∀b∈g,b∈f2\/b∈f)(g2:g.Nodup)(df:∀b∈f,b∉a::(f1++(f2++f3))):(a::(f1++(g++f3))).Nodup:=by
 have nd':=b9.mp nd;refine b9.mpr ⟨fun z=>?_,xS nd'.2 g3 g2 fun b hb z=>df b hb (ao _ z)⟩;rcases wH g3 a z with q|q
 ·exact nd'.1 q
 ·exact df a q aG
theorem Nu{a:Addr}{g:List Addr}(g3:∀b∈g,b∈f2\/b∈f):∀b∈a::(f1++(g++f3)),b∈a::(f1++(f2++f3))\/b∈f:=fun b hb=>by
 rcases aQ.mp hb with rfl|hb
 ·exact .inl aG
 ·rcases wH g3 b hb with q|q
  ·exact .inl (ao _ q)
  ·exact .inr q
def Reach(K:PySem.W.Frag)(H:Hp):V->List Int->V->Prop
|v,[],w=>v=w
|v,i::r,w=>∃a t xs u,v=.ref a/\tT H a=some (t,xs)/\gU xs i=some u/\Reach K H u r w
theorem Reach.snoc:∀{is:List Int}{v w:V}{n:Int},Reach K H v (is++[n]) w->∃x,Reach K H v is x/\Reach K H x [n] w
|[],v,w,n,h=>⟨v,rfl,h⟩
|i::r,v,w,n,h=>by
 obtain⟨a,t,xs,u,e1,e2,e3,h⟩:=h;obtain⟨x,q1,q2⟩:=Reach.snoc h;exact⟨x,⟨a,t,xs,u,e1,e2,e3,q1⟩,q2⟩
theorem Qi[Ex](I:aZ K F0 H0 L O F H fp):∀(o:CE) {k:Nat}{is:List Int}{v w:V}{Q:VK},yN L o=some (k,is)->O[k]?=some (some v)->Reach K H v is w->Q w H->wE K Y Ex.E o O H Q
|.var j,k,is,v,w,Q,e,hv,hr,q=>by
 cases e;cases hr;exact slot_of hv q
|.ix o i,k,is,v,w,Q,e,hv,hr,q=>by
 have e:((yN L o).bind fun p=>(yM L i).map fun n=>(p.1,p.2++[n]))=some (k,is):=e;cases e1:yN L o with
 |none=>rw[e1]at e;cases e
 |some p=>
  rw[e1]at e;cases e2:yM L i with
  |none=>
   have e:((yM L i).map fun n=>(p.1,p.2++[n]))=some (k,is):=e;rw[e2]at e;cases e
  |some n=>
   have e:((yM L i).map fun n=>(p.1,p.2++[n]))=some (k,is):=e;rw[e2]at e;cases e;obtain⟨x,q1,a,t,xs,u,rfl,q2,q3,q4⟩:=Reach.snoc hr;cases q4;refine Qi I o e1 hv q1 (show wE K Y Ex.E i O H fun y H2=>Bq K (.ref a) y H2 Q from ?_);have fin:Bq K (.ref a) (.int n) H Q:=.inl ⟨t,xs,n,_,rfl,.inl q2,q3,q⟩;unfold yM at e2;split at e2
   ·split at e2
    ·rename_i j _ m hj;cases e2;obtain⟨v',h1,h2⟩:=I.rep _ _ hj;obtain⟨rfl,_⟩:=h2;exact slot_of h1 fin
    ·cases e2
   ·cases e2;exact fin
   ·cases e2;exact fin
   ·cases e2
|.con _,k,is,v,w,Q,e,hv,hr,q=>by cases e
|.glo _,k,is,v,w,Q,e,hv,hr,q=>by cases e
|.bin _ _ _,k,is,v,w,Q,e,hv,hr,q=>by cases e
|.neg _,k,is,v,w,Q,e,hv,hr,q=>by cases e
|.not _,k,is,v,w,Q,e,hv,hr,q=>by cases e
|.and _ _,k,is,v,w,Q,e,hv,hr,q=>by cases e
|.or _ _,k,is,v,w,Q,e,hv,hr,q=>by cases e
|.ite _ _ _,k,is,v,w,Q,e,hv,hr,q=>by cases e
|.cmp _ _ _,k,is,v,w,Q,e,hv,hr,q=>by cases e
|.chain _ _ _ _ _,k,is,v,w,Q,e,hv,hr,q=>by cases e
|.call _ _,k,is,v,w,Q,e,hv,hr,q=>by cases e
|.blt _ _,k,is,v,w,Q,e,hv,hr,q=>by cases e
|.isi _ _,k,is,v,w,Q,e,hv,hr,q=>by cases e
|.mth _ _ _,k,is,v,w,Q,e,hv,hr,q=>by cases e
|.sl _ _ _,k,is,v,w,Q,e,hv,hr,q=>by cases e
|.lst _,k,is,v,w,Q,e,hv,hr,q=>by cases e
|.tup _,k,is,v,w,Q,e,hv,hr,q=>by cases e
|.comp _ _ _ _ _ _,k,is,v,w,Q,e,hv,hr,q=>by cases e
|.isx _ _ _,k,is,v,w,Q,e,hv,hr,q=>by cases e
|.isv _ _,k,is,v,w,Q,e,hv,hr,q=>by cases e
|.att _ _ _,k,is,v,w,Q,e,hv,hr,q=>by cases e
theorem aX.at:∀{ds:List D}{vs:List V}{fs:List Addr} (n:Nat) {y:D},aX K H F ds vs fs->ds[n]?=some y->
 ∃w f1 f2 f3,vs[n]?=some w/\fs=f1++(f2++f3)/\bM K H F y w f2/\∀{F1 H':Hp}{y':D}{g:List Addr},aS F F1->(∀b∈f1,H' b=H b)->(∀b∈f3,H' b=H b)->bM K H' F1 y' w g->aX K H' F1 (ds.set n y') vs (f1++(g++f3))
|[],_,_,n,y,h,e=>by simp at e
|d::ds,_,_,0,y,h,e=>by
 obtain⟨v,r,g1,g2,rfl,rfl,h1,h2⟩:=h;simp at e;subst e;exact⟨v,[],g1,g2,rfl,rfl,h1,fun s1 _ h3 hr=>⟨v,r,_,g2,rfl,rfl,hr,aX.mono s1 _ _ _ h3 h2⟩⟩
|d::ds,_,_,n+1,y,h,e=>by
 obtain⟨v,r,g1,g2,rfl,rfl,h1,h2⟩:=h;obtain⟨w,f1,f2,f3,e1,rfl,q1,q2⟩:=aX.at n h2 (by simpa using e);refine⟨w,g1++f1,f2,f3,by simpa using e1,by simp,q1,fun s1 h3 h4 hr=>⟨v,r,g1,_,rfl,by simp,bM.mono s1 _ _ _ (fun b hb=>h3 b (aM _ hb)) h1,q2 s1 (fun b hb=>h3 b (aA _ hb)) h4 hr⟩⟩
theorem DX:∀(is:List Int) {x x' d:D},fJ is x d=some x'->∃ys,ki is x=some (.lst true ys)
|[],x,x',d,e=>by
 unfold fJ at e;split at e
 ·exact⟨_,rfl⟩
 ·cases e
|i::r,x,x',d,e=>by
 unfold fJ at e;have key:∀(xs:List D) (f:D->D),(((gh xs.length i).bind fun n=>(xs[n]?).bind fun y=>(fJ r y d).map fun y'=>f (.lst true (xs.set n y')))=some x'\/((gh xs.length i).bind fun n=>(xs[n]?).bind fun y=>(fJ r y d).map fun y'=>f (.tup (xs.set n y')))=some x')->∃ys,((gh xs.length i).bind fun n=>(xs[n]?).bind fun y=>ki r y)=some (.lst true ys):=by
  intro xs f e;cases e1:gh xs.length i with
  |none=>rw[e1]at e;rcases e with e|e<;>cases e
  |some n=>
   rw[e1]at e;show ∃ys,((xs[n]?).bind fun y=>ki r y)=some (.lst true ys);cases e2:xs[n]? with
   |none=>simp[e2]at e
   |some y=>
    show ∃ys,ki r y=some (.lst true ys);cases e3:fJ r y d with
    |none=>simp[e2,e3]at e
    |some y'=>exact DX r e3
 unfold ki;split at e
 ·exact key _ id (.inl e)
 ·exact key _ id (.inr e)
 ·cases e
theorem wJ:∀(is:List Int) {x:D}{ys:List D}{v:V}{fs:List Addr},aS F H->bM K H F x v fs->ki is x=some (.lst true ys)->fs.Nodup->
 ∃c ws f2,c∈fs/\H c=some (.lst ws)/\Reach K H v is (.ref c)/\bM K H F (.lst true ys) (.ref c) f2/\(∀b∈f2,b∈fs)/\∀{d x':D},fJ is x d=some x'->ws.length<ai /\
  ∀{F1 H':Hp}{u:V}{f:List Addr},aS F F1->bM K H' F1 d u f->f.Nodup->(∀a∈f,a∉fs)->(∀b∈fs,b≠c->H' b=H b)->H' c=some (.lst (ws++[u]))->∃fs',bM K H' F1 x' v fs'/\fs'.Nodup/\∀b∈fs',b∈fs\/b∈f
|[],x,ys,v,fs,s,r,e,nd=>by
 cases e;have r0:=r;unfold bM at r;rw[if_pos rfl]at r;obtain⟨a,vs,f1,rfl,r2,r3,r4,rfl⟩:=r;have nd':=b9.mp nd;refine⟨a,vs,a::f1,aG,r2,rfl,r0,fun b hb=>hb,fun{d x'} e=>?_⟩;unfold fJ at e;have e:(if ys.length<ai then some (D.lst true (ys++[d]))else none)=some x':=e;split at e
 ·rename_i hl;cases e;refine⟨by rw[r4.len];exact hl,fun{F1 H' u f} s1 rd nf df h1 h2=>⟨a::(f1++f),?_,?_,?_⟩⟩
  ·unfold bM;rw[if_pos rfl];exact⟨a,vs++[u],f1++f,rfl,h2,by rw[aR,r4.len];exact hl,aX.app (aX.mono s1 _ _ _ (fun b hb=>h1 b (ao _ hb) fun z=>nd'.1 (by rw[<-z];exact hb)) r4) (aX.one rd),rfl⟩
  ·refine b9.mpr ⟨fun z=>?_,bJ.mpr ⟨nd'.2,nf,fun p hp q hq z=>df q hq (by rw[<-z];exact ao _ hp)⟩⟩;rcases bL.mp z with z|z
   ·exact nd'.1 z
   ·exact df a z aG
  ·intro b hb;rcases aQ.mp hb with rfl|hb
   ·exact .inl aG
   ·rcases bL.mp hb with z|z
    ·exact .inl (ao _ z)
    ·exact .inr z
 ·cases e
|i::r,x,ys,v,fs,s,rx,e,nd=>by
 unfold ki at e;split at e
 ·rename_i xs;cases e1:gh xs.length i with
  |none=>rw[e1]at e;cases e
  |some n=>
   rw[e1]at e;have e:((xs[n]?).bind fun y=>ki r y)=some (.lst true ys):=e;cases e2:xs[n]? with
   |none=>rw[e2]at e;cases e
   |some y=>
    rw[e2]at e;have e:ki r y=some (.lst true ys):=e;unfold bM at rx;rw[if_pos rfl]at rx;obtain⟨a,vs,f0,rfl,r2,r3,r4,rfl⟩:=rx;obtain⟨w,f1,f2,f3,w1,rfl,w2,w3⟩:=aX.at n r4 e2;have nd':=b9.mp nd;obtain⟨n1,n23,n4⟩:=bJ.mp nd'.2;obtain⟨n2,n3,n5⟩:=bJ.mp n23;obtain⟨c,ws,f4,c1,c2,c4,c6,c7,c5⟩:=wJ r s w2 e n2;have cf:c∈f1++(f2++f3):=aA _ (aM _ c1);refine⟨c,ws,f4,ao _ cf,c2,⟨a,false,vs,w,rfl,by unfold tT;rw[r2],xO (by rw[r4.len];exact e1) w1,c4⟩,c6,fun b hb=>ao _ (aA _ (aM _ (c7 b hb))),fun{d x'} e3=>?_⟩;have e3:((gh xs.length i).bind fun n=>(xs[n]?).bind fun y=>(fJ r y d).map fun y'=>D.lst true (xs.set n y'))=some x':=e3;rw[e1]at e3;have e3:((xs[n]?).bind fun y=>(fJ r y d).map fun y'=>D.lst true (xs.set n y'))=some x':=e3;rw[e2]at e3;have e3:((fJ r y d).map fun y'=>D.lst true (xs.set n y'))=some x':=e3;cases e4:fJ r y d with
    |none=>rw[e4]at e3;cases e3
    |some y'=>
     rw[e4]at e3;cases e3;obtain⟨c3,c5⟩:=c5 e4;refine⟨c3,fun{F1 H' u f} s1 rd nf df h1 h2=>?_⟩;obtain⟨g,g1,g2,g3⟩:=c5 s1 rd nf (fun b hb z=>df b hb (ao _ (aA _ (aM _ z)))) (fun b hb hc=>h1 b (ao _ (aA _ (aM _ hb))) hc) h2;refine⟨a::(f1++(g++f3)),?_,?_,?_⟩
     ·unfold bM;rw[if_pos rfl];refine⟨a,vs,_,rfl,by rw[h1 a aG fun z=>nd'.1 (by rw[z];exact cf)];exact r2,r3,w3 s1 (fun b hb=>h1 b (ao _ (aM _ hb)) fun z=>n4 b hb c (aM _ c1) z) (fun b hb=>h1 b (ao _ (aA _ (aA _ hb))) fun z=>n5 c c1 b hb z.symm) g1,rfl⟩
     ·exact G5 nd (fun b hb=>g3 b hb) g2 df
     ·exact Nu g3
 ·rename_i xs;cases e1:gh xs.length i with
  |none=>rw[e1]at e;cases e
  |some n=>
   rw[e1]at e;have e:((xs[n]?).bind fun y=>ki r y)=some (.lst true ys):=e;cases e2:xs[n]? with
   |none=>rw[e2]at e;cases e
   |some y=>
    rw[e2]at e;have e:ki r y=some (.lst true ys):=e;obtain⟨a,vs,rfl,r2,r3,r4⟩:=rx;obtain⟨w,f1,f2,f3,w1,rfl,w2,w3⟩:=aX.at n r4 e2;obtain⟨n1,n23,n4⟩:=bJ.mp nd;obtain⟨n2,n3,n5⟩:=bJ.mp n23;obtain⟨c,ws,f4,c1,c2,c4,c6,c7,c5⟩:=wJ r s w2 e n2;refine⟨c,ws,f4,aA _ (aM _ c1),c2,⟨a,true,vs,w,rfl,by unfold tT;rw[s _ _ r2],xO (by rw[r4.len];exact e1) w1,c4⟩,c6,fun b hb=>aA _ (aM _ (c7 b hb)),fun{d x'} e3=>?_⟩;have e3:((gh xs.length i).bind fun n=>(xs[n]?).bind fun y=>(fJ r y d).map fun y'=>D.tup (xs.set n y'))=some x':=e3;rw[e1]at e3;have e3:((xs[n]?).bind fun y=>(fJ r y d).map fun y'=>D.tup (xs.set n y'))=some x':=e3;rw[e2]at e3;have e3:((fJ r y d).map fun y'=>D.tup (xs.set n y'))=some x':=e3;cases e4:fJ r y d with
    |none=>rw[e4]at e3;cases e3
    |some y'=>
     rw[e4]at e3;cases e3;obtain⟨c3,c5⟩:=c5 e4;refine⟨c3,fun{F1 H' u f} s1 rd nf df h1 h2=>?_⟩;obtain⟨g,g1,g2,g3⟩:=c5 s1 rd nf (fun b hb z=>df b hb (aA _ (aM _ z))) (fun b hb hc=>h1 b (aA _ (aM _ hb)) hc) h2;refine⟨f1++(g++f3),⟨a,vs,rfl,s1 _ _ r2,r3,w3 s1 (fun b hb=>h1 b (aM _ hb) fun z=>n4 b hb c (aM _ c1) z) (fun b hb=>h1 b (aA _ (aA _ hb)) fun z=>n5 c c1 b hb z.symm) g1⟩,?_,?_⟩
     ·exact xS nd (fun b hb=>g3 b hb) g2 df
     ·exact wH g3
 ·cases e
theorem SR[Ex](Tw:bV K Tv Y)(I:aZ K F0 H0 L O F H fp)(lt:cT e=true)(he:pE Tv e L=.ok d)
  (h:∀v F1 H1,aZ K F0 H0 L O F1 H1 fp->aS F F1->aS H H1->(a9 d=true->∃f,jA K H0 F1 H1 fp d v f)->Q v H1):wE K Y Ex.E e O H Q:=by
 refine eL Tw e (I.env (cA e)) (dW I.g.s) lt ?_;rw[he];intro F' H' v f g fr r;refine h v _ H' (I.back g) (fun b o q=>?_) g.h fun ho=>?_
 ·have hb:b∉ownAt fp (cA e):=fun z=>by
   obtain⟨i,_,hb⟩:=e_.mp z;rw[I.nf i b hb]at q;cases q
  rw[eT hb];exact g.f b o (dP I.g.s b o q)
 refine⟨f,bM.less (kh g.s ((I.lists _).mono g.h)) d v f ho r,fr.nd,fun a ha=>aS.none (jV _ _) (fr.nf a ha),fun a ha=>aS.none I.g.h (fr.nh a ha),fun i a ha hb=>?_⟩;obtain⟨o,e,_⟩:=I.ex i a hb;rw[fr.nh a ha]at e;cases e
theorem RE[Ex](Tw:bV K Tv Y){o:CE}(I:aZ K F0 H0 L O F H fp)(la:cT a=true)(h:cK K F0 H0 (E4 Tv o a L) X):wE K Y Ex.E (.mth .append o (.cons a .nil)) O H fun _ H1=>X.nx O H1:=by
 unfold E4 at h;split at h
 ·rename_i p ep;obtain⟨d,e1,h⟩:=DV h;split at h
  ·rename_i x ex;split at h
   ·rename_i ho;cases e3:fJ p.2 x d with
    |none=>rw[e3]at h;exact h.elim
    |some x'=>
     rw[e3]at h;have h:cK K F0 H0 (.nx (L.set p.1 (some x'))) X:=h;obtain⟨v,hv,rx⟩:=I.rep _ _ ex;obtain⟨ys,eg⟩:=DX p.2 e3;obtain⟨c,ws,f2,c1,c2,c4,_,_,c5⟩:=wJ p.2 I.g.s rx eg (I.nd _);obtain⟨c3,c5⟩:=c5 e3;refine Qi I o (show yN L o=some (p.1,p.2)from ep) hv c4 ⟨?_,?_⟩
     ·show jH H c;unfold jH;rw[c2];trivial
     ·simp only[wEs];refine SR Tw I la e1 fun u F1 H1 I1 sF sH V1=>?_;obtain⟨f,V1⟩:=V1 ho;show(match H1 c with|some (.lst xs)=>xs.length<ai/\X.nx O (upd H1 c (.lst (xs++[u])))|_=>False);rw[sH _ _ c2];refine⟨c3,?_⟩;have hcf:c∉f:=fun z=>V1.dis p.1 c z c1;obtain⟨fs',g1,g2,g3⟩:=c5 (H':=upd H1 c (.lst (ws++[u]))) sF (bM.mono (aS.refl _) _ _ _ (fun b hb=>aK fun z=>hcf (by rw[<-z];exact hb)) V1.r) V1.nd (fun b hb=>V1.dis p.1 b hb) (fun b hb hc=>by
       rw[aK hc];obtain⟨o,eo,_⟩:=I.ex p.1 b hb;rw[eo,sH b o eo]) bu
      refine h O F1 _ _ (I1.put c1 hv g1 g2 (fun b hb=>?_) (fun b hb=>?_) fun i hi b hb z=>?_)
      ·rcases g3 b hb with q|q
       ·exact I1.nf p.1 b q
       ·exact V1.nf b q
      ·rcases g3 b hb with q|q
       ·exact I1.nh p.1 b q
       ·exact V1.nh b q
      ·rcases g3 b hb with q|q
       ·exact hi (I1.dis i p.1 b z q)
       ·exact V1.dis i b q z
   ·exact h.elim
  ·exact h.elim
 ·exact h.elim
theorem okX[Ex](Tw:bV K Tv Y)(I:aZ K F0 H0 L O F H fp)(lt:cT e=true)(h:cK K F0 H0 (pX Tv e L) X):wE K Y Ex.E e O H fun _ H1=>X.nx O H1:=by
 have gen:cK K F0 H0 ((pE Tv e L).aY fun _=>.nx L) X->wE K Y Ex.E e O H fun _ H1=>X.nx O H1:=fun h=>by
  rcases l0 h with⟨x,e1,hx⟩|⟨d,e1,h⟩
  ·exact ud Tw I lt e1 hx
  exact runD' Tw I lt e1 fun v F1 H1 I1 _ _=>h O F1 H1 fp I1
 cases e with
 |mth m o as=>
  cases o with
  |var k=>
   obtain⟨_,lt2⟩:=band' (show(cT (.var k)&&iP as)=true from lt);cases m with
   |append=>
    cases as with
    |nil=>exact h.elim
    |cons a r=>
     cases r with
     |cons _ _=>exact h.elim
     |nil=>
      obtain⟨la,_⟩:=band' (show(cT a&&iP .nil)=true from lt2);rcases yQ (show cK K F0 H0 ((pE Tv a L).mX (lY L[k]?) fun d=>match L[k]? with|some (some (.lst true xs))=>if(decide (xs.length<ai)&&(a9 d||!(cA a).contains k))=true then .nx ((gJ (cA a) (a9 d) L).set k (some (.lst true (xs++[d]))))else .bad|_=>.bad) X from h)with⟨hb,x,e1,hx⟩|⟨d,e1,h⟩
      ·unfold lY at hb;split at hb
       ·rename_i xs q;obtain⟨a0,us,fs,s1,s2,s3,s4,s5⟩:=I.lst q;refine slot_of s1 ⟨?_,?_⟩
        ·show jH H a0;unfold jH;rw[s2];trivial
        ·simp only[wEs];exact ud Tw I la e1 hx
       ·cases hb
      split at h
      ·rename_i xs q;split at h
       ·rename_i c;obtain⟨c1,c2⟩:=band' c;have c1:=of_decide_eq_true c1;obtain⟨a0,us,fs,s1,s2,s3,s4,s5⟩:=I.lst q;refine slot_of s1 ⟨?_,?_⟩
        ·show jH H a0;unfold jH;rw[s2];trivial
        ·simp only[wEs];refine wF Tw I la e1 fun v F1 H1 fp1 f I1 V1=>?_;obtain⟨a1,us1,fs1,t1,t2,t3,t4,t5⟩:=I1.lst (k:=k) (xs:=xs) (by rw[yR c2];exact q);rw[s1]at t1;cases t1;show(match H1 a0 with|some (.lst xs)=>xs.length<ai/\X.nx O (upd H1 a0 (.lst (xs++[v])))|_=>False);rw[t2];refine⟨by rw[t4.len];exact c1,?_⟩;have nd1:(fs1++f).Nodup:=by
          have n:=I1.nd k;rw[t5]at n;refine bJ.mpr ⟨(b9.mp n).2,V1.nd,fun a ha b hb z=>?_⟩;subst z;exact V1.dis k a hb (by rw[t5];exact ao _ ha)
         obtain⟨fp',I'⟩:=I1.BW (xs:=xs) (xs':=xs++[d]) (vs:=us1) (vs':=us1++[v]) (fs:=fs1) (fs':=fs1++f) V1 s1 t5 (by rw[aR,t4.len];simp;omega)
          (fun h1 h2=>aX.app (aX.mono (aS.refl _) _ _ _ h1 t4) (aX.one (bM.mono (aS.refl _) _ _ _ h2 V1.r))) nd1 (fun b hb=>bL.mp hb)
         exact h O F1 _ fp' I'
       ·exact h.elim
      ·exact h.elim
   |extend=>
    cases as with
    |nil=>exact h.elim
    |cons a r=>
     cases r with
     |cons _ _=>exact h.elim
     |nil=>
      obtain⟨la,_⟩:=band' (show(cT a&&iP .nil)=true from lt2);rcases yQ (show cK K F0 H0 ((pE Tv a L).mX (lY L[k]?) fun d=>yO k (cA a) d L) X from h)with⟨hb,x,e1,hx⟩|⟨d,e1,h⟩
      ·unfold lY at hb;split at hb
       ·rename_i xs q;obtain⟨a0,us,fs,s1,s2,s3,s4,s5⟩:=I.lst q;refine slot_of s1 ⟨?_,?_⟩
        ·show jH H a0;unfold jH;rw[s2];trivial
        ·simp only[wEs];exact ud Tw I la e1 hx
       ·cases hb
      unfold yO at h;split at h
      ·rename_i ys;split at h
       ·rename_i xs q;split at h
        ·rename_i c;obtain⟨c1,c2⟩:=band' c;have c1:=of_decide_eq_true c1;obtain⟨a0,us,fs,s1,s2,s3,s4,s5⟩:=I.lst q;refine slot_of s1 ⟨?_,?_⟩
         ·show jH H a0;unfold jH;rw[s2];trivial
         ·simp only[wEs];refine wF Tw I la e1 fun v F1 H1 fp1 f I1 V1=>?_;obtain⟨a1,us1,fs1,t1,t2,t3,t4,t5⟩:=I1.lst (k:=k) (xs:=xs) (by rw[yR c2];exact q);rw[s1]at t1;cases t1;have rv:=V1.r;unfold bM at rv;rw[if_pos rfl]at rv;obtain⟨b,ws,f2,rfl,k2,k3,k4,rfl⟩:=rv;show(match H1 a0 with|some (.lst xs)=>∃zs,H1 b=some (.lst zs)/\xs.length+zs.length<=ai/\X.nx O (upd H1 a0 (.lst (xs++zs)))|_=>False);rw[t2];refine⟨ws,k2,by rw[t4.len,k4.len];exact c1,?_⟩;have nd2:=b9.mp V1.nd;have nd1:(fs1++f2).Nodup:=by
           have n:=I1.nd k;rw[t5]at n;refine bJ.mpr ⟨(b9.mp n).2,nd2.2,fun a ha b hb z=>?_⟩;subst z;exact V1.dis k a (ao _ hb) (by rw[t5];exact ao _ ha)
          obtain⟨fp',I'⟩:=I1.BW (xs:=xs) (xs':=xs++ys) (vs:=us1) (vs':=us1++ws) (fs:=fs1) (fs':=fs1++f2) V1 s1 t5 (by rw[aR,t4.len,k4.len];exact c1)
           (fun h1 h2=>aX.app (aX.mono (aS.refl _) _ _ _ h1 t4) (aX.mono (aS.refl _) _ _ _ (fun b hb=>h2 b (ao _ hb)) k4)) nd1 (fun b hb=>by
            rcases bL.mp hb with z|z
            ·exact .inl z
            ·exact .inr (ao _ z))
          exact h O F1 _ fp' I'
        ·exact h.elim
       ·exact h.elim
      ·exact h.elim
  |ix o i=>
   obtain⟨_,lt2⟩:=band' (show(cT (.ix o i)&&iP as)=true from lt);cases m with
   |append=>
    cases as with
    |nil=>exact h.elim
    |cons a r=>
     cases r with
     |cons _ _=>exact h.elim
     |nil=>
      obtain⟨la,_⟩:=band' (show(cT a&&iP .nil)=true from lt2);exact RE Tw I la h
   |_=>exact gen h
  |_=>exact gen h
 |_=>exact gen h
theorem Qj[Ex](Tw:bV K Tv Y){g:CG}(I:aZ K F0 H0 L O F H fp)(lg:Qe g=true)(lt:cT e=true)(h:cK K F0 H0 (pA Tv g e L) X):wE K Y Ex.E e O H fun x H1=>wG K Y Ex.E g x O H1 X.nx:=by
 cases g with
 |name i=>
  rcases l0 (show cK K F0 H0 ((pE Tv e L).aY fun d=>.nx ((gJ (cA e) (a9 d) L).set i (some d))) X from h)with⟨x,e1,hx⟩|⟨d,e1,h⟩
  ·exact ud Tw I lt e1 hx
  exact wF Tw I lt e1 fun v F1 H1 fp1 f I1 V1=>h _ F1 H1 _ (I1.set V1 i)
 |tup gs=>
  rcases l0 (show cK K F0 H0 ((pE Tv e L).aY fun d=>(pG (.tup gs) d (gJ (cA e) (a9 d) L)).aY .nx) X from h)with⟨x,e1,hx⟩|⟨d,e1,h⟩
  ·exact ud Tw I lt e1 hx
  obtain⟨TH,e2,h⟩:=BU h (BV _ _ _);refine wF Tw I lt e1 fun v F1 H1 fp1 f I1 V1=>?_;exact Qg (.tup gs) I1 V1 e2 fun TF fp' I' _=>h TF _ H1 fp' I'
 |sub o i=>
  obtain⟨_,li⟩:=band' (show(cT o&&cT i)=true from lg);cases o with
  |var k=>
   rcases l0 (show cK K F0 H0 ((pE Tv e L).aY fun d=>(pE Tv i (gJ (cA e) (a9 d) L)).mX false fun j=>match L[k]? with
    |some (some x)=>if(a9 d||!(cA e).contains k)=true then(R.opt (putIn x d j)).aY fun x'=>.nx ((gJ (cA e) (a9 d) L).set k (some x'))else .bad
    |_=>.bad) X from h)with⟨x,e1,hx⟩|⟨d,e1,h⟩
   ·exact ud Tw I lt e1 hx
   obtain⟨j,e2,h⟩:=DV h;cases q:L[k]? with
   |none=>simp only[q]at h;exact h.elim
   |some o=>
    cases o with
    |none=>simp only[q]at h;exact h.elim
    |some x=>
     simp only[q]at h;by_cases c:(a9 d||!(cA e).contains k)=true
     ·rw[if_pos c]at h;obtain⟨x',e3,h⟩:=BU h bf.opt;have e3:=nB e3;refine wF Tw I lt e1 fun v F1 H1 fp1 f I1 V1=>?_;show j9 O k fun x=>wE K Y Ex.E i O H1 fun y H2=>match x with
       |.ref a=>match H2 a with
        |some (.lst xs)=>∃k j,y=.int k/\gh xs.length k=some j/\X.nx O (upd H2 a (.lst (xs.set j v)))
        |some (.dK kvs)=>∃k,y=kV k/\kvs.length<ai/\X.nx O (upd H2 a (.dK (putK kvs k v)))
        |some (.dT kvs)=>∃k b,y=.ref b/\H2 b=some (.tup (k.map kV))/\kvs.length<ai/\X.nx O (upd H2 a (.dT (putK kvs k v)))
        |_=>False
       |_=>False
      have nd1:∀{F2 H2:Hp}{a0:Addr}{fs1:List Addr},aZ K F0 H0 (gJ (cA e) (a9 d) L) O F2 H2 fp1->jA K H0 F2 H2 fp1 d v f->fp1 k=a0::fs1->(fs1++f).Nodup:=fun I2 V2 t5=>by
       have n:=I2.nd k;rw[t5]at n;refine bJ.mpr ⟨(b9.mp n).2,V2.nd,fun a ha b hb z=>?_⟩;subst z;exact V2.dis k a hb (by rw[t5];exact ao _ ha)
      have q1:(gJ (cA e) (a9 d) L)[k]?=some (some x):=by rw[yR c];exact q
      cases x with
      |lst o xs=>
       cases o with
       |false=>cases e3
       |true=>
        cases j with
        |int j=>
         have e3:(gh xs.length j).map (fun n=>D.lst true (xs.set n d))=some x':=e3;cases en:gh xs.length j with
         |none=>rw[en]at e3;cases e3
         |some n=>
          rw[en]at e3;cases e3;obtain⟨a0,us,fs,s1,s2,s3,s4,s5⟩:=I1.lst q1;refine slot_of s1 (SQ Tw I1 V1 li e2 fun w F2 H2 I2 V2 rj=>?_);have rj:w=.int j:=rj rfl rfl;subst rj;obtain⟨a1,us1,fs1,t1,t2,t3,t4,t5⟩:=I2.lst q1;rw[s1]at t1;cases t1;simp only[t2];refine⟨j,n,rfl,by rw[t4.len];exact en,?_⟩;obtain⟨fs',q1,q2,q3⟩:=aX.set n t4 V2.r (nd1 I2 V2 t5);obtain⟨fp',I'⟩:=I2.BW (xs:=xs) (xs':=xs.set n d) (vs:=us1) (vs':=us1.set n v) (fs:=fs1) (fs':=fs') V2 s1 t5 (by rw[qp];exact t3)
           (fun h1 h2=>aX.mono (aS.refl _) _ _ _ (fun b hb=>by
            rcases q3 b hb with z|z
            ·exact h1 b z
            ·exact h2 b z) q1) q2 q3
          exact h O F2 _ fp' I'
        |_=>cases e3
      |_=>cases e3
     ·rw[if_neg c]at h;exact h.elim
  |_=>exact h.elim
theorem jm(f:α->D)(h:∀a,bG (f a)=f a):∀l:List α,aB (l.map f)=l.map f
|[]=>rfl
|a::r=>by show bG (f a)::aB (r.map f)=_;rw[h a,jm f h r];rfl
theorem wK:∀(ds es:List D),aB ds=ds->aB es=es->aB (mY ds es)=mY ds es
|[],es,_,_=>by cases es<;>rfl
|d::r,[],_,_=>rfl
|d::r,e::t,h,h'=>by
 have h:bG d::aB r=d::r:=h;have h':bG e::aB t=e::t:=h';injection h with h1 h2;injection h' with h3 h4;show D.tup [bG d,bG e]::aB (mY r t)=_;rw[h1,h3,wK r t h2 h4];rfl
theorem z0:∀(ds:List D) (n:Nat),aB ds=ds->aB (jI n ds)=jI n ds
|[],_,_=>rfl
|d::r,n,h=>by
 have h':bG d::aB r=d::r:=h;injection h' with h1 h2;show D.tup [.int (n:Int),bG d]::aB (jI (n+1) r)=_;rw[h1,z0 r (n+1) h2];rfl
theorem Qk{items:Bool×List D}(h:pI Tv src L=.ok items):aB items.2=items.2:=by
 cases src with
 |seq a=>
  obtain⟨x,e1,e2⟩:=bZ h;obtain⟨ds,e3,e4⟩:=bZ e2;cases e4;cases x with
  |str z=>cases e3;exact jm _ (fun _=>rfl) _
  |lst o xs=>cases e3;exact ef xs
  |tup xs=>cases e3;exact ef xs
  |_=>cases e3
 |range as=>
  obtain⟨x,e1,e2⟩:=bZ h;obtain⟨ds,e3,e4⟩:=bZ e2;cases e4;unfold lB at e3;split at e3
  ·obtain⟨_,e5⟩:=gW e3;cases e5;exact jm _ (fun _=>rfl) _
  ·obtain⟨_,e5⟩:=gW e3;cases e5;exact jm _ (fun _=>rfl) _
  ·cases e3
 |zip as=>
  obtain⟨xs,e1,e2⟩:=bZ h;unfold qe at e2;split at e2
  ·cases e2;exact wK _ _ (ef _) (ef _)
  ·cases e2;exact wK _ _ (ef _) (ef _)
  ·cases e2
 |enum a=>
  obtain⟨x,e1,e2⟩:=bZ h;cases x with
  |lst o xs=>cases e2;exact z0 _ 0 (ef xs)
  |_=>cases e2
theorem E7[Ex]{g:CG}{b:dS}{B:Hp}{ok:Hp->Prop}(hok:∀H'',aS B H''->ok H'')
 (hb:∀{L:bA}{O:L2.St}{F H:Hp}{fp:Nat->List Addr}{X:Ends},aZ K B H0 L O F H fp->cK K B H0 (cB Tv n b L) X->wSs K Y Ex.E b X O H) :
 ∀(ds:List D) (its:List Item) {L:bA}{O:L2.St}{F H:Hp}{fp:Nat->List Addr},aZ K B H0 L O F H fp->jU K B ds its->cK K B H0 (forR (pG g) (cB Tv n b) (aB ds) L) X->forL ok (wG K Y Ex.E g) (wSs K Y Ex.E b) X its O H
|[],its,L,O,F,H,fp,I,hi,h=>by
 cases hi;exact⟨hok H (I.g.f.trans I.g.s),h O F H fp I⟩
|d::ds,its,L,O,F,H,fp,I,hi,h=>by
 obtain⟨it,r,rfl,i1,i2⟩:=hi;have hit:PU K F d it:=by
  cases it with
  |v x=>exact aP.mono I.g.f d x i1
  |tup xs=>obtain⟨es,q1,q2,q3⟩:=i1;exact⟨es,q1,aF.mono I.g.f es xs q2,q3⟩
 refine⟨hok H (I.g.f.trans I.g.s),zY I.g.s hit fun F1 H1 v g1 r1=>?_⟩;obtain⟨TH,e1,h⟩:=BU (show cK K B H0 ((pG g (bG d) L).aY fun TH=>match cB Tv n b TH with
  |.nx TQ=>forR (pG g) (cB Tv n b) (aB ds) TQ
  |.ct TQ=>forR (pG g) (cB Tv n b) (aB ds) TQ
  |.bk TQ=>.nx TQ
  |.rt d=>.rt d
  |.ex x=>.ex x
  |.bad=>.bad) X from h) (BV _ _ _)
 refine ruG' g (I.grow g1) r1 e1 fun TF fp' I'=>?_;refine hb I' ?_;cases q:cB Tv n b TH with
 |nx TQ=>simp only[q]at h;exact fun O F H fp I3=>E7 hok hb ds r I3 i2 h
 |ct TQ=>simp only[q]at h;exact fun O F H fp I3=>E7 hok hb ds r I3 i2 h
 |bk TQ=>simp only[q]at h;exact h
 |rt d=>simp only[q]at h;exact h
 |ex x=>simp only[q]at h;exact h
 |bad=>simp only[q]at h;exact h.elim
end
theorem DY:∀(fs:List (Str×Nat)) (acc:List (Str×V)),(acc.map (·.1)++fs.map (·.1)).Nodup->kF fs vs acc=acc++fs.map fun p=>(p.1,vs.getD p.2 .non)
|[],acc,_=>by simp[kF]
|(f,j)::r,acc,h=>by
 have hp:∀(acc:List (Str×V)) (v:V),f∉acc.map (·.1)->gu f v acc=acc++[(f,v)]:=by
  intro acc v;induction acc with
  |nil=>intro _;rfl
  |cons p acc ih=>
   obtain⟨g,x⟩:=p;intro hn;simp only[cM,aQ,not_or]at hn;show(if g=f then(g,v)::acc else(g,x)::gu f v acc)=_;rw[if_neg (fun z=>hn.1 z.symm),ih hn.2];rfl
 have hf:f∉acc.map (·.1):=fun z=>by
  have:=(bJ.mp h).2.2 f z f (by simp);exact this rfl
 show kF r vs (gu f (vs.getD j .non) acc)=_;rw[hp acc _ hf,DY r (acc++[(f,vs.getD j .non)]) (by simpa[cJ]using h)];simp[cJ]
theorem aF.getD:∀{ds:List D}{vs:List V} (j:Nat),aF K F ds vs->aP K F (bG (ds.getD j .non)) (vs.getD j .non)
|[],_,j,h=>by cases h;rfl
|d::ds,_,0,h=>by
 obtain⟨v,r,rfl,h2,_⟩:=h;exact(aP.bG d v).mpr h2
|d::ds,_,j+1,h=>by
 obtain⟨v,r,rfl,_,h3⟩:=h;exact aF.getD j h3
theorem BX(h:aF K F ds vs):∀fs:List (Str×Nat),aF K F (fs.map fun p=>bG (ds.getD p.2 .non)) (fs.map fun p=>vs.getD p.2 .non)
|[]=>rfl
|p::fs=>⟨_,_,rfl,aF.getD p.2 h,BX h fs⟩
mutual
theorem aP.xT(e:wy F' F):∀(d:D) (v:V),E5 d=true->aP K F' d v->aP K F d v
|.non,v,_,h=>h
|.bl b,v,_,h=>h
|.int i,v,_,h=>h
|.str x,v,_,h=>h
|.lst _ _,v,s,h=>by cases s
|.exc _ _ _,v,s,h=>by cases s
|.tup ds,v,s,h=>by
 obtain⟨a,vs,h1,h2,h3,h4⟩:=h;exact⟨a,vs,h1,e.tup h2,h3,aF.xT e ds vs s h4⟩
theorem aF.xT(e:wy F' F):∀(ds:List D) (vs:List V),lZ ds=true->aF K F' ds vs->aF K F ds vs
|[],vs,_,h=>h
|d::ds,vs,s,h=>by
 obtain⟨s1,s2⟩:=band' (show(E5 d&&lZ ds)=true from s);obtain⟨v,r,h1,h2,h3⟩:=h;exact⟨v,r,h1,aP.xT e d v s1 h2,aF.xT e ds r s2 h3⟩
end
variable{F0 H0:Hp}
theorem aZ.drop{O:L2.St}{fp:Nat->List Addr}{i:Nat}{w:Option V}(I:aZ K F0 H0 L O F H fp):aZ K F0 H0 (L.set i none) (O.set i w) F H fp where
 g:=I.g
 len:=by simp[I.len]
 rep:=fun j d e=>by
  by_cases hij:i=j
  ·subst hij;rw[dm]at e;split at e
   ·split at e<;>cases e
   ·rename_i z;exact absurd rfl z
  ·rw[ck hij]at e ⊢;exact I.rep j d e
 ex:=I.ex
 nd:=I.nd
 nf:=I.nf
 nh:=I.nh
 dis:=I.dis
theorem okB'{Y:List G}(Tw:bV K Tv Y){E':XK}{nx:Hp->Prop}{O:L2.St}{fp:Nat->List Addr}:∀(b:CB) {F H:Hp},aZ K F0 H0 L O F H fp->ltB b=true->
 (∀d,pB Tv b L=.ok d->∀F1 H1,aZ K F0 H0 L O F1 H1 fp->nx H1)->
 (∀x,pB Tv b L=.ex x->∃C ks xs,x=.exc C ks xs/\lZ xs=true/\∀F1 H1 d vs,aZ K F0 H0 L O F1 H1 fp->F1 d=some (f_ d (ks.zip vs))->aF K F1 xs vs->E' (.ref C) (some d) H1)->
 (pB Tv b L=.bad->False)->wB K Y b E' O H nx
|.call g as,F,H,I,lt,h1,h2,h3=>by
 unfold wB;have ep:pB Tv (.call g as) L=(match Tv[g]? with|some (.fn m dds)=>(dz Tv as L).d8.bind fun ds=>m (aB ds++dds)|_=>.bad):=rfl;rw[ep]at h1 h2 h3;cases q:Tv[g]? with
 |none=>rw[q]at h3;exact(h3 rfl).elim
 |some p=>
  obtain⟨g',e1,e2⟩:=Tw.get g q;rw[q]at h1 h2 h3;rw[e1];cases p<;>first|exact(h3 rfl).elim|skip
  cases g'<;>first|exact e2.elim|skip
  rename_i m dds sp dvs;dsimp only at h1 h2 h3 ⊢;refine@kJ K Tv Y Tw ⟨E0⟩ as L O (adopt F H (ownAt fp (ja as))) H _ (I.env (ja as)) (dW I.g.s) lt ?_;cases e3:dz Tv as L with
  |ex x=>rw[e3]at h3;exact(h3 rfl).elim
  |bad=>rw[e3]at h3;exact(h3 rfl).elim
  |ok ds=>
   rw[e3]at h1 h2 h3;intro F1 H1 vs f g1 fr r;obtain⟨F2,g2,_,rf⟩:=qf g1 fr r;refine e2.1 _ _ _ _ ⟨F2,aB ds++dds,g2.s,by rw[lD,ef,e2.2.1],aF.app ((aF.aB ds vs).mpr rf) (aF.mono (qg F2) dds dvs e2.2.2),?_⟩;have h1:∀d,m (aB ds++dds)=.ok d->∀F1 H1,aZ K F0 H0 L O F1 H1 fp->nx H1:=h1;have h2:∀x,m (aB ds++dds)=.ex x->_:=h2;have h3:m (aB ds++dds)=.bad->False:=h3;cases em:m (aB ds++dds)with
   |bad=>exact(h3 em).elim
   |ok d=>exact fun F3 H3 v f3 g3 _ _=>h1 d em _ H3 (I.back (g2.trans g3))
   |ex x=>
    obtain⟨C,ks,xs,rfl,hf,hx⟩:=h2 x em;intro F3 H3 d vs3 g3 hd hr;have gg:=g2.trans g3;refine hx _ H3 d vs3 (I.back gg) ?_ (aF.xT (kh gg.s ((I.lists _).mono gg.h)) xs vs3 hf hr);rw[eT,hd];intro z;obtain⟨o,e,k⟩:=I.lists _ d z;have e':=gg.h _ _ e;rw[gg.s _ _ hd]at e';cases e';rcases k with⟨_,k⟩|⟨_,k⟩<;>cases k
|.ite c a b,F,H,I,lt,h1,h2,h3=>by
 obtain⟨l1,l2⟩:=band' (show(cT c&&(ltB a&&ltB b))=true from lt);obtain⟨l2,l3⟩:=band' l2;unfold wB;have ep:pB Tv (.ite c a b) L=(pT Tv c L).d8.bind fun k=>if k=true then pB Tv a L else pB Tv b L:=rfl
 rw[ep]at h1 h2 h3;cases e3:pT Tv c L with
 |ex x=>rw[e3]at h3;exact(h3 rfl).elim
 |bad=>rw[e3]at h3;exact(h3 rfl).elim
 |ok k=>
  rw[e3]at h1 h2 h3
  letI:Ex:=⟨E0⟩
  refine L3.Qh Tw I l1 e3 fun F1 H1 I1=>?_;cases k with
  |true=>exact okB' Tw a I1 l2 h1 h2 h3
  |false=>exact okB' Tw b I1 l3 h1 h2 h3
variable{X:Ends}
theorem Ql[Ex]{Y:List G}(Tw:bV K Tv Y){O:L2.St}{fp:Nat->List Addr}(I:aZ K F0 H0 L O F H fp)(lt:iP as=true)(h:cK K F0 H0 (pS Tv n (.rais g as) L) X):wS K Y Ex.E (.rais g as) X O H:=by
 have h:cK K F0 H0 (match Tv[g]? with
  |some (.cls C fs k)=>(dz Tv as L).aY fun ds=>if(decide (ds.length+1=k)&&decide (fs.map (·.1)).Nodup)=true then .ex (xR C fs ds)else .bad
  |_=>.bad) X:=h
 show(match Y[g]? with
  |some (.cls C fs n)=>tS C fs n (wEs K Y Ex.E as) Ex.E X O H
  |_=>False)
 cases q:Tv[g]? with
 |none=>rw[q]at h;exact h.elim
 |some p=>
  obtain⟨g',e1,e2⟩:=Tw.get g q;rw[q]at h;rw[e1];cases p<;>first|exact h.elim|skip
  cases g'<;>first|exact e2.elim|skip
  rename_i C fs k _ _ _;obtain⟨rfl,rfl,rfl⟩:=e2;dsimp only at h ⊢;unfold tS;rcases l0 h with⟨x,e3,hx⟩|⟨ds,e3,h⟩
  ·exact RC Tw I lt e3 hx
  split at h
  ·rename_i c;obtain⟨c1,c2⟩:=band' c;refine kJ Tw as (I.env (ja as)) (dW I.g.s) lt ?_;rw[e3];intro F1 H1 vs fp1 g1 fr r;obtain⟨F2,g2,_,rf⟩:=qf g1 fr r;refine⟨by rw[rf.len];exact of_decide_eq_true c1,fun d hd=>?_⟩;have h:ie K F0 H0 (xR C fs ds):=h;have g3:=qZ (o:=f_ d (kF fs (.non::vs) [])) g2.s hd;have eq:kF fs (.non::vs) []=(fs.map (·.1)).zip (fs.map fun p=>(V.non::vs).getD p.2 .non):=by
    rw[DY fs [] (by simpa using of_decide_eq_true c2),qv,List.zip_map']
   refine h (upd F2 d (f_ d (kF fs (.non::vs) []))) _ d (fs.map fun p=>(V.non::vs).getD p.2 .non) (((I.own _).trans g2).trans g3) (by rw[bu,eq]) ?_;have hn:aF K (upd F2 d (f_ d (kF fs (.non::vs) []))) (D.non::ds) (V.non::vs):=⟨_,_,rfl,rfl,aF.mono g3.f ds vs rf⟩;exact BX hn fs
  ·exact h.elim
theorem BY{e a:Addr}{o:HO}(n:H0 e=none)(h:upd H0 e o a=none):H0 a=none:=by
 by_cases z:a=e
 ·rw[z];exact n
 ·rw[aK z]at h;exact h
theorem bD.E8{e:Addr}{o:HO}(g:bD F1 (upd H0 e o) F H)(g0:bD F0 H0 F1 H1)(n:H0 e=none)(f:F1 e=some o):bD F0 H0 F H:=by
 refine⟨fun b u q=>g.h b u ?_,g0.f.trans g.f,g.s,fun b u q q'=>?_⟩
 ·rw[aK (bQ q n)];exact q
 ·cases z:F1 b with
  |none=>
   have hb:b≠e:=fun y=>by rw[y,f]at z;cases z
   have:=g.n b u q z;rw[aK hb]at this;exact this
  |some w=>exact g0.n b w z q'
theorem aZ.hd{O:L2.St}{fp:Nat->List Addr}{e:Addr}{o:HO}(I:aZ K F0 H0 L O F H fp)(h:H e=some o)(f:F e=some o):aZ K F (upd H0 e o) L O F H fp:=by
 refine⟨⟨fun b u q=>?_,aS.refl _,I.g.s,fun b u q q'=>by rw[q]at q';cases q'⟩,I.len,I.rep,I.ex,I.nd,I.nf,fun i a ha=>?_,I.dis⟩
 ·by_cases z:b=e
  ·subst z;rw[bu]at q;cases q;exact h
  ·rw[aK z]at q;exact I.g.h b u q
 ·have z:a≠e:=fun z=>by have:=I.nf i a ha;rw[z,f]at this;cases this
  rw[aK z];exact I.nh i a ha
theorem aZ.E8{O:L2.St}{fp:Nat->List Addr}{e:Addr}{o:HO}(I:aZ K F1 (upd H0 e o) L O F H fp)(g0:bD F0 H0 F1 H1)(n:H0 e=none)(f:F1 e=some o):aZ K F0 H0 L O F H fp:=
 ⟨I.g.E8 g0 n f,I.len,I.rep,I.ex,I.nd,I.nf,fun i a ha=>BY n (I.nh i a ha),I.dis⟩
variable{φ:Heap->Prop}
mutual
theorem aP.off{e:Addr}(he:∀o,F e=some o->o=.ext φ):∀(d:D) (v:V) (n:Nat),lq d n=true->aP K F d v->aP K (oW F e) d v
|.non,v,n,h,r=>r
|.bl b,v,n,h,r=>r
|.int i,v,n,h,r=>r
|.str x,v,n,h,r=>r
|.lst o ds,v,n,h,r=>by
 cases n with
 |zero=>exact absurd (show false=true from h) aE
 |succ n=>
  obtain⟨a,vs,h1,h2,h3,h4⟩:=r;refine⟨a,vs,h1,?_,h3,aF.off he ds vs n h h4⟩;have ne:a≠e:=fun z=>by
   subst z;rcases h2 with h2|⟨ob,h2⟩
   ·have:=he _ h2;cases this
   ·have:=he _ h2;cases this
  rcases h2 with h2|⟨ob,h2⟩
  ·exact .inl (by rw[off_ne ne];exact h2)
  ·exact .inr ⟨ob,by rw[off_ne ne];exact h2⟩
|.tup ds,v,n,h,r=>by
 cases n with
 |zero=>exact absurd (show false=true from h) aE
 |succ n=>
  obtain⟨a,vs,h1,h2,h3,h4⟩:=r;refine⟨a,vs,h1,?_,h3,aF.off he ds vs n h h4⟩;rw[off_ne fun z=>by subst z;have:=he _ h2;cases this];exact h2
|.cst _,v,n,h,r=>absurd (show false=true from h) aE
|.exc _ _ _,v,n,h,r=>absurd (show false=true from h) aE
theorem aF.off{e:Addr}(he:∀o,F e=some o->o=.ext φ):∀(ds:List D) (vs:List V) (n:Nat),fE ds n=true->aF K F ds vs->aF K (oW F e) ds vs
|[],vs,n,h,r=>r
|d::ds,vs,n,h,r=>by
 obtain⟨h1,h2⟩:=band' (show(lq d n&&fE ds n)=true from h);obtain⟨v,w,e1,r1,r2⟩:=r;exact⟨v,w,e1,aP.off he d v n h1 r1,aF.off he ds w n h2 r2⟩
end
theorem RG[Ex]{Y:List G}(Tw:bV K Tv Y){i:Nat}{O:L2.St}{fp:Nat->List Addr}(hx0:t_ K Tv Y H0)(I:aZ K F0 H0 L O F H fp)(lt:iP as=true)(h:cK K F0 H0 (pS Tv n (.acl i g as) L) X):wS K Y Ex.E (.acl i g as) X O H:=by
 have h:cK K F0 H0 (match Tv[g]? with
  |some (.fe m)=>(dz Tv as L).d8.aY fun ds=>BQ i (iE (aB ds)) L (m (aB ds))
  |_=>.bad) X:=h
 cases q:Tv[g]? with
 |none=>rw[q]at h;exact h.elim
 |some p=>
  rw[q]at h;cases p<;>first|exact h.elim|skip
  rename_i m;obtain⟨e,sp0,C,od,e1,he,hs⟩:=hx0 g m q;have h:cK K F0 H0 ((dz Tv as L).d8.aY fun ds=>BQ i (iE (aB ds)) L (m (aB ds))) X:=h;show(match Y[g]? with
   |some (.fn sp dvs)=>wEs K Y Ex.E as O H fun vs H1=>sp (vs++dvs) H1 (fun x H1=>wG K Y Ex.E (.name i) x O H1 X.nx) Ex.E
   |_=>False)
  rw[e1];show wEs K Y Ex.E as O H fun vs H1=>Gv e sp0 (vs++[]) H1 (fun x H1=>X.nx (O.set i (some x)) H1) Ex.E;refine kJ Tw as (I.env (ja as)) (dW I.g.s) lt ?_;cases e3:dz Tv as L with
  |ex x=>rw[e3]at h;exact h.elim
  |bad=>rw[e3]at h;exact h.elim
  |ok ds=>
   rw[e3]at h;have h:cK K F0 H0 (BQ i (iE (aB ds)) L (m (aB ds))) X:=h;intro F1 H1 vs f g1 fr r;obtain⟨F2,g2,_,rf⟩:=qf g1 fr r;rw[dM];have h1e:H1 e=some (eF false e C od):=g2.h e _ (I.g.h e _ he);refine⟨C,od,h1e,hs _ _ _ _ ?_⟩;have sub:∀{A B:Hp},aS A B->aS (oW A e) (oW B e):=fun s b o z=>by
    by_cases y:b=e
    ·rw[y,mW]at z;cases z
    ·rw[off_ne y]at z ⊢;exact s b o z
   cases em:m (aB ds)with
   |ex x=>rw[em]at h;exact h.elim
   |bad=>rw[em]at h;exact h.elim
   |ok d=>
    rw[em]at h;cases d<;>first|exact h.elim|skip
    rename_i b;cases ec:iE (aB ds)with
    |false=>rw[ec]at h;exact h.elim
    |true=>
    rw[ec]at h;have h:∀O F H fp,aZ K F0 H0 (L.set i (some (.bl b))) O F H fp->X.nx O H:=h;refine⟨oW F2 e,aB ds,sub g2.s,ef ds,aF.off (φ:=Gs false e C od) (fun o z=>?_) _ vs 12 ec ((aF.aB ds vs).mpr rf),?_⟩
    ·have:=g2.s e o z;rw[h1e]at this;cases this;rfl
    rw[em];intro F3 H3 v f3 g3 fr3 r3 hn;obtain⟨rfl,rfl⟩:=r3;have gg:bD F2 H1 (fun b=>if b=e then F2 e else F3 b) (upd H3 e (eF false e C od)):=by
     refine⟨fun b u z=>?_,fun b u z=>?_,fun b u z=>?_,fun b u z z'=>?_⟩
     ·by_cases y:b=e
      ·subst y;rw[bu];rw[h1e]at z;exact z
      ·rw[aK y];exact g3.h b u (by rw[off_ne y];exact z)
     ·by_cases y:b=e
      ·subst y;rw[if_pos rfl];exact z
      ·rw[if_neg y];exact g3.f b u (by rw[off_ne y];exact z)
     ·by_cases y:b=e
      ·subst y;rw[if_pos rfl]at z;have:=g2.s b u z;rw[h1e]at this;rw[bu];exact this
      ·rw[if_neg y]at z;rw[aK y];exact g3.s b u z
     ·by_cases y:b=e
      ·subst y;rw[if_pos rfl,z']at z;cases z
      ·rw[if_neg y]at z;have:=g3.n b u z (by rw[off_ne y];exact z');rw[off_ne y]at this;exact this
    have I4:=I.back (g2.trans gg);exact h _ _ _ _ (I4.set (d:=.bl b) (v:=.bl b) (f:=[]) ⟨⟨rfl,rfl⟩,fk,fun _ z=>absurd z aJ,fun _ z=>absurd z aJ,fun _ _ z=>absurd z aJ⟩ i)
mutual
theorem ruS{K:PySem.W.Frag}{Tv:List PG}{Y:List G}(Tw:bV K Tv Y)[Ex]{n:Nat}:∀(c:CS) {F0 H0 F H:Hp}{L:bA}{O:L2.St}{fp:Nat->List Addr}{X:Ends},t_ K Tv Y H0->aZ K F0 H0 L O F H fp->Qd c=true->cK K F0 H0 (pS Tv n c L) X->wS K Y Ex.E c X O H
|.expr e,F0,H0,F,H,L,O,fp,X,hx0,I,lt,h=>okX Tw I lt h
|.asg g e,F0,H0,F,H,L,O,fp,X,hx0,I,lt,h=>Qj Tw I (band' lt).1 (band' lt).2 h
|.acl i g as,F0,H0,F,H,L,O,fp,X,hx0,I,lt,h=>RG (n:=n) Tw hx0 I lt h
|.casg i e,F0,H0,F,H,L,O,fp,X,hx0,I,lt,h=>by
 rcases l0 (show cK K F0 H0 ((pE Tv e L).aY fun d=>.nx ((gJ (cA e) (a9 d) L).set i (some d))) X from h)with⟨x,e1,hx⟩|⟨d,e1,h⟩
 ·exact ud Tw I lt e1 hx
 exact wF Tw I lt e1 fun v F1 H1 fp1 f I1 V1=>h _ F1 H1 _ (I1.set V1 i)
|.tasg g e,F0,H0,F,H,L,O,fp,X,hx0,I,lt,h=>Qj Tw I (band' lt).1 (band' lt).2 h
|.ret e,F0,H0,F,H,L,O,fp,X,hx0,I,lt,h=>RD Tw I lt h
|.ifs c a b,F0,H0,F,H,L,O,fp,X,hx0,I,lt,h=>by
 obtain⟨l1,l2⟩:=band' (show(cT c&&(kK a&&kK b))=true from lt);obtain⟨l2,l3⟩:=band' l2;rcases l0 (show cK K F0 H0 ((pT Tv c L).aY fun k=>if k=true then cB Tv n a L else cB Tv n b L) X from h)with⟨x,e1,hx⟩|⟨k,e1,h⟩
 ·exact RA Tw I l1 e1 hx
 refine Qh Tw I l1 e1 fun F1 H1 I1=>?_;cases k with
 |true=>exact yS Tw a hx0 I1 l2 h
 |false=>exact yS Tw b hx0 I1 l3 h
|.forr g src b,F0,H0,F,H,L,O,fp,X,hx0,I,lt,h=>by
 obtain⟨l1,l2⟩:=band' (show(ltI src&&kK b)=true from lt);rcases l0 (show cK K F0 H0 ((pI Tv src L).aY fun items=>forR (pG g) (cB Tv n b) items.2 (gJ (qY src) items.1 L)) X from h)with⟨x,e1,hx⟩|⟨items,e1,h⟩
 ·exact RB Tw I l1 e1 hx
 refine Qc Tw src (ownAt fp (qY src)) (I.env (qY src)) (dW I.g.s) (I.lists _) l1 ?_;rw[e1];intro F' H' ok its g1 hok hi hl;obtain⟨fp',I'⟩:∃fp',aZ K F0 H0 (gJ (qY src) items.1 L) O (ou items.1 F' (ownAt fp (qY src))) H' fp':=by
  cases items.1 with
  |true=>exact⟨fp,I.back g1⟩
  |false=>exact⟨_,I.Qf g1⟩
 have hf:aB items.2=items.2:=Qk e1;have h:=cK.rebase I'.g h;rw[<-hf]at h;exact E7 hok (fun I3 h3=>yS Tw b hx0 I3 l2 h3) items.2 its I'.rebase hi h
|.brk,F0,H0,F,H,L,O,fp,X,hx0,I,lt,h=>h O F H fp I
|.cont,F0,H0,F,H,L,O,fp,X,hx0,I,lt,h=>h O F H fp I
|.never,F0,H0,F,H,L,O,fp,X,hx0,I,lt,h=>h.elim
|.rais g as,F0,H0,F,H,L,O,fp,X,hx0,I,lt,h=>Ql Tw I lt h
|.tri i g b hd,F0,H0,F,H,L,O,fp,X,hx0,I,lt,h=>by
 obtain⟨l1,l2⟩:=band' (show(ltB b&&kK hd)=true from lt);have h:cK K F0 H0 (match Tv[g]? with
  |some (.exb Cs)=>match pB Tv b L with
   |.ok _=>.nx L
   |.ex (.exc C ks xs)=>if(decide (C∈Cs)&&lZ xs)=true then uc i (cB (Tv.map PG.hand) n hd (L.set i (some (.exc C ks xs))))else .bad
   |_=>.bad
  |_=>.bad) X:=h
 show(match Y[g]? with
  |some (.exb B _)=>Bp K i B (wB K Y b) (fun e=>wSs K (Y.map (G.hand e)) E0 hd) X O H
  |_=>False)
 cases q:Tv[g]? with
 |none=>rw[q]at h;exact h.elim
 |some p=>
  obtain⟨g',e1,e2⟩:=Tw.get g q;rw[q]at h;rw[e1];cases p<;>first|exact h.elim|skip
  cases g'<;>first|exact e2.elim|skip
  rename_i Cs B _;obtain⟨rfl,hmro⟩:=e2;dsimp only at h ⊢;unfold Bp;refine okB' Tw b I l1 (fun d e F1 H1 I1=>?_) (fun x e=>?_) (fun e=>?_)
  ·rw[e]at h;exact h O F1 H1 fp I1
  ·rw[e]at h;cases x<;>first|exact h.elim|skip
   rename_i C ks xs;dsimp only at h;split at h
   ·rename_i c;obtain⟨c1,c2⟩:=band' c;refine⟨C,ks,xs,rfl,c2,fun F1 H1 d vs I1 hd' hr=>⟨C,rfl,hmro C (of_decide_eq_true c1),fun e he=>?_⟩⟩;have g2:=qZ (o:=eF false e C (some d)) I1.g.s he;have I2:=I1.grow g2;have V2:jA K H0 (upd F1 e (eF false e C (some d))) (upd H1 e (eF false e C (some d))) fp (.exc C ks xs) (.ref e) []:=
     ⟨⟨⟨e,d,vs,rfl,bu,g2.f _ _ hd',aF.mono g2.f xs vs hr⟩,rfl⟩,fk,fun _ z=>absurd z aJ,fun _ z=>absurd z aJ,fun _ _ z=>absurd z aJ⟩
    have n0:H0 e=none:=aS.none I1.g.h he;have g3:bD F0 H0 (upd F1 e (eF false e C (some d))) (upd H1 e (eF false e C (some d))):=I2.g;have un:∀{Uv:bA}{TH:L2.St}{F2 H2:Hp}{fp2:Nat->List Addr},aZ K (upd F1 e (eF false e C (some d))) (upd H0 e (eF false e C (some d))) Uv TH F2 H2 fp2->aZ K F0 H0 Uv TH F2 H2 fp2:=fun I3=>I3.E8 g3 n0 bu;refine@yS K (Tv.map PG.hand) (Y.map (G.hand e)) Tw.hand ⟨E0⟩ n hd _ _ _ _ _ _ _ _ (t_.hand (C:=C) (od:=some d) Tw bu) ((I2.set V2 i).hd bu bu) l2 ?_;cases q2:cB (Tv.map PG.hand) n hd (L.set i (some (.exc C ks xs)))with
    |nx TH=>rw[q2]at h;exact fun O F H fp I3=>h _ F H fp (un I3).drop
    |rt d=>rw[q2]at h;exact fun v F H f g fr r=>h v F H f (g.E8 g3 n0 bu) ⟨fr.nd,fun a ha=>BY n0 (fr.nh a ha),fr.nf⟩ r
    |bk TH=>rw[q2]at h;exact h.elim
    |ct TH=>rw[q2]at h;exact h.elim
    |ex x=>rw[q2]at h;exact h.elim
    |bad=>rw[q2]at h;exact h.elim
   ·exact h.elim
  ·rw[e]at h;exact h.elim
theorem yS{K:PySem.W.Frag}{Tv:List PG}{Y:List G}(Tw:bV K Tv Y)[Ex]{n:Nat}:∀(c:dS) {F0 H0 F H:Hp}{L:bA}{O:L2.St}{fp:Nat->List Addr}{X:Ends},t_ K Tv Y H0->aZ K F0 H0 L O F H fp->kK c=true->cK K F0 H0 (cB Tv n c L) X->wSs K Y Ex.E c X O H
|.nil,F0,H0,F,H,L,O,fp,X,hx0,I,lt,h=>h O F H fp I
|.cons s r,F0,H0,F,H,L,O,fp,X,hx0,I,lt,h=>by
 obtain⟨l1,l2⟩:=band' (show(Qd s&&kK r)=true from lt);have h:cK K F0 H0 (match pS Tv n s L with|.nx TF=>cB Tv n r TF|x=>x) X:=h;refine ruS (n:=n) Tw s hx0 I l1 ?_;cases q:pS Tv n s L with
 |nx TF=>simp only[q]at h;exact fun O F H fp I'=>yS Tw r hx0 I' l2 h
 |bk TF=>simp only[q]at h;exact h
 |ct TF=>simp only[q]at h;exact h
 |rt d=>simp only[q]at h;exact h
 |ex x=>simp only[q]at h;exact h
 |bad=>simp only[q]at h;exact h.elim
end
theorem DZ[Ex]{K:PySem.W.Frag}{Tv:List PG}{Y:List G}(Tw:bV K Tv Y)(hx0:∀H0,t_ K Tv Y H0){n:Nat}{N:List Str}{c:dS}(lt:kK c=true){m:List D->R D}{vs:List V}{H:Hp}{Q:VK}(hm:∀ds,m ds≠.bad->ds.length<=N.length/\yP Tv n N c ds=m ds)
  (h:∃F ds,aS F H/\aB ds=ds/\aF K F ds vs/\PV K F H (m ds) Q):wSs K Y Ex.E c { nx:=fun _ H'=>Q .non H',rt:=Q } (vs.map some++aW (N.length-vs.length) none) H:=by
 obtain⟨F,ds,s,hz,r,h⟩:=h;have hb:m ds≠.bad:=fun z=>by rw[z]at h;exact h
 obtain⟨hl,hr⟩:=hm ds hb;rw[<-hr]at h;have I:aZ K F H (q9 N ds) (vs.map some++aW (N.length-vs.length) none) F H (fun _=>[]):=by
  refine⟨bD.refl s,?_,fun i d' q=>?_,fun _ _ ha=>absurd ha aJ,fun _=>fk,fun _ _ ha=>absurd ha aJ,fun _ _ ha=>absurd ha aJ,fun _ _ _ ha=>absurd ha aJ⟩
  ·unfold q9;simp[r.len]
  ·unfold q9 at q;by_cases hi:i<ds.length
   ·rw[bW (by simpa using hi),aU]at q;cases z:ds[i]? with
    |none=>rw[z]at q;cases q
    |some d2=>
     rw[z]at q;cases q;obtain⟨v,e1,e2⟩:=r.get i z;have hf:bG d'=d':=by
      have:∀(l:List D) (i:Nat) (x:D),aB l=l->l[i]?=some x->bG x=x:=by
       intro l;induction l with
       |nil=>intro i x _ h;simp at h
       |cons y l ih=>
        intro i x h1 h2;have h1:bG y::aB l=y::l:=h1;injection h1 with h3 h4;cases i with
        |zero=>simp at h2;subst h2;exact h3
        |succ i=>exact ih i x h4 (by simpa using h2)
      exact this ds i d' hz z
     refine⟨v,?_,?_⟩
     ·rw[bW (by simp[r.len,hi]),aU,e1];rfl
     ·have:=aP.vJ (H:=H) d' v e2;rw[hf]at this;exact this
   ·rw[cG (by simpa using hi)]at q;rw[pR]at q;split at q<;>cases q
 refine yS (n:=n) Tw c (hx0 _) I lt ?_;unfold yP at h;cases q:cB Tv n c (q9 N ds)with
 |nx O=>rw[q]at h;exact fun O F' H' fp I'=>h F' H' .non [] I'.g .nil ⟨rfl,rfl⟩
 |rt d'=>rw[q]at h;exact fun v F' H' f g fr rx=>h F' H' v f g fr rx
 |ex x=>rw[q]at h;exact h
 |bk O=>rw[q]at h;exact h.elim
 |ct O=>rw[q]at h;exact h.elim
 |bad=>rw[q]at h;exact h.elim
def xU(K:PySem.W.Frag)(mg:Str->Option Value)(x:Str)(st:Stmt)(ps:List Str):Prop:=
 ∃(f:Addr) (fd:dD),mH K x x st f fd/\mg x=some (.ref f)/\Binds K fd ps []
variable{P:a_}{w:bC}{mg:Str->Option Value}{base:Heap}{st:Stmt}{ps:List Str}
theorem xU.has{k:Nat}{x:Str}{sp:Sp}(D:xU K mg x st ps)
  (hok:∀f fd,mH K x x st f fd->eO P w K mg base (je P w) k f fd ps sp):yF P w K mg base k x (.fn sp []):=by
 obtain⟨f,fd,F,hm,hb⟩:=D;exact⟨f,fd,ps,[],hok f fd F,hm,F.kp,hb,.nil⟩
noncomputable def gi(Tv:List PG)(n:Nat)(N:List Str)(k:Nat)(c:dS)(ds:List D):R D:=if ds.length=k then yP Tv n N c ds else .bad
def BZ(Tv:List PG):Prop:=∀m,PG.fe m∉Tv
theorem BZ.hd{Y:List G}(h:BZ Tv)(H0:Hp):t_ K Tv Y H0:=fun _ m z=>absurd (eG z) (h m)
theorem G6(Tv:List PG):BZ (Tv.map PG.semi):=fun m z=>by
 obtain⟨p,_,e⟩:=fP.mp z;cases p<;>cases e
variable{qual:Str}{fd:dD}{N gl bn:List Str}
section
variable{P:a_}{w:bC}{K:PySem.W.Frag}{mg:Str->Option Value}{base:Heap}
theorem RH{x:Str}{f:Addr}{k:Nat}{Y:List G}(c:dS)(F:mH K x qual st f fd)(S:iw N ps (bE st))(hc:kT ⟨N,bE st,gl,bn,(fun _=>true),true,false⟩ c (d_ st)=true)
  (hg:r6 P w K mg base k gl Y) (Tw:bV K Tv Y) (nf:BZ Tv) (lt:kK c=true) (hb:∀x∈bn,mg x=none) (hN:ps.length<=N.length):eO P w K mg base (je P w) (k+1) f fd ps (sP K (gi Tv n N ps.length c)):=by
 have hm:∀ds,gi Tv n N ps.length c ds≠.bad->ds.length=ps.length/\yP Tv n N c ds=gi Tv n N ps.length c ds:=by
  intro ds h;unfold gi at h ⊢;by_cases e:ds.length=ps.length
  ·rw[if_pos e];exact⟨e,rfl⟩
  ·rw[if_neg e]at h;exact absurd rfl h
 refine PL c F S hc hg hb ?_ ?_
 ·rintro vs H Q E ⟨Fh,ds,s,hz,r,h⟩;rw[r.len];exact(hm ds fun z=>by rw[z]at h;exact h).1
 ·intro vs H Q E h;exact@DZ ⟨E⟩ K Tv Y Tw nf.hd n N c lt _ vs H Q (fun ds e=>⟨by rw[(hm ds e).1];exact hN,(hm ds e).2⟩) h
theorem Qm{x:Str}{f:Addr}{k:Nat}{Y:List G}(c:dS)(F:mH K x qual st f fd)(S:iw N ps (bE st))(hc:kT ⟨N,bE st,gl,bn,(fun _=>true),false,true⟩ c (d_ st)=true)
  (hg:r6 P w K mg base k gl Y) (Tw:bV K Tv Y) (lt:kK c=true) (hb:∀x∈bn,mg x=none) (hN:ps.length<=N.length):lV P w K mg base (k+1) f fd ps (sP K (gi (Tv.map PG.semi) n N ps.length c)):=by
 have hm:∀ds,gi (Tv.map PG.semi) n N ps.length c ds≠.bad->ds.length=ps.length/\yP (Tv.map PG.semi) n N c ds=gi (Tv.map PG.semi) n N ps.length c ds:=by
  intro ds h;unfold gi at h ⊢;by_cases e:ds.length=ps.length
  ·rw[if_pos e];exact⟨e,rfl⟩
  ·rw[if_neg e]at h;exact absurd rfl h
 refine Nr c F S hc hg hb ?_ ?_
 ·rintro vs H Q ⟨Fh,ds,s,hz,r,h⟩;rw[r.len];exact(hm ds fun z=>by rw[z]at h;exact h).1
 ·intro vs H Q h;exact@DZ ⟨E0⟩ K (Tv.map PG.semi) (Y.map G.semi) Tw.semi (G6 Tv).hd n N c lt _ vs H Q (fun ds e=>⟨by rw[(hm ds e).1];exact hN,(hm ds e).2⟩) h
end
noncomputable def Kd:Value->Bool
|.type n=>n=="list"
|_=>false
theorem RI{a:Addr}{xs:List V}(nk:(K.all fun p=>!Kd p.2.cls)=true)(h:fy K H a xs):Rd H a (.lst xs):=by
 rcases h with h|⟨o,its,n,hk,hc,_⟩
 ·exact h
 ·exfalso;have hm:∀(K:PySem.W.Frag),K.lookup a=some o->(a,o)∈K:=by
   intro K;induction K with
   |nil=>intro z;cases z
   |cons p r ih=>
    intro z;obtain⟨b,u⟩:=p;rw[b_]at z;split at z
    ·rename_i e;have e:=eq_of_beq e;cases z;subst e;exact aG
    ·exact ao _ (ih z)
  have q:=bz.mp nk _ (hm K hk);rw[hc]at q;exact absurd q (by decide)
noncomputable def iy(ns:List Int):D:=.lst false (ns.map D.int)
theorem z6:∀ns:List Int,aF K H (ns.map D.int) (ns.map V.int)
|[]=>rfl
|n::r=>⟨_,_,rfl,rfl,z6 r⟩
theorem z9:∀ns:List Int,aB (ns.map D.int)=ns.map D.int
|[]=>rfl
|n::r=>by show D.int n::aB (r.map D.int)=_;rw[z9 r];rfl
theorem Qn{k:Nat}{f:Addr}{m:List D->R D}(F:eO P w K mg base (je P w) k f fd ps (sP K m))
  (h:∀ns:List Int,ns.length<=63->m [iy ns]=.ok (.bl true)):eO P w K mg base nW k f fd ps (fun vs H Q E=>∃(a:Addr) (ns:List Int),vs=[.ref a]/\Rd H a (.lst (ns.map V.int))/\ns.length<=63/\∀H',Q (.bl true) H'):=by
 refine(L3.eO.calm F).imp ?_;rintro vs H Q E ⟨a,ns,rfl,hS,hl,q⟩;have hs:=szl;refine⟨H,[iy ns],aS.refl H,?_,⟨_,_,rfl,⟨a,ns.map V.int,rfl,hS,by rw[aC];omega,z6 ns⟩,rfl⟩,?_⟩
 ·show[D.lst false (aB (ns.map D.int))]=_;rw[z9];rfl
 ·rw[h ns hl];intro F' H' v fp g fr r;obtain⟨rfl,_⟩:=r;exact q H'
theorem G7{a:α}{f:α->R β}:(R.ok a).bind f=f a:=rfl
theorem pq_thn_ok'{a:α}{f:α->Fl}:(R.ok a).aY f=f a:=rfl
theorem G8{f:α->R β}:(R.ex x:R α).bind f=R.ex x:=rfl
theorem G9{f:α->Fl}:(R.ex x:R α).aY f=Fl.ex x:=rfl
theorem pq_thnL_ok'{a:α}{f:α->Fl}:(R.ok a).mX b f=f a:=rfl
theorem G_{a:α}:(R.ok a).d8=R.ok a:=rfl
variable{xs:List D}
theorem Nv:lY (some (some (.lst true xs)))=true:=rfl
theorem C0{a:α}:R.opt (some a)=R.ok a:=rfl
theorem Ke{r:R α}:R.bH true r=r:=rfl
theorem Hf{r:R α}(h:n<=ai):R.bH (decide (n<=ai)) r=r:=by
 rw[decide_eq_true h];rfl
variable{j:Int}
theorem Kf:pe .Add (.int i) (.int j)=.ok (.int (i+j)):=rfl
theorem Kg:pe .Sub (.int i) (.int j)=.ok (.int (i-j)):=rfl
theorem Kh(h:qz i j):pe .Mult (.int i) (.int j)=.ok (.int (i*j)):=by
 show R.bH (decide (qz i j)) _=_;rw[decide_eq_true h];rfl
theorem Kl(h:tH i j):pe .FloorDiv (.int i) (.int j)=.ok (.int (i / j)):=by
 show R.bH (decide (tH i j)) _=_;rw[decide_eq_true h];rfl
theorem Km(h:0<j):pe .Mod (.int i) (.int j)=.ok (.int (i%j)):=by
 show R.bH (decide (0<j)) _=_;rw[decide_eq_true h];rfl
theorem Kn(h:0<=j):pe .RShift (.int i) (.int j)=.ok (.int (i / 2 ^ j.toNat)):=by
 show R.bH (decide (0<=j)) _=_;rw[decide_eq_true h];rfl
variable{ys:List D}
theorem Hg{o':Bool}(h:xs.length+ys.length<=ai):pe .Add (.lst o xs) (.lst o' ys)=.ok (.lst true (aB xs++aB ys)):=by
 show R.bH (decide (xs.length+ys.length<=ai)) _=_;rw[decide_eq_true h];rfl
theorem Nx:eZ .Lt (.int i) (.int j)=.ok (.bl (decide (i<j))):=rfl
theorem Ko:eZ .LtE (.int i) (.int j)=.ok (.bl (decide (i<=j))):=rfl
theorem Ny:eZ .Gt (.int i) (.int j)=.ok (.bl (decide (j<i))):=rfl
theorem Hh:eZ .Eq (.int i) (.int j)=.ok (.bl (i==j)):=rfl
theorem Hi{x:Str}{y:Str}:eZ .Eq (.str x) (.str y)=.ok (.bl (x==y)):=rfl
variable{c:Bool}
theorem Hj:eZ .Eq (.bl b) (.bl c)=.ok (.bl (b==c)):=rfl
theorem Hl:eZ .NotEq (.bl b) (.bl c)=.ok (.bl (!(b==c))):=rfl
theorem Nz:eZ .Is x .non=.ok (.bl (jR x)):=rfl
theorem D0(h:di x=true)(h':di y=true):eZ .Eq x y=.ok (.bl (iD x y)):=by
 show R.bH (di x&&di y) _=_;rw[h,h'];rfl
theorem D3(h:di x=true)(h':di y=true):eZ .NotEq x y=.ok (.bl (!iD x y)):=by
 show R.bH (di x&&di y) _=_;rw[h,h'];rfl
theorem NB:iN (.bl b)=.ok b:=rfl
theorem Kp:vK (.lst o xs) (.int i)=(R.opt (gU xs i)).bind fun d=>.ok (bG d):=rfl
theorem Kq:vK (.tup xs) (.int i)=(R.opt (gU xs i)).bind fun d=>.ok (bG d):=rfl
theorem Ho{z:Str}:iO .len [.str z]=.ok (.int z.length):=rfl
theorem Hq:iO .len [.lst o xs]=.ok (.int xs.length):=rfl
theorem Hr:iO .len [.tup xs]=.ok (.int xs.length):=rfl
theorem Kr:iO .all [.lst o xs]=R.bH (xs.all r9) (.ok (.bl (xs.all uZ))):=rfl
theorem Hs:iO .int [.bl b]=.ok (.int (if b then 1 else 0)):=rfl
theorem Ks:qI (.lst o xs)=.ok (aB xs):=rfl
theorem Ht(h:-(2 ^ 62)<=j/\j.toNat<=ai):lB [.int j]=.ok (jS 0 j.toNat):=by
 show R.bH (decide (-(2 ^ 62)<=j/\j.toNat<=ai)) _=_;rw[decide_eq_true h];rfl
theorem B0(h:-(2 ^ 62)<=i/\i<2 ^ 62/\-(2 ^ 62)<=j/\j<2 ^ 62/\(j-i).toNat<=ai):lB [.int i,.int j]=.ok (jS i (j-i).toNat):=by
 show R.bH (decide (-(2 ^ 62)<=i/\i<2 ^ 62/\-(2 ^ 62)<=j/\j<2 ^ 62/\(j-i).toNat<=ai)) _=_;rw[decide_eq_true h];rfl
theorem Ku:t6 .non=.ok .non:=rfl
theorem NC:t6 (.bl b)=.ok (.bl b):=rfl
theorem Kv:t6 (.int i)=.ok (.int i):=rfl
theorem Kw{x:Str}:t6 (.str x)=.ok (.str x):=rfl
theorem Ky:bG .non=.non:=rfl
theorem ND:bG (.bl b)=.bl b:=rfl
theorem Kz:bG (.int i)=.int i:=rfl
theorem KA{x:Str}:bG (.str x)=.str x:=rfl
theorem KC:bG (.lst o xs)=.lst false (aB xs):=rfl
theorem KD:bG (.tup xs)=.tup (aB xs):=rfl
theorem Hu:aB []=[]:=rfl
theorem E9{r:List D}:aB (d::r)=bG d::aB r:=rfl
theorem KE:a9 (.int i)=true:=rfl
theorem KG:a9 (.lst o xs)=(o&&dw xs):=rfl
theorem KH:a9 (.tup xs)=dw xs:=rfl
theorem Hv:dw []=true:=rfl
theorem E_{r:List D}:dw (d::r)=(a9 d&&dw r):=rfl
variable{O:bA}
theorem Qo:gJ is true O=O:=rfl
theorem Qp:gJ is false O=kU is O:=rfl
theorem Hw:kU [] O=O:=rfl
theorem Fb{i:Nat}:kU (i::is) O=kU is (lE i O):=rfl
theorem NF{o:Option D}{r:bA}:lE 0 (o::r)=o.map bG::r:=rfl
theorem NG{o:Option D}{r:bA}:lE (n+1) (o::r)=o::lE n r:=rfl
theorem NH:E6 (.ex x)=.ex x:=rfl
theorem NI:E6 (.rt d)=.ok d:=rfl
theorem KI:lX t (.bl b)=(decide (t=.bool)||decide (t=.int)):=rfl
theorem Hz:lX t (.int i)=decide (t=.int):=rfl
theorem HA{x:Str}:lX t (.str x)=decide (t=.str):=rfl
theorem HC:lX t (.lst o xs)=(decide (t=.list)||decide (t=.none)):=rfl
theorem HD:lX t (.tup xs)=(decide (t=.tuple)||decide (t=.none)):=rfl
theorem HE:lX t .non=false:=rfl
noncomputable def AV(O:bA)(i:Nat):R D:=match O[i]? with
|some (some d)=>.ok (bG d)
|_=>.bad
noncomputable def u6(O:bA)(i:Nat):R D:=match O[i]? with
|some (some d)=>.ok d
|_=>.bad
noncomputable def B3(x:Fl)(f:bA->Fl):Fl:=match x with
|.nx O=>f O
|x=>x
noncomputable def Fc(Y:List PG)(g:Nat):R D:=match Y[g]? with
|some (.val d)=>.ok (bG d)
|_=>.bad
noncomputable def wL(Y:List PG)(g:Nat)(r:R (List D)):R D:=match Y[g]? with
|some (.fn m dds)=>r.bind fun ds=>m (aB ds++dds)
|_=>.bad
noncomputable def B4{α:Type}(c:R Bool)(a b:R α):R α:=c.bind fun k=>if k=true then a else b
noncomputable def R4(c:R Bool)(a b:Fl):Fl:=c.aY fun k=>if k=true then a else b
noncomputable def Qq(x:D)(b:R D):R D:=match x with
|.bl c=>if c=true then b else .ok (.bl false)
|_=>.bad
noncomputable def Qs:D->R (Option Int)
|.int i=>.ok (some i)
|_=>.bad
noncomputable def fq(z:D)(r:R D):R D:=match z with
|.bl k=>if k=true then r else .ok (.bl false)
|_=>.bad
noncomputable def R5:D->R Bool
|.bl k=>.ok k
|_=>.bad
noncomputable def R6:D->R (Bool×List D)
|.lst o xs=>.ok (a9 (.lst o xs),jI 0 (aB xs))
|_=>.bad
noncomputable def KJ(k:Nat)(vs:List Nat)(O:bA)(d:D):Fl:=match O[k]? with
|some (some (.lst true xs))=>if(decide (xs.length<ai)&&(a9 d||!vs.contains k))=true then .nx ((gJ vs (a9 d) O).set k (some (.lst true (xs++[d]))))else .bad
|_=>.bad
noncomputable def gu(k:Nat)(vs:List Nat)(O:bA)(d j:D):Fl:=match O[k]? with
|some (some x)=>if(a9 d||!vs.contains k)=true then(R.opt (putIn x d j)).aY fun x'=>.nx ((gJ vs (a9 d) O).set k (some x'))else .bad
|_=>.bad
noncomputable def Fd(Y:List PG)(g:Nat)(r:R (List D)):Fl:=match Y[g]? with
|some (.cls C fs k)=>r.aY fun ds=>if(decide (ds.length+1=k)&&decide (fs.map (·.1)).Nodup)=true then .ex (xR C fs ds)else .bad
|_=>.bad
noncomputable def KL(Y:List PG)(n i g:Nat)(h:dS)(O:bA)(r:R D):Fl:=match Y[g]? with
|some (.exb Cs)=>match r with
 |.ok _=>.nx O
 |.ex (.exc C ks xs)=>if(decide (C∈Cs)&&lZ xs)=true then uc i (cB (Y.map PG.hand) n h (O.set i (some (.exc C ks xs))))else .bad
 |_=>.bad
|_=>.bad
theorem KN{r:bA}:AV (some d::r) 0=.ok (bG d):=rfl
theorem KO{o:Option D}{r:bA}:AV (o::r) (n+1)=AV r n:=rfl
theorem HF{r:bA}:u6 (some d::r) 0=.ok d:=rfl
theorem HH{o:Option D}{r:bA}:u6 (o::r) (n+1)=u6 r n:=rfl
theorem HJ{f:bA->Fl}:B3 (.nx O) f=f O:=rfl
theorem HK{f:bA->Fl}:B3 (.rt d) f=.rt d:=rfl
theorem HL{f:bA->Fl}:B3 (.ex x) f=.ex x:=rfl
variable{r:List PG}
theorem NJ:Fc (.val d::r) 0=.ok (bG d):=rfl
theorem NK{o:PG}:Fc (o::r) (n+1)=Fc r n:=rfl
theorem NL{m:List D->R D}{dds:List D}{x:R (List D)}:wL (.fn m dds::r) 0 x=x.bind fun ds=>m (aB ds++dds):=rfl
theorem NN{o:PG}{x:R (List D)}:wL (o::r) (n+1) x=wL r n x:=rfl
theorem HM{k:Bool}{a b:R α}:B4 (.ok k) a b=if k=true then a else b:=rfl
theorem KP{k:Bool}{a b:Fl}:R4 (.ok k) a b=if k=true then a else b:=rfl
theorem HN{b:R D}:Qq (.bl c) b=if c=true then b else .ok (.bl false):=rfl
theorem KQ:Qs (.int i)=.ok (some i):=rfl
theorem KR{k:Bool}:R5 (.bl k)=.ok k:=rfl
theorem NO:R6 (.lst o xs)=.ok (a9 (.lst o xs),jI 0 (aB xs)):=rfl
variable{Y:List PG}
theorem KS{i:Nat}:pE Y (.var i) O=AV O i:=rfl
theorem KU:pE Y (.con v) O=t6 v:=rfl
theorem KW:pE Y (.glo g) O=Fc Y g:=rfl
theorem KY{op:lF}{b:CE}:pE Y (.bin op a b) O=(pE Y a O).bind fun x=>(pE Y b O).bind fun y=>pe op x y:=rfl
theorem KZ{b:CE}:pE Y (.and a b) O=(pE Y a O).bind fun x=>Qq x (pE Y b O):=rfl
theorem K0{c b:CE}:pE Y (.ite c a b) O=B4 (pT Y c O) (pE Y a O) (pE Y b O):=rfl
theorem K1{b:CE}:pE Y (.cmp op a b) O=(pE Y a O).bind fun x=>(pE Y b O).bind fun y=>eZ op x y:=rfl
theorem HP:pE Y (.call g as) O=wL Y g (dz Y as O):=rfl
theorem K3{f:Bf}:pE Y (.blt f as) O=(dz Y as O).bind (iO f):=rfl
theorem K4:pE Y (.isi a t) O=(pE Y a O).bind fun x=>R.bH (i_ x) (.ok (.bl (lX t x))):=rfl
theorem NP{b:CE}:pE Y (.ix a b) O=(pE Y a O).bind fun x=>(pE Y b O).bind fun y=>vK x y:=rfl
theorem NQ{lo hi:CO}:pE Y (.sl a lo hi) O=(pE Y a O).bind fun x=>(pO Y lo O).bind fun l=>(pO Y hi O).bind fun h=>xM x l h:=rfl
theorem K5:pE Y (.lst as) O=(dz Y as O).bind fun ds=>R.bH (decide (ds.length<=ai)) (.ok (.lst true ds)):=by
 rfl
theorem K6:pE Y (.tup as) O=(dz Y as O).bind fun ds=>R.bH (decide (ds.length<=ai)) (.ok (.tup ds)):=by
 rfl
variable{elt:CE}{tg:CG}{cond:CO}
theorem HQ:pE Y (.comp nl fr elt tg src cond) O=(pI Y src O).bind fun items=>(fG (pG tg) (pC Y cond) (pE Y elt) items.2 (nl.map (fun _=>none)++fr.map (fun i=>O.getD i none))).d8.bind fun ds=>.ok (.lst true ds):=rfl
theorem K7:pT Y (.not a) O=(pT Y a O).bind fun b=>.ok (!b):=rfl
theorem K8{b:CE}:pT Y (.and a b) O=B4 (pT Y a O) (pT Y b O) (.ok false):=rfl
theorem NR{b:CE}:pT Y (.or a b) O=B4 (pT Y a O) (.ok true) (pT Y b O):=rfl
theorem K9{b:CE}:pT Y (.cmp op a b) O=(pE Y a O).bind fun x=>(pE Y b O).bind fun y=>(eZ op x y).bind R5:=rfl
theorem HR:pT Y (.call g as) O=(wL Y g (dz Y as O)).bind iN:=by
 show(match Y[g]? with|some (.fn m dds)=>((dz Y as O).bind fun ds=>m (aB ds++dds)).bind iN|_=>.bad)=_;unfold wL;cases Y[g]? with
 |none=>rfl
 |some p=>cases p<;>rfl
theorem K_:pT Y (.isi a t) O=(pE Y a O).bind fun x=>R.bH (i_ x) (.ok (lX t x)):=rfl
theorem HS:dz Y .nil O=.ok []:=rfl
theorem Fe{r:i0}:dz Y (.cons a r) O=(pE Y a O).bind fun x=>(dz Y r O).bind fun xs=>.ok (x::xs):=rfl
theorem HU:pO Y .none O=.ok none:=rfl
theorem HV:pO Y (.some a) O=(pE Y a O).bind Qs:=rfl
theorem HW:pC Y .none=fun _=>.ok true:=rfl
theorem HY:pC Y (.some a)=pT Y a:=rfl
theorem HZ{i:Nat}:pG (.name i) d O=.ok (O.set i (some d)):=rfl
variable{gs:ny}
theorem La:pG (.tup gs) (.tup ds) O=R.bH (decide (ds.length=gs.len)) (sO gs ds O):=rfl
theorem H9:sO .nil [] O=.ok O:=rfl
theorem Ff{g:CG}{r:ny}{dr:List D}:sO (.cons g r) (d::dr) O=(pG g d O).bind fun TF=>sO r dr TF:=rfl
theorem Lb:pI Y (.seq a) O=(pE Y a O).bind fun x=>(qI x).bind fun ds=>.ok (a9 x,ds):=rfl
theorem Fg:pI Y (.range as) O=(dz Y as O).bind fun xs=>(lB xs).bind fun ds=>.ok (true,ds):=rfl
theorem Lc:pI Y (.zip as) O=(dz Y as O).bind qe:=rfl
theorem NS{p:Bool}:qe [.lst o xs,.lst p ys]=.ok (false,mY (aB xs) (aB ys)):=rfl
theorem Ld:qe [.tup xs,.tup ys]=.ok (false,mY (aB xs) (aB ys)):=rfl
theorem H_:pI Y (.enum a) O=(pE Y a O).bind R6:=by
 show(pE Y a O).bind _=_;congr 1;funext x;cases x<;>rfl
theorem Ia:cB Y n .nil O=.nx O:=rfl
theorem Fi{s:CS}{r:dS}:cB Y n (.cons s r) O=B3 (pS Y n s O) (cB Y n r):=by
 show(match pS Y n s O with|.nx TF=>cB Y n r TF|x=>x)=_;unfold B3;cases pS Y n s O<;>rfl
theorem Le{k:Nat}:pS Y n (.expr (.mth .append (.var k) (.cons a .nil))) O=(pE Y a O).mX (lY O[k]?) (KJ k (cA a) O):=rfl
theorem Lf{i:Nat}:pS Y n (.asg (.name i) e) O=(pE Y e O).aY fun d=>.nx ((gJ (cA e) (a9 d) O).set i (some d)):=rfl
theorem Lg{k:Nat}{i:CE}:pS Y n (.asg (.sub (.var k) i) e) O=(pE Y e O).aY fun d=>(pE Y i (gJ (cA e) (a9 d) O)).mX false fun j=>gu k (cA e) O d j:=rfl
theorem Ib:pS Y n (.tasg (.tup gs) e) O=(pE Y e O).aY fun d=>(pG (.tup gs) d (gJ (cA e) (a9 d) O)).aY .nx:=rfl
theorem Lh:pS Y n (.ret e) O=(pM Y e O).aY .rt:=rfl
theorem Li{c:CE}{a b:dS}:pS Y n (.ifs c a b) O=R4 (pT Y c O) (cB Y n a O) (cB Y n b O):=rfl
theorem Ic{g:CG}{b:dS}:pS Y n (.forr g src b) O=(pI Y src O).aY fun items=>forR (pG g) (cB Y n b) items.2 (gJ (qY src) items.1 O):=rfl
theorem Ie:pS Y n (.rais g as) O=Fd Y g (dz Y as O):=rfl
variable{fs:List (Str×Nat)}
theorem NU{k:Nat}{x:R (List D)}:Fd (.cls C fs k::r) 0 x=x.aY fun ds=>if(decide (ds.length+1=k)&&decide (fs.map (·.1)).Nodup)=true then .ex (xR C fs ds)else .bad:=rfl
theorem NV{o:PG}{x:R (List D)}:Fd (o::r) (n+1) x=Fd r n x:=rfl
variable{h:dS}
theorem B5{i:Nat}{b:CB}:pS Y n (.tri i g b h) O=KL Y n i g h O (pB Y b O):=rfl
theorem Ig:pB Y (.call g as) O=wL Y g (dz Y as O).d8:=rfl
theorem Lj{c:CE}{a b:CB}:pB Y (.ite c a b) O=B4 (pT Y c O).d8 (pB Y a O) (pB Y b O):=rfl
variable{Cs:List Addr}
theorem z_{i:Nat}{ks:List Str}(e:Y[g]?=some (.exb Cs))(hC:C∈Cs)(hf:lZ xs=true):KL Y n i g h O (.ex (.exc C ks xs))=uc i (cB (Y.map PG.hand) n h (O.set i (some (.exc C ks xs)))):=by
 unfold KL;rw[e];simp only[hC,hf,decide_true,Bool.and_self,if_true]
theorem Ih:i_ .non=true:=rfl
theorem Ii:jR .non=true:=rfl
theorem Lk:i_ (.bl b)=true:=rfl
theorem Ll:jR (.bl b)=false:=rfl
theorem Ij:i_ (.int i)=true:=rfl
theorem Ik:jR (.int i)=false:=rfl
theorem Il{x:Str}:i_ (.str x)=true:=rfl
theorem Im{x:Str}:jR (.str x)=false:=rfl
theorem Io:i_ (.lst o xs)=true:=rfl
theorem Ip:i_ (.tup xs)=true:=rfl
theorem Lm{i:Nat}:pM Y (.var i) O=u6 O i:=rfl
theorem Ln:pM Y (.con v) O=pE Y (.con v) O:=rfl
theorem Lo{op:lF}{b:CE}:pM Y (.bin op a b) O=pE Y (.bin op a b) O:=rfl
theorem Lp{b:CE}:pM Y (.and a b) O=pE Y (.and a b) O:=rfl
theorem Lq{b:CE}:pM Y (.cmp op a b) O=pE Y (.cmp op a b) O:=rfl
theorem Iq:pM Y (.call g as) O=pE Y (.call g as) O:=rfl
theorem NW{b:CE}:pM Y (.ix a b) O=pE Y (.ix a b) O:=rfl
theorem Lr:pM Y (.lst as) O=pE Y (.lst as) O:=rfl
theorem Ir:pM Y (.comp nl fr elt tg src cond) O=pE Y (.comp nl fr elt tg src cond) O:=rfl
theorem Ls:pM Y (.tup as) O=(ph Y as O).alt (fun ds=>R.bH (decide (ds.length<=ai)) (.ok (.tup ds))) (pE Y (.tup as) O):=by
 rfl
theorem Iu:ph Y .nil O=.ok []:=rfl
theorem Iw{i:Nat}{r:i0}:ph Y (.cons (.var i) r) O=(u6 O i).bind fun d=>(ph Y r (O.set i none)).bind fun ds=>.ok (d::ds):=by
 show(match O[i]? with|some (some d)=>(ph Y r (O.set i none)).bind fun ds=>.ok (d::ds)|_=>.bad)=_;unfold u6;cases O[i]? with
 |none=>rfl
 |some o=>cases o<;>rfl
theorem Iz{a:α}{f:α->R β}{y:R β}:(R.ok a:R α).alt f y=f a:=rfl
theorem Lu{k:Nat}:pS Y n (.expr (.mth .extend (.var k) (.cons a .nil))) O=(pE Y a O).mX (lY O[k]?) fun d=>yO k (cA a) d O:=rfl
theorem B6{o i:CE}:pS Y n (.expr (.mth .append (.ix o i) (.cons a .nil))) O=E4 Y (.ix o i) a O:=rfl
theorem ue{k:Nat}{vs:List Nat}(h:O[k]?=some (some (.lst true xs)))(h1:xs.length+ys.length<=ai)(h2:(a9 (.lst true ys)||!vs.contains k)=true):yO k vs (.lst true ys) O=.nx ((gJ vs (a9 (.lst true ys)) O).set k (some (.lst true (xs++ys)))):=by
 unfold yO;simp only[h];rw[decide_eq_true h1,h2];rfl
theorem Lv:iO .max [.int i,.int j]=.ok (.int (if j>i then j else i)):=rfl
theorem fV{k:Nat}{vs:List Nat}(h:O[k]?=some (some (.lst true xs)))(h1:xs.length<ai)(h2:(a9 d||!vs.contains k)=true):KJ k vs O d=.nx ((gJ vs (a9 d) O).set k (some (.lst true (xs++[d])))):=by
 unfold KJ;simp only[h];rw[decide_eq_true h1,h2];rfl
theorem Aa{k:Nat}{vs:List Nat}{j x':D}(h:O[k]?=some (some x))(h1:(a9 d||!vs.contains k)=true)(h2:putIn x d j=some x'):gu k vs O d j=.nx ((gJ vs (a9 d) O).set k (some x')):=by
 unfold gu;simp only[h];rw[h1,h2];rfl
theorem lM{g:D->bA->R bA}{e:bA->R D}(enc:β->D)(I:bA->Prop)(f:β->D):∀(xs:List β) (O:bA),I O->(∀x∈xs,∀O,I O->∃TH,g (enc x) O=.ok TH/\I TH/\e TH=.ok (f x))->fG g (fun _=>.ok true) e (xs.map enc) O=.ok (xs.map f)
|[],O,_,_=>rfl
|x::r,O,hi,h=>by
 obtain⟨TH,h1,h2,h3⟩:=h x aG O hi;have ih:=lM enc I f r TH h2 fun y hy=>h y (ao _ hy);show(g (enc x) O).bind _=_;rw[h1];simp only[R.bind,if_true,h3,ih];rfl
theorem uf{g:D->bA->R bA}{c:bA->R Bool}{e:bA->R D}(enc:β->D)(I:bA->Prop)(p:β->Bool)(f:β->D):∀(xs:List β) (O:bA),I O->(∀x∈xs,∀O,I O->∃TH,g (enc x) O=.ok TH/\I TH/\c TH=.ok (p x)/\e TH=.ok (f x))->fG g c e (xs.map enc) O=.ok ((xs.filter p).map f)
|[],O,_,_=>rfl
|x::r,O,hi,h=>by
 obtain⟨TH,h1,h2,h3,h4⟩:=h x aG O hi;have ih:=uf enc I p f r TH h2 fun y hy=>h y (ao _ hy);show(g (enc x) O).bind _=_;rw[h1];simp only[R.bind,h3];cases q:p x with
 |true=>rw[if_pos rfl,List.filter_cons_of_pos q,h4];simp only[R.bind,ih];rfl
 |false=>rw[if_neg (by decide),List.filter_cons_of_neg (by simp[q])];exact ih
noncomputable def AW(K:PySem.W.Frag)(C:Addr)(as:List Str):Bool:=
 (PySem.W.findIn K (.ref C) "__getattribute__"==some (some (.builtin "BaseException.__getattribute__")))&&(PySem.W.findIn K (.ref C) "__getattr__"==some none)&&(PySem.W.findIn K (.ref C) "__setattr__"==some (some (.builtin "object.__setattr__")))
 && PySem.W.hasDictIn K C&&(PySem.W.mroIn K C (.type "BaseException")==some true)&&(PySem.W.mroIn K C (.type "object")==some true)&&(PySem.W.clsIn K C).any (fun cd=>qV cd.mro)
 && (PySem.W.findIn K (.ref C) "__class__"==some (some (.builtin "object.__class__")))&&as.all (fun f=>PySem.W.findIn K (.ref C) f==some none)
theorem NX{as:List Str}(h:AW K C as=true)(hn:PySem.W.specialIn K (.builtin "object.__class__") "__get__"=some (some (.builtin "getset_descriptor.__get__")))(htk:PySem.W.takesIn K (.builtin "object.__class__")=some true) :
  qW K C/\qH K C/\∀f∈as,iC K C f:=by
 unfold AW at h;simp only[bx,beq_iff_eq,bz]at h;obtain⟨⟨⟨⟨⟨⟨⟨⟨h1,h2⟩,h3⟩,h4⟩,h5⟩,h6⟩,h7⟩,h8⟩,h9⟩:=h;have c:tQ K C:=⟨h1,h2,h3,h4,h5,h6⟩;exact⟨{ c with tl:=h7 },{ c with ha:=h8,hn:=hn,htk:=htk },h9⟩
theorem Lw{as:List Str}(h:(Cs.all fun C=>AW K C as)=true)(hn:PySem.W.specialIn K (.builtin "object.__class__") "__get__"=some (some (.builtin "getset_descriptor.__get__")))(htk:PySem.W.takesIn K (.builtin "object.__class__")=some true) :
  ∀C∈Cs,qW K C/\qH K C/\∀f∈as,iC K C f:=fun C hC=>NX (bz.mp h C hC) hn htk
theorem iF{D:Addr}{as:List Str}(hx:∀C∈Cs,qW K C/\qH K C/\∀f∈as,iC K C f)(h0:PySem.W.kitOne K (.type "NoneType") (.ref D)=some false)(h:(Cs.all fun C=>PySem.W.kitOne K (.ref C) (.ref D)==some (decide (C=D)))=true):gc K D Cs:=
 ⟨h0,fun C hC=>⟨(hx C hC).2.1,by simpa using bz.mp h C hC⟩⟩
theorem Qt{as:List Str}(hx:∀C∈Cs,qW K C/\qH K C/\∀f∈as,iC K C f)(h0:PySem.W.kitOne K (.type "NoneType") (.type "ValueError")=some false)(h:(Cs.all fun C=>PySem.W.kitOne K (.ref C) (.type "ValueError")==some true)=true):p9 K Cs as:=
 ⟨h0,fun C hC=>⟨(hx C hC).2.1,by simpa using bz.mp h C hC,(hx C hC).2.2⟩⟩
variable{B:Addr}
theorem Qu(h:(Cs.all fun C=>PySem.W.mroIn K C (.ref B)==some true)=true):∀C∈Cs,PySem.W.mroIn K C (.ref B)=some true:=fun C hC=>by simpa using bz.mp h C hC
def B7(K:PySem.W.Frag)(B:Addr):Prop:=∃c0 dB cd sl c1 d1 es ep s1,K.lookup B=some ⟨c0,dB,.cls cd,sl⟩/\K.lookup cd.ns=some ⟨c1,d1,.dict es ep,s1⟩/\(es.all fun e=>match e.key with|.str _ _=>true|_=>false)=true/\yc es "__init__"=none
theorem Qv{fI N:Addr}{as:List Str}{nm q:Str}{bs:List Value}{hdct:Bool}{sn:List Str}{sub:List Value}{ab:Bool}{col:Option Bool}{dd:Option Addr}{k0 k1 k2 k3 k5:Option Value}
  (hx:qW K C/\qH K C/\∀f∈as,iC K C f) (xi:PySem.W.findIn K (.ref C) "__init__"=some (some (.ref fI))) (xf:PySem.W.typeIn K (.ref fI)=some (.type "function")) (xk:PySem.W.keepIn K (.ref C)=true)
  (xl:K.lookup C=some (gP nm q C N bs (.ref B::[.type "ValueError",.type "Exception",.type "BaseException",.type "object"]) hdct sn sub ab col dd k0 k1 k2 k3 k5 "ValueError.__new__")) (xb:B7 K B) (F:mH K "__init__" qual st fI fd) (hb:Binds K fd ps []) (S:iw ps ps (bE st))
  (ha:∀p∈fs,p.1∈as) (hc:oH ps fs (d_ st)=true) (hd:∀x∈ps,(x==("__debug__":Str))=false/\(x==("__classdict__":Str))=false) (hj:∀p∈fs,p.2<ps.length/\1<=p.2) (hl:fs.length<=900) (h0:0<fs.length) (hp:ps.length<=1000):AR P w K mg base 1 C fs ps.length:=
 ⟨fI,fd,ps,{ hx.1 with ini:=xi,fn:=xf,kp:=xk,cls:=⟨_,_,_,_,_,_,_,_,_,_,_,_,_,_,_,_,xl,xb⟩ },MZ F S hx.1 (fun p hp=>hx.2.2 p.1 (ha p hp)) hc hd (fun p hp=>(hj p hp).1) hl h0,hb,hp,fun p hp=>(hj p hp).2,rfl⟩
end L3
end
local macro_rules | `(tactic| simp_arith $c:optConfig [$ls,*]) => do let q <- ("G7 pq_thn_ok' G8 G9 pq_thnL_ok' G_ Nv C0 Ke Hf Kf Kg Kh Kl Km Kn Hg Nx Ko Ny Hh Hi Hj Hl Nz D0 D3 NB Kp Kq Ho Hq Hr Kr Hs Ks Ht B0 Ku NC Kv Kw Ky ND Kz KA KC KD Hu E9 KE KG KH Hv E_ Qo Qp Hw Fb NF NG NH NI KI Hz HA HC HD HE KN KO HF HH HJ HK HL NJ NK NL NN HM KP HN KQ KR NO KS KU KW KY KZ K0 K1 HP K3 K4 NP NQ K5 K6 HQ K7 K8 NR K9 HR K_ HS Fe HU HV HW HY HZ La H9 Ff Lb Fg Lc NS Ld H_ Ia Fi Le Lf Lg Ib Lh Li Ic Ie NU NV B5 Ig Lj z_ Ih Ii Lk Ll Ij Ik Il Im Io Ip Lm Ln Lo Lp Lq Iq NW Lr Ir Ls Iu Iw Iz Lu B6 ue Lv fV Aa gi yP qC cA ja GS qY q9 ny.len cM pL bP qq List.cons_append qv dM bX List.replicate_zero List.getElem?_cons_zero iu List.set_cons_zero List.set_cons_succ List.getD_cons_zero List.getD_cons_succ Nat.reduceAdd Nat.reduceSub mw Nat.sub_self Nat.reduceBEq b9 aQ aJ fk Nat.reduceEqDiff or_false or_true not_false_eq_true and_self and_true true_and and_false false_and decide_true decide_false nV Bool.not_false pP Bool.or_false sZ Bool.true_and m5 y_ if_true if_false jZ reduceCtorEq Option.map_some beq_self_eq_true Int.reduceLT Int.reduceBEq Int.reduceSub Int.reduceAdd".splitOn " ").toArray.mapM fun x => `(Lean.Parser.Tactic.simpLemma| $(Lean.mkIdent x.toName):ident); `(tactic| simp $c:optConfig (disch := first | assumption | (with_reducible rfl) | (show L3.di _ = true; rfl) | omega | (unfold L2.qz; omega) | (unfold L2.tH; omega) | (simp only [bP, qq, aC, aR]; omega)) only [$q,*, $ls,*])
section
namespace L3
open PySem L2
structure FD where
 n:Str
 s:Stmt
 N:List Str
 k:Nat
 gl:List Str
def FD.ps(d:FD):List Str:=d.N.take d.k
noncomputable def IA(N P:List Str)(sc:eU):Bool:=(match sc.kind with|.function=>true|_=>false)&&(!sc.isCoroutine&&(!sc.isGenerator&&(decide N.Nodup&&(decide (N.take P.length=P)&&(decide (∀x∈P,sc.names.lookup x=some .local\/sc.names.lookup x=some .cell)&&decide (∀y∈sc.names,y.2≠.free))))))
theorem rZ{N P:List Str}{sc:eU}(h:IA N P sc=true):iw N P sc:=by
 unfold IA at h;simp only[bx,decide_eq_true_eq,vq]at h;obtain⟨h1,h2,h3,h4,h5,h6,h7⟩:=h;refine⟨?_,h2,h3,h4,h5,h6,h7⟩;revert h1;cases sc.kind<;>intro h1<;>first|rfl|cases h1
noncomputable def FD.jQ(bn:List Str)(d:FD)(c:dS):Bool:=kT ⟨d.N,bE d.s,d.gl,bn,(fun _=>true),true,false⟩ c (d_ d.s)&&(IA d.N d.ps (bE d.s)&&(kK c&&(d.ps.length==d.k)))
def DI(K:PySem.W.Frag)(mg:Str->Option Value)(d:FD):Prop:=xU K mg d.n d.s d.ps
variable{k:Nat}
variable{j:Nat}
variable{n:Nat}
variable{Cs:List Addr}
variable{as:List Str}
variable{B:Addr}
variable{bn:List Str}{d:FD}{f:Addr}{Tv:List PG}{c:dS}
variable{x:Str}
variable{oc kV doc pm cdv ct:Value}{od an:Option Addr}{osl:Array (Option Value)}
variable{N:Addr}{nm q:Str}{bs:List Value}{sn:List Str}{ab:Bool}{dd:Option Addr}{k0 k1 k2 k3 k5:Option Value}
section
variable{P:a_}{w:bC}{K:PySem.W.Frag}{mg:Str->Option Value}{base:Heap}
abbrev nX(P:a_)(w:bC)(K:PySem.W.Frag)(mg:Str->Option Value)(base:Heap)(k:Nat)(x:Str)(m:List D->R D):Prop:=yF P w K mg base k x (.fn (sP K m) [])
def GR(P:a_)(w:bC)(K:PySem.W.Frag)(mg:Str->Option Value)(base:Heap)(k:Nat)(gl:List Str)(Tv:List PG):Prop:=∃Y,r6 P w K mg base k gl Y/\bV K Tv Y/\BZ Tv
theorem gN:GR P w K mg base k [] []:=⟨[],trivial,trivial,fun _=>aJ⟩
section
variable{k:Nat}{x:Str}{gl:List Str}{Tv:List PG}
theorem gG{p:PG}(g:G)(h:yF P w K mg base k x g)(e:J3 K p g)(r:GR P w K mg base k gl Tv)(np:∀m,p≠.fe m:=by intro _ z;cases z):GR P w K mg base k (x::gl) (p::Tv):=by
 obtain⟨Y,a,b,nf⟩:=r;exact⟨g::Y,⟨h,a⟩,⟨_,_,rfl,e,b⟩,fun m z=>by
  rcases aQ.mp z with z|z
  ·exact np m z.symm
  ·exact nf m z⟩
theorem gF{m:List D->R D}(h:nX P w K mg base j x m)(r:GR P w K mg base k gl Tv)(l:j<=k:=by decide):GR P w K mg base k (x::gl) (.fn m []::Tv):=by
 obtain⟨f,fd,ps,ds,F,q⟩:=h
 ·exact gG (.fn (sP K m) []) ⟨f,fd,ps,ds,F.mono l,q⟩ ⟨fun _ _ _ _ h=>h,rfl,rfl⟩ r
def Qw(P:a_)(w:bC)(K:PySem.W.Frag)(mg:Str->Option Value)(x:Str)(C:Addr)(fs:List (Str×Nat))(n:Nat):Prop:=mg x=some (.ref C)/\∀base,AR P w K mg base 1 C fs n
theorem gC{C:Addr}{fs:List (Str×Nat)}(h:Qw P w K mg x C fs n)(r:GR P w K mg base k gl Tv)(l:2<=k:=by decide):GR P w K mg base k (x::gl) (.cls C fs n::Tv):=gG (.cls C fs n) ⟨h.1,1,l,h.2 base⟩ ⟨rfl,rfl,rfl⟩ r
theorem gI{D:Addr}(h:mg x=some (.ref D)/\gc K D Cs)(r:GR P w K mg base k gl Tv):GR P w K mg base k (x::gl) (.gy D Cs::Tv):=gG (.gy D Cs) h ⟨rfl,rfl⟩ r
theorem gX(h:p9 K Cs as)(r:GR P w K mg base k gl Tv):GR P w K mg base k (x::gl) (.mJ Cs as::Tv):=gG (.mJ Cs as) h ⟨rfl,rfl⟩ r
def Qx(K:PySem.W.Frag)(mg:Str->Option Value)(x:Str)(B:Addr)(Cs:List Addr):Prop:=(mg x=some (.ref B)/\xx K B)/\∀C∈Cs,PySem.W.mroIn K C (.ref B)=some true
theorem gB(h:Qx K mg x B Cs)(r:GR P w K mg base k gl Tv):GR P w K mg base k (x::gl) (.exb Cs::Tv):=gG (.exb B Cs) h.1 ⟨rfl,h.2⟩ r
theorem gV{d:D}{v:V}(h:∃u,mg x=some u/\RelV v u)(e:aP K (fun _=>none) d v)(r:GR P w K mg base k gl Tv):GR P w K mg base k (x::gl) (.val d::Tv):=gG (.val v) h e r
end
theorem fF{fd:dD}(F:mH K d.n d.n d.s f fd)(h:d.jQ bn c=true)(hb:∀x∈bn,mg x=none)(r:GR P w K mg base k d.gl Tv):eO P w K mg base (je P w) (k+1) f fd d.ps (sP K (gi Tv n d.N d.k c)):=by
 obtain⟨Y,a,b,nf⟩:=r;unfold FD.jQ at h;simp only[bx,beq_iff_eq]at h;obtain⟨h1,h2,h3,h4⟩:=h;rw[<-h4];refine RH (Y:=Y) c F (rZ h2) h1 a b nf h3 hb ?_;unfold FD.ps;rw[eB];omega
theorem fD(D:DI K mg d)(h:d.jQ bn c=true)(hb:∀x∈bn,mg x=none)(r:GR P w K mg base k d.gl Tv):nX P w K mg base (k+1) d.n (gi Tv n d.N d.k c):=
 xU.has D fun _ _ F=>fF F h hb r
theorem f0(D:DI K mg d):nX P w K mg base k d.n (fun _=>.bad):=
 xU.has D fun _ _ F=>⟨fun _ _ _ _ ⟨_,_,_,_,_,h⟩=>h.elim,fun _ _ _ _ _ _ _ _ _ _ _ _ _ ⟨_,_,_,_,_,h⟩=>h.elim⟩
noncomputable def FD.Lx(bn:List Str)(d:FD)(c:dS):Bool:=kT ⟨d.N,bE d.s,d.gl,bn,(fun _=>true),false,true⟩ c (d_ d.s)&&(IA d.N d.ps (bE d.s)&&(kK c&&(d.ps.length==d.k&&d.k != 0)))
abbrev IB(P:a_)(w:bC)(K:PySem.W.Frag)(mg:Str->Option Value)(base:Heap)(k:Nat)(x:Str)(m:List D->R D):Prop:=yF P w K mg base k x (.fh (sP K m))
theorem gH{gl:List Str}{m:List D->R D}(h:IB P w K mg base j x m)(r:GR P w K mg base k gl Tv)(l:j<=k:=by decide):GR P w K mg base k (x::gl) (.fh m::Tv):=by
 obtain⟨f,fd,ps,F,q⟩:=h;exact gG (.fh (sP K m)) ⟨f,fd,ps,F.mono l,q⟩ (fun _ _ _ _ h=>h) r
theorem fDH(D:DI K mg d)(h:d.Lx bn c=true)(hb:∀x∈bn,mg x=none)(r:GR P w K mg base k d.gl Tv):IB P w K mg base (k+1) d.n (gi (Tv.map PG.semi) n d.N d.k c):=by
 obtain⟨f,fd,F,hm,hB⟩:=D;obtain⟨Y,a,b,_⟩:=r;unfold FD.Lx at h;simp only[bx,beq_iff_eq,bne_iff_ne]at h;obtain⟨h1,h2,h3,h4,h5⟩:=h;refine⟨f,fd,d.ps,?_,hm,F.kp,hB,fun z=>h5 (by rw[<-h4,z];rfl)⟩;rw[<-h4];refine Qm (Y:=Y) c F (rZ h2) h1 a b h3 hb ?_;unfold FD.ps;rw[eB];omega
theorem f0H(D:DI K mg d)(h:(d.ps.length != 0)=true):IB P w K mg base k d.n (fun _=>.bad):=by
 obtain⟨f,fd,F,hm,hB⟩:=D;exact⟨f,fd,d.ps,⟨fun _ _ _ ⟨_,_,_,_,_,h⟩=>h.elim,fun _ _ _ _ _ _ _ _ _ _ _ _ _ _ _ _ _ ⟨_,_,_,_,_,h⟩=>h.elim⟩,hm,F.kp,hB,fun z=>by rw[z]at h;cases h⟩
variable{h:Heap}
theorem dI(X:K.In h)(G:h.Ns cL mg)(a:PySem.W.nsIn K cL d.n=some (some (.ref f)):=by k_is)
  (l:K.lookup f=some ⟨oc,od,.func (PySem.W.fnOf d.n d.n (j8 d.s) (d_ d.s) (bE d.s) .none kV doc pm an cdv ct),osl⟩:=by k_is) (c:PySem.W.codeIn K cdv d.n=true:=by k_is) (k:PySem.W.keepIn K (.ref f)=true:=by k_is)
  (b:∀(kV doc pm:Value) (an:Option Addr) (cdv ct:Value) (us:List Value),us.length=d.ps.length->sE (PySem.W.fnOf d.n d.n (j8 d.s) (d_ d.s) (bE d.s) .none kV doc pm an cdv ct) ⟨us,[]⟩=pure (d.ps.zip us):=by(intro _ _ _ _ _ _ us hl;rcases us with _|⟨_,_|⟨_,_|⟨_,_|⟨_,_|⟨_,_|⟨_,_|⟨_,_⟩⟩⟩⟩⟩⟩⟩<;>first|rfl|cases hl)):DI K mg d:=
 ⟨_,_,fun_mk l c k,PySem.W.mg_of X G a,(fun_mk l c k).binds b⟩
theorem iI{v:Value}(X:K.In h)(G:h.Ns cL mg)(a:PySem.W.nsIn K cL x=some (some v):=by k_is):mg x=some v:=PySem.W.mg_of X G a
noncomputable def SS:Option (Option Value)->Bool
|some none=>true
|_=>false
theorem zI(X:K.In h)(G:h.Ns cL mg)(a:(bn.all fun x=>SS (PySem.W.nsIn K cL x))=true:=by kernel_rfl):∀x∈bn,mg x=none:=fun x hx=>PySem.W.mg_none_of X G (by
 have q:=bz.mp a x hx;revert q;rcases PySem.W.nsIn K cL x with _|_|_<;>intro q<;>first|rfl|cases q)
theorem hXI(X:K.In h)(a:(Cs.all fun C=>AW K C as)=true:=by kernel_rfl)(hn:PySem.W.specialIn K (.builtin "object.__class__") "__get__"=some (some (.builtin "getset_descriptor.__get__")):=by k_is)(htk:PySem.W.takesIn K (.builtin "object.__class__")=some true:=by k_is) :
  ∀C∈Cs,qW K C/\qH K C/\∀f∈as,iC K C f:=Lw a hn htk
structure CD where
 n:Str
 C:Addr
 s:Stmt
 ps:List Str
 fs:List (Str×Nat)
noncomputable def CD.jQ(as:List Str)(d:CD):Bool:=oH d.ps d.fs (d_ d.s)&&(IA d.ps d.ps (bE d.s)&&(decide (∀p∈d.fs,p.1∈as)&&(decide (∀x∈d.ps,(x==("__debug__":Str))=false/\(x==("__classdict__":Str))=false)&&(decide (∀p∈d.fs,p.2<d.ps.length/\1<=p.2)&&decide (d.fs.length<=900/\0<d.fs.length/\d.ps.length<=1000)))))
theorem cI{d:CD}{fI:Addr}{hdct:Bool}{sub:List Value}{col:Option Bool}
  (X:K.In h) (G:h.Ns cL mg) (hx:qW K d.C/\qH K d.C/\∀f∈as,iC K d.C f) (xb:B7 K B) (o:d.jQ as=true) (a:PySem.W.nsIn K cL d.n=some (some (.ref d.C)):=by k_is) (xi:PySem.W.findIn K (.ref d.C) "__init__"=some (some (.ref fI)):=by k_is) (xf:PySem.W.typeIn K (.ref fI)=some (.type "function"):=by k_is) (xk:PySem.W.keepIn K (.ref d.C)=true:=by k_is)
  (xl:K.lookup d.C=some (gP nm q d.C N bs (.ref B::[.type "ValueError",.type "Exception",.type "BaseException",.type "object"]) hdct sn sub ab col dd k0 k1 k2 k3 k5 "ValueError.__new__"):=by k_is)
  (l:K.lookup fI=some ⟨oc,od,.func (PySem.W.fnOf "__init__" (d.n++".__init__") (j8 d.s) (d_ d.s) (bE d.s) .none kV doc pm an cdv ct),osl⟩:=by k_is) (c:PySem.W.codeIn K cdv (d.n++".__init__")=true:=by k_is) (k:PySem.W.keepIn K (.ref fI)=true:=by k_is)
  (b:∀(kV doc pm:Value) (an:Option Addr) (cdv ct:Value) (us:List Value),us.length=d.ps.length->sE (PySem.W.fnOf "__init__" (d.n++".__init__") (j8 d.s) (d_ d.s) (bE d.s) .none kV doc pm an cdv ct) ⟨us,[]⟩=pure (d.ps.zip us):=by(intro _ _ _ _ _ _ us hl;rcases us with _|⟨_,_|⟨_,_|⟨_,_|⟨_,_|⟨_,_|⟨_,_|⟨_,_⟩⟩⟩⟩⟩⟩⟩<;>first|rfl|cases hl)):Qw P w K mg d.n d.C d.fs d.ps.length:=by
 refine⟨PySem.W.mg_of X G a,fun base=>?_⟩;unfold CD.jQ at o;simp only[bx,decide_eq_true_eq]at o;obtain⟨h1,h2,h3,h4,h5,h6,h7,h8⟩:=o;exact Qv hx xi xf xk xl xb (fun_mk l c k) ((fun_mk l c k).binds b) (rZ h2) h3 h1 h4 h5 h6 h7 h8
theorem eI{bm:List Value}{hd:Bool}{sb:List Value}{cl:Option Bool}{ni:String}(X:K.In h)(G:h.Ns cL mg)(a:PySem.W.nsIn K cL x=some (some (.ref B)):=by k_is)
  (l:K.lookup B=some (gP nm q B N bs bm hd sn sb ab cl dd k0 k1 k2 k3 k5 ni):=by k_is) (c:bm.contains (.type "BaseException")=true:=by kernel_rfl) (m:(Cs.all fun C=>PySem.W.mroIn K C (.ref B)==some true)=true:=by kernel_rfl):Qx K mg x B Cs:=
 ⟨⟨PySem.W.mg_of X G a,_,_,_,_,_,_,_,_,_,_,_,_,_,_,_,_,_,l,c⟩,Qu m⟩
theorem bI{c0:Value}{d0:Option Addr}{cd:ClassData}{s0:Array (Option Value)}{c1:Value}{d1:Option Addr}{es:Array DictEntry}{ep:Nat}{s1:Array (Option Value)}(X:K.In h)(l:K.lookup B=some ⟨c0,d0,.cls cd,s0⟩:=by k_is)(q:cd.ns=N:=by rfl)(n:K.lookup N=some ⟨c1,d1,.dict es ep,s1⟩:=by k_is)
  (a:(es.all fun e=>match e.key with|.str _ _=>true|_=>false)=true:=by kernel_rfl) (f:yc es "__init__"=none:=by kernel_rfl):B7 K B:=⟨_,_,_,_,_,_,_,_,_,l,by rw[q];exact n,a,f⟩
end
end L3
end
section
namespace Tr
open PySem L2 L3
def top(i:Nat):Stmt:=PySem.Challenge.pw_claimwise_k11_chains.main.body.getD i (.Pass ⟨0,0,0,0⟩)
abbrev vN:List Str:=["claims","number"]
noncomputable def nj:dS:=
 (.cons (.ifs (.cmp .Gt (.call 1 (.cons (.var 0) (.cons (.var 1) .nil))) (.glo 2))
  (.cons (.rais 3 (.cons (.var 1) (.cons (.con (.int 0)) .nil)))
 .nil)
  .nil)
 (.cons (.ret (.call 0 (.cons (.var 0) (.cons (.var 1) .nil))))
 .nil))
abbrev nY:List Str:=["claims","number","counts","takes","rows"]
noncomputable def fK:dS:=
 (.cons (.expr (.mth .append (.var 2) (.cons (.ite (.cmp .Eq (.var 3) (.lst .nil)) (.con (.int 1)) (.blt .sum (.cons (.comp ["taken"] [2] (.ix (.var 1) (.var 0)) (.name 0) (.seq (.var 3)) .none) .nil))) .nil)))
 .nil)
noncomputable def kL:dS:=
 (.cons (.asg (.name 2) (.lst (.cons (.con (.int 0)) .nil)))
 (.cons (.forr (.tup (.cons (.name 3) (.cons (.name 4) .nil))) (.seq (.sl (.var 0) .none (.some (.var 1)))) fK)
 (.cons (.ret (.ix (.var 2) (.var 1)))
 .nil)))
abbrev qJ:List Str:=["claims","number","takes","chains","taken"]
noncomputable def kj:dS:=
 (.cons (.expr (.mth .extend (.var 3) (.cons (.comp ["chain"] [1] (.bin .Add (.var 0) (.lst (.cons (.var 1) .nil))) (.name 0) (.seq (.call 0 (.cons (.var 0) (.cons (.var 4) .nil)))) .none) .nil)))
 .nil)
noncomputable def kN:dS:=
 (.cons (.asg (.name 2) (.ix (.ix (.var 0) (.bin .Sub (.var 1) (.con (.int 1)))) (.con (.int 0))))
 (.cons (.ifs (.cmp .Eq (.var 2) (.lst .nil))
  (.cons (.ret (.lst (.cons (.lst (.cons (.var 1) .nil)) .nil)))
 .nil)
  .nil)
 (.cons (.asg (.name 3) (.lst .nil))
 (.cons (.forr (.name 4) (.seq (.var 2)) kj)
 (.cons (.ret (.var 3))
 .nil)))))
abbrev sR:List Str:=["kinds","claims","number"]
noncomputable def nL:dS:=
 (.cons (.ret (.comp ["chain"] [0,1] (.call 1 (.cons (.var 1) (.cons (.var 2) (.cons (.var 0) .nil)))) (.name 0) (.seq (.call 0 (.cons (.var 1) (.cons (.var 2) .nil)))) .none))
 .nil)
abbrev ug:List Str:=["kinds","claims","chain","walk","number","place","row"]
noncomputable def uh:dS:=
 (.cons (.never)
 (.cons (.never)
 (.cons (.never)
 .nil)))
abbrev B8:List Str:=["_law_script","_law_k"]
noncomputable def wM:dS:=
 (.cons (.ifs (.cmp .Lt (.var 1) (.blt .len (.cons (.var 0) .nil)))
  (.cons (.ret (.ix (.var 0) (.var 1)))
 .nil)
  .nil)
 (.cons (.ret (.bin .Mult (.con (.int 2377)) (.bin .Add (.var 1) (.con (.int 1)))))
 .nil))
abbrev Ab:List Str:=["_law_cell_here","_law_k","_law_once"]
noncomputable def um:dS:=
 (.cons (.asg (.name 2) (.bin .Mod (.bin .Mult (.bin .Add (.bin .Add (.bin .Mod (.var 0) (.con (.int 2147483647))) (.bin .Mult (.con (.int 7919)) (.var 1))) (.con (.int 1))) (.con (.int 48271))) (.con (.int 2147483647))))
 (.cons (.ret (.bin .FloorDiv (.bin .Mod (.bin .Mult (.var 2) (.bin .Add (.bin .Mod (.var 2) (.con (.int 1009))) (.con (.int 1)))) (.con (.int 2147483629))) (.con (.int 3))))
 .nil))
abbrev uo:List Str:=["_law_found","_law_due_here"]
noncomputable def gK:dS:=
 (.cons (.ifs (.isi (.var 1) .none)
  (.cons (.ifs (.cmp .NotEq (.isi (.var 0) .list) (.isi (.var 1) .list))
  (.cons (.ret (.con (.bl false)))
 .nil)
  .nil)
 (.cons (.ifs (.cmp .NotEq (.isi (.var 0) .tuple) (.isi (.var 1) .tuple))
  (.cons (.ret (.con (.bl false)))
 .nil)
  .nil)
 (.cons (.ret (.and (.cmp .Eq (.blt .len (.cons (.var 0) .nil)) (.blt .len (.cons (.var 1) .nil))) (.blt .all (.cons (.comp ["_law_one","_law_other"] [] (.call 0 (.cons (.var 0) (.cons (.var 1) .nil))) (.tup (.cons (.name 0) (.cons (.name 1) .nil))) (.zip (.cons (.var 0) (.cons (.var 1) .nil))) .none) .nil))))
 .nil)))
  .nil)
 (.cons (.ifs (.cmp .Is (.var 1) (.con .non))
  (.cons (.ret (.cmp .Is (.var 0) (.con .non)))
 .nil)
  .nil)
 (.cons (.ifs (.isi (.var 1) .str)
  (.cons (.ret (.and (.isi (.var 0) .str) (.cmp .Eq (.var 0) (.var 1))))
 .nil)
  .nil)
 (.cons (.ifs (.or (.isi (.var 1) .bool) (.isi (.var 0) .bool))
  (.cons (.ret (.and (.isi (.var 0) .bool) (.and (.isi (.var 1) .bool) (.cmp .Eq (.var 0) (.var 1)))))
 .nil)
  .nil)
 (.cons (.ret (.and (.isi (.var 0) .int) (.cmp .Eq (.var 0) (.var 1))))
 .nil)))))
abbrev xV:List Str:=["_law_script","_law_claims_here","_law_often","_law_k","_law_cell_here","_law_d","_law_takes","_law_number","_law_rows"]
noncomputable def iz:dS:=
 (.cons (.ifs (.and (.cmp .Eq (.bin .Mod (.bin .RShift (.var 5) (.bin .Mod (.var 7) (.con (.int 12)))) (.ix (.lst (.cons (.con (.int 5)) (.cons (.con (.int 2)) (.cons (.con (.int 3)) .nil)))) (.var 2))) (.con (.int 0))) (.cmp .Lt (.blt .len (.cons (.var 6) .nil)) (.con (.int 5))))
  (.cons (.expr (.mth .append (.var 6) (.cons (.var 7) .nil)))
 .nil)
  .nil)
 .nil)
noncomputable def iA:dS:=
 (.cons (.asg (.name 5) (.call 0 (.cons (.var 4) (.cons (.var 3) .nil))))
 (.cons (.asg (.name 6) (.lst .nil))
 (.cons (.forr (.name 7) (.range (.cons (.blt .max (.cons (.con (.int 1)) (.cons (.bin .Sub (.blt .len (.cons (.var 1) .nil)) (.ix (.lst (.cons (.con (.int 11)) (.cons (.con (.int 3)) (.cons (.con (.int 5)) .nil)))) (.var 2))) .nil))) (.cons (.bin .Add (.blt .len (.cons (.var 1) .nil)) (.con (.int 1))) .nil))) iz)
 (.cons (.asg (.name 8) (.sl (.lst (.cons (.tup (.cons (.con (.str "parts")) (.cons (.con (.int 1)) (.cons (.con (.bl false)) (.cons (.con (.str "")) (.cons (.lst (.cons (.con (.str "x")) .nil)) .nil)))))) .nil)) .none (.some (.bin .Mod (.var 5) (.con (.int 2))))))
 (.cons (.ifs (.cmp .Lt (.blt .len (.cons (.var 1) .nil)) (.con (.int 12)))
  (.cons (.expr (.mth .append (.var 1) (.cons (.tup (.cons (.var 6) (.cons (.var 8) .nil))) .nil)))
 .nil)
  (.cons (.ifs (.cmp .NotEq (.var 6) (.lst .nil))
  (.cons (.asg (.sub (.var 1) (.bin .Mod (.bin .FloorDiv (.var 5) (.con (.int 7))) (.con (.int 12)))) (.tup (.cons (.blt .sorted (.cons (.comp ["_law_number"] [5] (.var 0) (.name 0) (.seq (.var 6)) (.some (.cmp .LtE (.var 0) (.bin .Mod (.bin .FloorDiv (.var 1) (.con (.int 7))) (.con (.int 12)))))) .nil)) (.cons (.var 8) .nil))))
 .nil)
  .nil)
 .nil))
 .nil)))))
noncomputable def su:dS:=
 (.cons (.asg (.name 1) (.lst .nil))
 (.cons (.asg (.name 2) (.bin .Mod (.call 0 (.cons (.call 1 (.cons (.var 0) (.cons (.con (.int 0)) .nil))) (.cons (.con (.int 1)) .nil))) (.con (.int 3))))
 (.cons (.forr (.tup (.cons (.name 3) (.cons (.name 4) .nil))) (.enum (.bin .Add (.sl (.var 0) .none (.some (.con (.int 63)))) (.lst (.cons (.con (.int 3)) .nil)))) iA)
 (.cons (.ret (.var 1))
 .nil))))
abbrev D4:List Str:=["_law_claims_here","_law_counts","_law_chains","_law_k","_law_takes","_law_count","_law_here","_law_number"]
noncomputable def oz:dS:=
 (.cons (.expr (.mth .extend (.var 6) (.cons (.comp ["_law_chain"] [3] (.bin .Add (.var 0) (.lst (.cons (.bin .Add (.var 1) (.con (.int 1))) .nil))) (.name 0) (.seq (.ix (.var 2) (.bin .Sub (.var 7) (.con (.int 1))))) .none) .nil)))
 .nil)
noncomputable def ko:dS:=
 (.cons (.asg (.name 4) (.ix (.ix (.var 0) (.var 3)) (.con (.int 0))))
 (.cons (.asg (.name 5) (.blt .sum (.cons (.comp ["_law_number"] [1] (.ix (.var 1) (.bin .Sub (.var 0) (.con (.int 1)))) (.name 0) (.seq (.var 4)) .none) .nil)))
 (.cons (.asg (.name 6) (.sl (.lst (.cons (.lst (.cons (.bin .Add (.var 3) (.con (.int 1))) .nil)) .nil)) .none (.some (.blt .int (.cons (.cmp .Eq (.var 4) (.lst .nil)) .nil)))))
 (.cons (.ifs (.cmp .Lt (.var 5) (.con (.int 7)))
  (.cons (.forr (.name 7) (.seq (.var 4)) oz)
 .nil)
  .nil)
 (.cons (.expr (.mth .append (.var 1) (.cons (.blt .max (.cons (.con (.int 1)) (.cons (.var 5) .nil))) .nil)))
 (.cons (.expr (.mth .append (.var 2) (.cons (.var 6) .nil)))
 .nil))))))
noncomputable def yT:dS:=
 (.cons (.asg (.name 1) (.lst .nil))
 (.cons (.asg (.name 2) (.lst .nil))
 (.cons (.forr (.name 3) (.range (.cons (.blt .len (.cons (.var 0) .nil)) .nil)) ko)
 (.cons (.ret (.tup (.cons (.var 1) (.cons (.var 2) .nil))))
 .nil))))
abbrev vO:List Str:=["_law_claims_here","_law_number","_law_which","_law_fits","e","_law_others"]
noncomputable def nq:dS:=
 (.cons (.asg (.name 3) (.con (.bl false)))
 (.cons (.tri 4 0 (.ite (.cmp .Eq (.var 2) (.con (.int 0))) (.call 1 (.cons (.var 0) (.cons (.var 1) .nil))) (.call 2 (.cons (.lst .nil) (.cons (.var 0) (.cons (.var 1) .nil)))))
  (.cons (.asg (.name 5) (.isx false [10,11,12,13,14,15,16,17,18] (.var 4)))
 (.cons (.asg (.name 5) (.or (.var 5) (.isx false [6,7,8,9] (.var 4))))
 (.cons (.asg (.name 3) (.and (.isx true [5] (.var 4)) (.and (.isv 4 (.var 4)) (.not (.var 5)))))
 (.cons (.ifs (.var 3)
  (.cons (.acl 3 3 (.cons (.lst (.cons (.att 4 (.var 4) "claim") (.cons (.att 4 (.var 4) "row") .nil))) (.cons (.lst (.cons (.var 1) (.cons (.con (.int 0)) .nil))) .nil)))
 .nil)
  .nil)
 .nil)))))
 (.cons (.ret (.var 3))
 .nil)))
abbrev Mp:List Str:=["_law_script","_law_claims_here","_law_counts","_law_chains","_law_number","_law_found"]
noncomputable def pq:dS:=
 (.cons (.ifs (.cmp .Gt (.ix (.var 2) (.bin .Sub (.var 4) (.con (.int 1)))) (.con (.int 6)))
  (.cons (.ifs (.or (.not (.call 2 (.cons (.var 1) (.cons (.var 4) (.cons (.con (.int 0)) .nil))))) (.not (.call 2 (.cons (.var 1) (.cons (.var 4) (.cons (.con (.int 1)) .nil))))))
  (.cons (.ret (.con (.bl false)))
 .nil)
  .nil)
 .nil)
  (.cons (.asg (.name 5) (.call 3 (.cons (.var 1) (.cons (.var 4) .nil))))
 (.cons (.ifs (.not (.call 0 (.cons (.var 5) (.cons (.ix (.var 3) (.bin .Sub (.var 4) (.con (.int 1)))) .nil))))
  (.cons (.ret (.con (.bl false)))
 .nil)
  .nil)
 (.cons (.expr (.mth .append (.ix (.var 5) (.con (.int 0))) (.cons (.con (.int 0)) .nil)))
 (.cons (.expr (.mth .append (.var 5) (.cons (.lst (.cons (.con (.int 0)) .nil)) .nil)))
 (.cons (.ifs (.not (.call 0 (.cons (.call 3 (.cons (.var 1) (.cons (.var 4) .nil))) (.cons (.ix (.var 3) (.bin .Sub (.var 4) (.con (.int 1)))) .nil))))
  (.cons (.ret (.con (.bl false)))
 .nil)
  .nil)
 .nil))))))
 .nil)
noncomputable def Fj:dS:=
 (.cons (.asg (.name 1) (.call 1 (.cons (.var 0) .nil)))
 (.cons (.tasg (.tup (.cons (.name 2) (.cons (.name 3) .nil))) (.call 4 (.cons (.var 1) .nil)))
 (.cons (.forr (.name 4) (.range (.cons (.con (.int 1)) (.cons (.bin .Add (.blt .len (.cons (.var 1) .nil)) (.con (.int 1))) .nil))) pq)
 (.cons (.ret (.call 0 (.cons (.var 1) (.cons (.call 1 (.cons (.var 0) .nil)) .nil))))
 .nil))))
noncomputable def gp:List Addr:=[139]
noncomputable def Mq:List Str:=["row","claim","word"]
noncomputable def gM(r:List D->R D):List PG:=[.fn r []]
noncomputable def fL:Nat->List D->R D
|0=>fun _=>.bad
|k+1=>gi (gM (fL k)) 1000 uo 2 gK
noncomputable def jh:List D->R D:=fL 13
noncomputable def Ac:List PG:=[]
noncomputable def qh:List D->R D:=gi Ac 1000 Ab 2 um
noncomputable def B9:List PG:=[]
noncomputable def sy:List D->R D:=gi B9 1000 B8 2 wM
noncomputable def bS:List PG:=[.fn qh [],.fn sy []]
noncomputable def oA:List D->R D:=gi bS 1000 xV 1 su
noncomputable def iQ(r:List D->R D):List PG:=[.fn r []]
noncomputable def gj:Nat->List D->R D
|0=>fun _=>.bad
|k+1=>gi (iQ (gj k)) 1000 qJ 2 kN
noncomputable def qK:List D->R D:=gj 13
noncomputable def fQ:List PG:=[]
noncomputable def iT:List D->R D:=gi fQ 1000 nY 2 kL
noncomputable def qL:List PG:=[.fn qK [],.fn iT [],.val (.int 6),.cls 139 [("claim",1),("row",2)] 3]
noncomputable def fu:List D->R D:=gi qL 1000 vN 2 nj
noncomputable def B_:List PG:=[]
noncomputable def uq:List D->R D:=gi B_ 1000 ug 3 uh
noncomputable def sS:List PG:=[.fn fu [],.fn uq []]
noncomputable def kX:List D->R D:=gi sS 1000 sR 3 nL
noncomputable def dJ:List PG:=[.exb gp,.fn fu [],.fn kX [],.fh jh,.mJ gp Mq,.gy 139 gp,.gy 227 gp,.gy 239 gp,.gy 251 gp,.gy 263 gp,.gy 44 gp,.gy 101 gp,.gy 63 gp,.gy 82 gp,.gy 120 gp,.gy 158 gp,.gy 177 gp,.gy 196 gp,.gy 215 gp]
noncomputable def qM:List D->R D:=gi dJ 1000 vO 3 nq
noncomputable def jx:List PG:=[]
noncomputable def u7:List D->R D:=gi jx 1000 D4 1 yT
noncomputable def sA:List PG:=[.fn jh [],.fn oA [],.fn qM [],.fn fu [],.fn u7 []]
noncomputable def Fk:List D->R D:=gi sA 1000 Mp 1 Fj
noncomputable def BN:List Str:=["ValueError","all","bool","enumerate","int","isinstance","len","list","max","range","sorted","str","sum","tuple","zip"]
def NY(s:Stmt):List Stmt:=match s with
|.ClassDef _ _ _ b _ _ _ _ _ _ _=>b
|_=>[]
def uu:FD:=⟨"_law_alike",top 45,uo,2,["_law_alike"]⟩
theorem IC:uu.jQ BN gK=true:=by decide +kernel
theorem Fo:uu.Lx BN gK=true:=by decide +kernel
def Ad:FD:=⟨"_law_mixed",top 44,Ab,2,[]⟩
theorem ID:Ad.jQ BN um=true:=by decide +kernel
def Ca:FD:=⟨"_law_cell",top 43,B8,2,[]⟩
theorem Ly:Ca.jQ BN wM=true:=by decide +kernel
def xW:FD:=⟨"_law_claims",top 46,xV,1,["_law_mixed","_law_cell"]⟩
theorem Fp:xW.jQ BN su=true:=by decide +kernel
def vP:FD:=⟨"chains_to",top 26,qJ,2,["chains_to"]⟩
theorem C2:vP.jQ BN kN=true:=by decide +kernel
def nZ:FD:=⟨"count_of_chains",top 25,nY,2,[]⟩
theorem vf:nZ.jQ BN kL=true:=by decide +kernel
def vQ:FD:=⟨"chains_of",top 24,vN,2,["chains_to","count_of_chains","MOST_CHAINS","TooBig"]⟩
theorem C3:vQ.jQ BN nj=true:=by decide +kernel
def uv:FD:=⟨"reading_of",top 28,ug,3,[]⟩
theorem Cb:uv.jQ BN uh=true:=by decide +kernel
def sU:FD:=⟨"readings_of",top 27,sR,3,["chains_of","reading_of"]⟩
theorem Ar:sU.jQ BN nL=true:=by decide +kernel
def vR:FD:=⟨"_law_refused",top 48,vO,3,["ClaimError","chains_of","readings_of","_law_alike","$x","TooBig","TooMany","NoFit","NoChange","NotOwn","BadRow","NoClaim","Twice","NoPart","NoKind","NotUnder","NoRange","NoGround","TwoGrounds"]⟩
theorem C4:vR.jQ BN nq=true:=by decide +kernel
def D5:FD:=⟨"_law_due",top 47,D4,1,[]⟩
theorem NZ:D5.jQ BN yT=true:=by decide +kernel
def qi:FD:=⟨"law",top 49,Mp,1,["_law_alike","_law_claims","_law_refused","chains_of","_law_due"]⟩
theorem RJ:qi.jQ BN Fj=true:=by decide +kernel
def Lz:CD:=⟨"TooBig",139,(NY (top 7)).getD 0 (.Pass ⟨0,0,0,0⟩),["self","claim","row"],[("claim",1),("row",2)]⟩
theorem LA:Lz.jQ Mq=true:=by decide +kernel
end Tr
end
section
namespace K2
open PySem L2 L3
noncomputable def rep(n:Int)(c:Nat):List Nat:=aW n.toNat c
theorem nC(a:Int){b:Int}(h:0<b):0<=a%b/\a%b<b:=⟨Int.emod_nonneg _ (by omega),Int.emod_lt_of_pos _ h⟩
end K2
end
section
namespace K2
open PySem L2 L3 Tr
theorem fc(l:List Int):aB (l.map D.int)=l.map D.int:=jm _ (fun _=>rfl) l
theorem yU:∀l:List Int,dw (l.map D.int)=true
|[]=>rfl
|_::r=>yU r
variable{α:Type}
theorem D6(x:α)(r:List α):gU (x::r) 0=some x:=yp (j:=0) rfl
theorem Fq(l:List α)(i:Int)(x:α)(h0:0<=i)(h:l[i.toNat]?=some x):gU l i=some x:=by
 have e:((i.toNat:Nat):Int)=i:=tu h0;rw[<-e];exact yp h
variable{O:bA}
theorem l5{g:D->bA->R bA}{b:bA->Fl}{d:D}{r:List D}{TH TQ:bA}(h1:g d O=.ok TH)(h2:b TH=.nx TQ):forR g b (d::r) O=forR g b r TQ:=by
 show(g d O).aY _=_;rw[h1];simp only[R.aY,h2]
theorem Qy(ns:List Int):∃c:Int,sy [iy ns,.int 0]=.ok (.int c):=by
 have fi:=fc ns;unfold sy wM B9 iy;cases ns with
 |nil=>
  exact⟨2377,by kernel_rfl⟩
 |cons a r=>
  refine⟨a,?_⟩;have l:decide ((0:Int)<((((a::r).map D.int).length:Nat):Int))=true:=decide_eq_true (by simp);have h0:gU ((a::r).map D.int) 0=some (.int a):=D6 _ _;generalize(a::r).map D.int=X at fi l h0 ⊢;simp_arith [fi,l,h0]
theorem D7(c k:Int)(hk:0<=k/\k<=300):∃m:Int,0<=m/\m<800000000/\qh [.int c,.int k]=.ok (.int m):=by
 have b1:=nC c (b:=2147483647) (by decide);obtain⟨o,ho⟩:∃o,o=(c%2147483647+7919*k+1)*48271%2147483647:=⟨_,rfl⟩;have b2:=nC ((c%2147483647+7919*k+1)*48271) (b:=2147483647) (by decide);rw[<-ho]at b2;have b3:=nC o (b:=1009) (by decide);have b4:=nC (o*(o%1009+1)) (b:=2147483629) (by decide);refine⟨o*(o%1009+1)%2147483629 / 3,by omega,by omega,?_⟩;unfold qh um Ac;simp_arith [];rw[<-ho]
noncomputable abbrev Cl:=List Int×Bool
noncomputable def ir:D:=.tup [.str "parts",.int 1,.bl false,.str "",.lst false [.str "x"]]
noncomputable def pD(b:Bool):D:=.lst false (if b=true then[ir]else[])
noncomputable def cF(c:Cl):D:=.tup [.lst false (c.1.map D.int),pD c.2]
theorem Ft(b:Bool):bG (pD b)=pD b:=by cases b<;>rfl
theorem SV(c:Cl):bG (cF c)=cF c:=by
 show D.tup [.lst false (aB (c.1.map D.int)),bG (pD c.2)]=_;rw[fc,Ft];rfl
theorem qj(C:List Cl):aB (C.map cF)=C.map cF:=jm _ SV C
def fM(ts:List Int)(i:Nat):Prop:=∀t∈ts,1<=t/\t<=(i:Int)
def ji(C:List Cl):Prop:=∀i c,C[i]?=some c->fM c.1 i
def Cs(X:List D)(C:List Cl):Prop:=aB X=C.map cF
variable{X:List D}{C:List Cl}
theorem Cs.len(h:Cs X C):X.length=C.length:=by
 have:=congrArg vW h;rw[gv,aC]at this;exact this
theorem Ae(X:List D)(d:D):aB (X++[d])=aB X++[bG d]:=lD X [d]
theorem Cc:∀(X:List D) (n:Nat) (d:D),aB (X.set n d)=(aB X).set n (bG d)
|[],n,d=>rfl
|x::r,0,d=>rfl
|x::r,n+1,d=>by
 show bG x::aB (r.set n d)=_;rw[Cc r n d];rfl
theorem R7(x y z i:Int)(h:0<=i/\i<3):∃m,gU [D.int x,.int y,.int z] i=some (.int m)/\(m=x\/m=y\/m=z):=by
 obtain⟨h0,h1⟩:=h;have:i=0\/i=1\/i=2:=by omega
 rcases this with rfl|rfl|rfl
 ·exact⟨x,rfl,.inl rfl⟩
 ·exact⟨y,rfl,.inr (.inl rfl)⟩
 ·exact⟨z,rfl,.inr (.inr rfl)⟩
theorem u9(d f:Int)(hd:0<=d)(hf:0<=f/\f<3)(ab:Nat)(a0 a1 a3 a4 a8:Option D):∀(k j:Nat) (hj:j+k=ab) (ns:List Int) (h:fM ns j) (hl:ns.length<=5) (x:Option D),∃ns' y,fM ns' ab/\ns'.length<=5 /\
 forR (pG (.name 7)) (cB bS 1000 iz) ((bq k).map fun i=>D.int (1+((j+i:Nat):Int))) [a0,a1,some (.int f),a3,a4,some (.int d),some (.lst true (ns.map D.int)),x,a8]=.nx [a0,a1,some (.int f),a3,a4,some (.int d),some (.lst true (ns'.map D.int)),y,a8]
|0,j,hj,ns,h,hl,x=>⟨ns,x,by rw[<-hj];exact h,hl,rfl⟩
|k+1,j,hj,ns,h,hl,x=>by
 have hs:=szl;have fi:=fc ns;have ln:(ns.map D.int).length=ns.length:=aC _;obtain⟨p,p1,p2⟩:=R7 5 2 3 f hf;have pp:0<p:=by omega
 have m12:=nC (1+(j:Int)) (b:=12) (by decide);have e:(bq (k+1)).map (fun i=>D.int (1+((j+i:Nat):Int)))=D.int (1+(j:Int))::(bq k).map fun i=>D.int (1+((j+1+i:Nat):Int)):=by
  rw[iS,cM,dH];refine congrArg (Al _) (cE fun i _=>?_);show D.int (1+((j+(i+1):Nat):Int))=_;rw[show j+(i+1)=j+1+i by omega]
 rw[e];have wide:fM ns (j+1):=fun n hn=>by have:=h n hn;omega
 cases g1:(d / 2 ^ ((1+(j:Int))%12).toNat%p==0)with
 |true=>
  by_cases c:ns.length<5
  ·have g2:=decide_eq_true (show(ns.length:Int)<5 by omega);obtain⟨ns',y,t1,t3,t2⟩:=u9 d f hd hf ab a0 a1 a3 a4 a8 k (j+1) (by omega) (ns++[1+(j:Int)]) (fun n hn=>by
    rcases bL.mp hn with hn|hn
    ·have:=h n hn;omega
    ·rw[bR.mp hn];omega) (by rw[aR,dF];omega) (some (.int (1+(j:Int))))
   refine⟨ns',y,t1,t3,?_⟩;have ea:ns.map D.int++[.int (1+(j:Int))]=(ns++[1+(j:Int)]).map D.int:=by rw[cN];rfl
   rw[l5 (TQ:=[a0,a1,some (.int f),a3,a4,some (.int d),some (.lst true ((ns++[1+(j:Int)]).map D.int)),some (.int (1+(j:Int))),a8]) rfl (by
    rw[<-ea];unfold iz bS;simp_arith [p1,g1,fi,ln,g2];rw[fV (xs:=ns.map D.int) rfl (by omega) rfl];simp_arith [])]
   exact t2
  ·have g2:=decide_eq_false (show ¬(ns.length:Int)<5 by omega);obtain⟨ns',y,t1,t3,t2⟩:=u9 d f hd hf ab a0 a1 a3 a4 a8 k (j+1) (by omega) ns wide hl (some (.int (1+(j:Int))));refine⟨ns',y,t1,t3,?_⟩;rw[l5 (TQ:=[a0,a1,some (.int f),a3,a4,some (.int d),some (.lst true (ns.map D.int)),some (.int (1+(j:Int))),a8]) rfl (by
    unfold iz bS;simp_arith [p1,g1,fi,ln,g2])]
   exact t2
 |false=>
  obtain⟨ns',y,t1,t3,t2⟩:=u9 d f hd hf ab a0 a1 a3 a4 a8 k (j+1) (by omega) ns wide hl (some (.int (1+(j:Int))));refine⟨ns',y,t1,t3,?_⟩;rw[l5 (TQ:=[a0,a1,some (.int f),a3,a4,some (.int d),some (.lst true (ns.map D.int)),some (.int (1+(j:Int))),a8]) rfl (by
   unfold iz bS;simp_arith [p1,g1,fi,ln])]
  exact t2
theorem Qz(d:Int):∃b,xM (.lst true [.tup [.str "parts",.int 1,.bl false,.str "",.lst true [.str "x"]]]) none (some (d%2))=.ok (.lst true (if b=true then[ir]else[])):=by
 have m2:=nC d (b:=2) (by decide);have:d%2=0\/d%2=1:=by omega
 rcases this with e|e
 ·rw[e];exact⟨false,by kernel_rfl⟩
 ·rw[e];exact⟨true,by kernel_rfl⟩
theorem N1(len:Nat)(y:Int)(hl:len<=12)(hy:y=11\/y=3\/y=5):∃k j:Nat,j+k=len/\lB [.int (if(len:Int)-y>1 then(len:Int)-y else 1),.int ((len:Int)+1)]=.ok ((bq k).map fun i=>D.int (1+((j+i:Nat):Int))):=by
 have hs:=szl;obtain⟨lo,e⟩:∃lo:Int,lo=(if(len:Int)-y>1 then(len:Int)-y else 1):=⟨_,rfl⟩;rw[<-e];have h1:1<=lo:=by rw[e];split<;>omega
 have h2:lo<=(len:Int)+1:=by rw[e];split<;>omega
 refine⟨((len:Int)+1-lo).toNat,(lo-1).toNat,by omega,?_⟩;rw[B0 ⟨by omega,by omega,by omega,by omega,by omega⟩];unfold jS;refine congrArg R.ok (cE fun i _=>?_);refine congrArg D.int ?_;omega
noncomputable def b2A:dS:=match iA with|.cons a (.cons b (.cons c (.cons d _)))=>.cons a (.cons b (.cons c (.cons d .nil)))|x=>x
noncomputable def QB:dS:=match iA with|.cons a (.cons b (.cons c (.cons d r)))=>r|x=>x
variable{Y:List PG}{n:Nat}{a:CS}{r:dS}{TF:bA}
theorem QC{b c d:CS}(h:cB Y n (.cons a (.cons b (.cons c (.cons d .nil)))) O=.nx TF):cB Y n (.cons a (.cons b (.cons c (.cons d r)))) O=cB Y n r TF:=by
 have h:(match pS Y n a O with|.nx s1=>(match pS Y n b s1 with|.nx s2=>(match pS Y n c s2 with|.nx s3=>(match pS Y n d s3 with|.nx s4=>Fl.nx s4|x=>x)|x=>x)|x=>x)|x=>x)=.nx TF:=h;show(match pS Y n a O with|.nx s1=>(match pS Y n b s1 with|.nx s2=>(match pS Y n c s2 with|.nx s3=>(match pS Y n d s3 with|.nx s4=>cB Y n r s4|x=>x)|x=>x)|x=>x)|x=>x)=cB Y n r TF;cases q1:pS Y n a O with
 |nx s1=>
  rw[q1]at h;dsimp only at h ⊢;cases q2:pS Y n b s1 with
  |nx s2=>
   rw[q2]at h;dsimp only at h ⊢;cases q3:pS Y n c s2 with
   |nx s3=>
    rw[q3]at h;dsimp only at h ⊢;cases q4:pS Y n d s3 with
    |nx s4=>
     rw[q4]at h;cases h;rfl
    |_=>rw[q4]at h;cases h
   |_=>rw[q3]at h;cases h
  |_=>rw[q2]at h;cases h
 |_=>rw[q1]at h;cases h
theorem SW(X:List D)(f k c:Int)(hf:0<=f/\f<3)(hk:0<=k/\k<=300)(hl:X.length<=12)(a0 a5 a6 a7 a8:Option D):∃(d:Int) (ns:List Int) (b:Bool) (y:Option D),(0<=d/\d<800000000)/\fM ns X.length/\ns.length<=5 /\
  cB bS 1000 b2A [a0,some (.lst true X),some (.int f),some (.int k),some (.int c),a5,a6,a7,a8]=.nx [a0,some (.lst true X),some (.int f),some (.int k),some (.int c),some (.int d),some (.lst true (ns.map D.int)),y,some (.lst true (if b=true then[ir]else[]))]:=by
 have hs:=szl;obtain⟨d,d0,d1,qd⟩:=D7 c k hk;obtain⟨p,p1,p2⟩:=R7 11 3 5 f hf;obtain⟨n,j,hj,rg⟩:=N1 X.length p hl p2;obtain⟨ns,y,t1,t3,t2⟩:=u9 d f d0 hf X.length a0 (some (.lst true X)) (some (.int k)) (some (.int c)) a8 n j hj [] (by intro t ht;cases ht) (by simp) a7;obtain⟨b,qb⟩:=Qz d;refine⟨d,ns,b,y,⟨d0,d1⟩,t1,t3,?_⟩;have lx:(aB X).length=X.length:=gv X;have t2:forR (pG (.name 7)) (cB bS 1000 iz) ((bq n).map fun i=>D.int (1+((j+i:Nat):Int))) [a0,some (.lst true X),some (.int f),some (.int k),some (.int c),some (.int d),some (.lst true []),a7,a8]=_:=t2;generalize(bq n).map (fun i=>D.int (1+((j+i:Nat):Int)))=Tu at rg t2;generalize ns.map D.int=N at t2 ⊢;generalize(if b=true then[ir]else[])=B at qb ⊢;show cB bS 1000 (.cons _ (.cons _ (.cons _ (.cons _ .nil)))) _=_;unfold bS at t2 ⊢;simp_arith [qd,p1,lx,rg,t2,qb];cases dw B<;>rfl
variable{b o o':Bool}{ns:List Int}
theorem Cs.snoc(h:Cs X C):Cs (X++[.tup [.lst o (ns.map D.int),.lst o' (if b=true then[ir]else[])]]) (C++[(ns,b)]):=by
 unfold Cs at h ⊢;rw[Ae,h,cN];show _++[D.tup [.lst false (aB (ns.map D.int)),.lst false (aB (if b=true then[ir]else[]))]]=_;rw[fc];cases b<;>rfl
theorem Cs.put(h:Cs X C)(n:Nat):Cs (X.set n (.tup [.lst o (ns.map D.int),.lst o' (if b=true then[ir]else[])])) (C.set n (ns,b)):=by
 unfold Cs at h ⊢;rw[Cc,h,List.map_set];refine congrArg _ ?_;show D.tup [.lst false (aB (ns.map D.int)),.lst false (aB (if b=true then[ir]else[]))]=_;rw[fc];cases b<;>rfl
theorem ji.snoc(h:ji C)(t:fM ns C.length):ji (C++[(ns,b)]):=fun i c e=>by
 by_cases q:i<C.length
 ·rw[bW q]at e;exact h i c e
 ·rw[cG (pN q)]at e;by_cases z:i-C.length=0
  ·rw[z]at e;have e:some (ns,b)=some c:=e;cases e;exact fun x hx=>by have:=t x hx;omega
  ·rw[show i-C.length=(i-C.length-1)+1 by omega]at e;simp at e
theorem ji.put(h:ji C)(t:fM ns n):ji (C.set n (ns,b)):=fun i c e=>by
 by_cases q:n=i
 ·subst q;rw[dm]at e;split at e
  ·split at e
   ·cases e;exact t
   ·cases e
  ·exact h n c e
 ·rw[ck q]at e;exact h i c e
theorem Fv(l:List Int):(l.map D.int).all qX=true:=by
 rw[mq];exact bz.mpr fun _ _=>rfl
theorem RK(X:List D)(C:List Cl)(hC:Cs X C)(f k c d:Int)(ns:List Int)(b:Bool)(hl:X.length<12)(a0 y:Option D):∃X' b5 b6 b8,Cs X' (C++[(ns,b)]) /\
  cB bS 1000 QB [a0,some (.lst true X),some (.int f),some (.int k),some (.int c),some (.int d),some (.lst true (ns.map D.int)),y,some (.lst true (if b=true then[ir]else[]))]=.nx [a0,some (.lst true X'),some (.int f),some (.int k),some (.int c),b5,b6,y,b8]:=by
 have hs:=szl;have lx:(aB X).length=X.length:=gv X;have fi:=fc ns;have g:=decide_eq_true (show(X.length:Int)<12 by omega);refine⟨_,some (.int d),some (.lst false (ns.map D.int)),some (.lst false (if b=true then[ir]else[])),hC.snoc (o:=false) (o':=false) (ns:=ns) (b:=b),?_⟩;have fB:aB (if b=true then[ir]else[])=if b=true then[ir]else[]:=by cases b<;>rfl
 generalize(if b=true then[ir]else[])=B at fB ⊢;generalize ns.map D.int=N at fi ⊢;show cB bS 1000 (.cons _ .nil) _=_;unfold bS;simp_arith [lx,g,fi,fB];rw[fV (xs:=X) rfl (by omega) rfl];simp_arith [fi,fB]
theorem Af:∀l:List Int,qa (l.map D.int)=some l
|[]=>rfl
|x::r=>by
 show(qa (r.map D.int)).map (x::·)=_;rw[Af r];rfl
theorem IE(l:List Int):sd (l.map D.int)=some (l.map fun x=>[.inl x]):=by
 cases l with
 |nil=>rfl
 |cons x r=>
  show(match qa ((x::r).map D.int)with|some ns=>some (ns.map fun x=>[(.inl x:Key)])|none=>r_ _)=_;rw[Af]
theorem sortable_ints(l:List Int)(h:l.length<64):sortable (l.map fun x=>[(.inl x:Key)])=true:=by
 unfold sortable;rw[bx];refine⟨decide_eq_true (by rw[aC];exact h),bz.mpr fun k hk=>?_⟩;obtain⟨a,_,rfl⟩:=fP.mp hk;rw[bx];refine⟨rfl,bz.mpr fun q hq=>?_⟩;obtain⟨b,_,rfl⟩:=fP.mp hq;rfl
theorem sorted_ints(l:List Int)(o:Bool)(h:l.length<64):∃l':List Int,(∀x∈l',x∈l)/\iO .sorted [.lst o (l.map D.int)]=.ok (.lst true (l'.map D.int)):=by
 refine⟨(nI (l.map fun x=>[(.inl x:Key)])).map fun i=>l.getD i 0,fun x hx=>?_,?_⟩
 ·obtain⟨i,hi,rfl⟩:=fP.mp hx;have hl:i<l.length:=by have:=xq _ _ i hi;simpa using this
  rw[aH,ak hl];exact f7 hl
 ·show(R.opt (sd (l.map D.int))).bind (fun kss=>R.bH (sortable kss) (.ok (D.lst true (se kss (l.map D.int)))))=_;rw[IE];show R.bH (sortable (l.map fun x=>[.inl x])) (.ok (D.lst true (se (l.map fun x=>[.inl x]) (l.map D.int))))=_;rw[sortable_ints l h];show R.ok (D.lst true (se _ _))=_;unfold se;rw[fc,dH];refine congrArg (fun x=>R.ok (D.lst true x)) (cE fun i hi=>?_);have hl:i<l.length:=by have:=xq _ _ i hi;simpa using this
  show(l.map D.int).getD i .non=D.int (l.getD i 0);rw[aH,aH,aU,ak hl];rfl
theorem yV:∀(l:List Int) (n:Nat),fE (l.map D.int) n=true
|[],_=>rfl
|x::r,n=>by
 show(lq (.int x) n&&fE (r.map D.int) n)=true;rw[yV r n];cases n<;>rfl
theorem ne_nil(l:List Int)(o:Bool):eZ .NotEq (.lst o (l.map D.int)) (.lst true [])=.ok (.bl (!l.isEmpty)):=by
 rw[D3 (x:=.lst o (l.map D.int)) (y:=.lst true []) (yV l 11) rfl];cases l<;>rfl
theorem eq_nil(l:List Int)(o:Bool):eZ .Eq (.lst o (l.map D.int)) (.lst true [])=.ok (.bl l.isEmpty):=by
 rw[D0 (x:=.lst o (l.map D.int)) (y:=.lst true []) (yV l 11) rfl];cases l<;>rfl
theorem LB(ns:List Int)(d m:Int)(hm:m=d / 7%12):fG (pG (.name 0)) (pT bS (.cmp .LtE (.var 0) (.bin .Mod (.bin .FloorDiv (.var 1) (.con (.int 7))) (.con (.int 12))))) (pE bS (.var 0)) (ns.map D.int) [none,some (.int d)]=.ok ((ns.filter fun n=>decide (n<=m)).map D.int):=by
 refine uf D.int (fun O=>∃o,O=[o,some (.int d)]) (fun n=>decide (n<=m)) D.int ns _ ⟨none,rfl⟩ ?_;rintro x hx O ⟨o,rfl⟩;refine⟨[some (.int x),some (.int d)],rfl,⟨_,rfl⟩,?_,rfl⟩;subst hm;unfold bS;simp_arith []
theorem RL(X:List D)(C:List Cl)(hC:Cs X C)(ok:ji C)(f k c d:Int)(hd:0<=d/\d<800000000)(ns:List Int)(b:Bool)(hn:fM ns X.length)(h5:ns.length<=5)(hl:X.length=12)(a0 y:Option D):∃X' C' b5 b6 b8,Cs X' C'/\ji C'/\C'.length=C.length /\
  cB bS 1000 QB [a0,some (.lst true X),some (.int f),some (.int k),some (.int c),some (.int d),some (.lst true (ns.map D.int)),y,some (.lst true (if b=true then[ir]else[]))]=.nx [a0,some (.lst true X'),some (.int f),some (.int k),some (.int c),b5,b6,y,b8]:=by
 have hs:=szl;have lx:(aB X).length=X.length:=gv X;have fi:=fc ns;have g:=decide_eq_false (show ¬(X.length:Int)<12 by omega);have z:=ne_nil ns false;have fB:aB (if b=true then[ir]else[])=if b=true then[ir]else[]:=by cases b<;>rfl
 cases en:ns.isEmpty with
 |true=>
  rw[en]at z;refine⟨X,C,some (.int d),some (.lst true (ns.map D.int)),some (.lst true (if b=true then[ir]else[])),hC,ok,rfl,?_⟩;generalize(if b=true then[ir]else[])=B at fB ⊢;generalize ns.map D.int=N at fi z ⊢;show cB bS 1000 (.cons _ .nil) _=_;unfold bS;simp_arith [lx,g,fi,fB,z,nV]
 |false=>
  rw[en]at z;obtain⟨m,hm⟩:∃m,m=d / 7%12:=⟨_,rfl⟩;have mb:=nC (d / 7) (b:=12) (by decide);rw[<-hm]at mb;have q1:=LB ns d m hm;have hf:(ns.filter fun n=>decide (n<=m)).length<64:=Nat.lt_of_le_of_lt (List.length_filter_le _ _) (by omega);obtain⟨l',m1,q2⟩:=sorted_ints (ns.filter fun n=>decide (n<=m)) true hf;have ix:gh X.length m=some m.toNat:=by
   unfold gh;rw[if_pos mb.1,if_pos (by omega)]
  refine⟨X.set m.toNat (.tup [.lst true (l'.map D.int),.lst false (if b=true then[ir]else[])]),C.set m.toNat (l',b),some (.int d),some (.lst false (ns.map D.int)),some (.lst false (if b=true then[ir]else[])),hC.put m.toNat,ok.put (fun t ht=>?_),qp ..,?_⟩
  ·have h1:=m1 t ht;obtain⟨h2,h3⟩:=ql.mp h1;have h3:=of_decide_eq_true h3;have:=hn t h2;omega
  ·generalize(if b=true then[ir]else[])=B at fB ⊢;generalize ns.map D.int=N at fi z q1 ⊢;generalize(ns.filter fun n=>decide (n<=m)).map D.int=N2 at q1 q2;generalize l'.map D.int=Tu at q2 ⊢;show cB bS 1000 (.cons _ .nil) _=_;unfold bS at q1 ⊢;simp_arith [lx,g,fi,fB,z,Bool.not_false,q1,q2];have ow:a9 (.tup [.lst true Tu,.lst false B])=false:=by
    show(true&&dw Tu&&(false&&dw B&&true))=false;simp
   rw[<-hm,Aa (x:=.lst true X) (x':=.lst true (X.set m.toNat (.tup [.lst true Tu,.lst false B]))) rfl (by rw[ow];rfl) (by
    show(gh X.length m).map (fun n=>D.lst true (X.set n (.tup [.lst true Tu,.lst false B])))=_;rw[ix];rfl),ow]
   simp_arith [fi,fB]
theorem N3(X:List D)(C:List Cl)(hC:Cs X C)(ok:ji C)(h12:C.length<=12)(f k c:Int)(hf:0<=f/\f<3)(hk:0<=k/\k<=300)(a0 a5 a6 a7 a8:Option D):∃X' C' b5 b6 b7 b8,Cs X' C'/\ji C'/\(1<=C'.length/\C'.length<=12) /\
  cB bS 1000 iA [a0,some (.lst true X),some (.int f),some (.int k),some (.int c),a5,a6,a7,a8]=.nx [a0,some (.lst true X'),some (.int f),some (.int k),some (.int c),b5,b6,b7,b8]:=by
 have lx:=hC.len;obtain⟨d,ns,b,y,hd,hn,h5,q⟩:=SW X f k c hf hk (by omega) a0 a5 a6 a7 a8;have e:cB bS 1000 iA [a0,some (.lst true X),some (.int f),some (.int k),some (.int c),a5,a6,a7,a8]=cB bS 1000 QB _:=QC q;rw[e];by_cases cc:X.length<12
 ·obtain⟨X',b5,b6,b8,h1,h2⟩:=RK X C hC f k c d ns b cc a0 y;exact⟨X',_,b5,b6,y,b8,h1,ok.snoc (by rw[<-lx];exact hn),by rw[aR,dF];omega,h2⟩
 ·obtain⟨X',C',b5,b6,b8,h1,h2,h3,h4⟩:=RL X C hC ok f k c d hd ns b hn h5 (by omega) a0 y;exact⟨X',C',b5,b6,y,b8,h1,h2,by omega,h4⟩
theorem D8(f:Int)(hf:0<=f/\f<3)(a0:Option D):∀(ns:List Int) (j:Nat) (hj:j+ns.length<=64) (X:List D) (C:List Cl) (hC:Cs X C) (ok:ji C) (h12:C.length<=12) (h1:ns≠[]\/1<=C.length) (a3 a4 a5 a6 a7 a8:Option D),∃X' C' b3 b4 b5 b6 b7 b8,Cs X' C'/\ji C'/\(1<=C'.length/\C'.length<=12) /\
 forR (pG (.tup (.cons (.name 3) (.cons (.name 4) .nil)))) (cB bS 1000 iA) (jI j (ns.map D.int)) [a0,some (.lst true X),some (.int f),a3,a4,a5,a6,a7,a8]=.nx [a0,some (.lst true X'),some (.int f),b3,b4,b5,b6,b7,b8]
|[],j,hj,X,C,hC,ok,h12,h1,a3,a4,a5,a6,a7,a8=>⟨X,C,a3,a4,a5,a6,a7,a8,hC,ok,⟨h1.resolve_left fun z=>z rfl,h12⟩,rfl⟩
|n::ns,j,hj,X,C,hC,ok,h12,h1,a3,a4,a5,a6,a7,a8=>by
 simp only[bP]at hj;obtain⟨X1,C1,b5,b6,b7,b8,q1,q2,q3,q4⟩:=N3 X C hC ok h12 f (j:Int) n hf ⟨by omega,by omega⟩ a0 a5 a6 a7 a8;obtain⟨X',C',c3,c4,c5,c6,c7,c8,r1,r2,r3,r4⟩:=D8 f hf a0 ns (j+1) (by omega) X1 C1 q1 q2 q3.2 (.inr q3.1) (some (.int (j:Int))) (some (.int n)) b5 b6 b7 b8;refine⟨X',C',c3,c4,c5,c6,c7,c8,r1,r2,r3,?_⟩;show forR _ _ (D.tup [.int (j:Int),.int n]::jI (j+1) (ns.map D.int)) _=_;rw[l5 (TH:=[a0,some (.lst true X),some (.int f),some (.int (j:Int)),some (.int n),a5,a6,a7,a8]) rfl q4];exact r4
theorem Cd(l:List α)(k:Nat):cut l none (some (k:Int))=l.take k:=by
 unfold cut;have e1:HT.iX l.length 0 none=0:=rfl;have e2:HT.iX l.length l.length (some (k:Int))=min k l.length:=HT.MJ _ _ _;rw[e1,e2,rH,Nat.sub_zero,List.take_eq_take_min];simp
theorem LC(ns:List Int)(h:ns.length<=63):∃X C,Cs X C/\ji C/\(1<=C.length/\C.length<=12)/\oA [iy ns]=.ok (.lst true X):=by
 have hs:=szl;obtain⟨c,qc⟩:=Qy ns;obtain⟨m,m0,m1,qm⟩:=D7 c 1 ⟨by decide,by decide⟩;have mb:=nC m (b:=3) (by decide);obtain⟨X,C,b3,b4,b5,b6,b7,b8,r1,r2,r3,r4⟩:=D8 (m%3) mb (some (iy ns)) (ns++[3]) 0 (by rw[aR,dF];omega) [] [] rfl (fun i c e=>by cases e) (gO _) (.inl (by simp)) none none none none none none;refine⟨X,C,r1,r2,r3,?_⟩;have fi:=fc ns;have ln:(ns.map D.int).length=ns.length:=aC _;have sc:xM (.lst false (ns.map D.int)) none (some 63)=.ok (.lst true (ns.map D.int)):=by
  show R.ok (D.lst true (aB (cut (ns.map D.int) none (some 63))))=_;rw[show(63:Int)=((63:Nat):Int)from rfl,Cd,eY (by rw[ln];omega),fi]
 rw[cN]at r4;have r4:forR _ _ (jI 0 (ns.map D.int++[D.int 3])) _=_:=r4;have fz2:aB (ns.map D.int++[D.int 3])=ns.map D.int++[D.int 3]:=by rw[Ae,fi];rfl
 have ow:dw (ns.map D.int++[D.int 3])=true:=by
  have:=yU (ns++[3]);rw[cN]at this;exact this
 have ln2:(ns.map D.int).length+1<=ai:=by omega
 unfold oA su;unfold iy at qc r4 ⊢;generalize ns.map D.int=N at *;unfold bS at r4 ⊢;simp_arith [fi,qc,qm,sc,fz2,ow,r4]
noncomputable abbrev Ch:=List (List Int)
noncomputable abbrev Du:=List (Int×Ch)
noncomputable def bT(A:Du)(t:Int):Int×Ch:=A.getD (t-1).toNat (0,[])
noncomputable def sm(A:Du)(ts:List Int):Int:=(ts.map fun t=>(bT A t).1).sum
noncomputable def hc(A:Du)(k:Int)(ts:List Int):Ch:=ts.flatMap fun t=>(bT A t).2.map (·++[k])
noncomputable def stp(A:Du)(ts:List Int):Int×Ch:=(if sm A ts>1 then sm A ts else 1,(if ts.isEmpty=true then[[(A.length:Int)+1]]else[])++(if sm A ts<7 then hc A ((A.length:Int)+1) ts else[]))
noncomputable def aV:List Cl->Du->Du
|[],A=>A
|c::r,A=>aV r (A++[stp A c.1])
def l6(A:Du):Prop:=∀(i:Nat) (p:Int×Ch),A[i]?=some p->(1:Int)<=p.1/\(p.1<7->(p.2.length:Int)=p.1)/\((7:Int)<=p.1->p.2=[])/\∀ch∈p.2,ch.length<=i+1/\1<=ch.length
variable{A:Du}{t:Int}
theorem kY(h:1<=t/\t<=(A.length:Int)):A[(t-1).toNat]?=some (bT A t):=by
 have hl:(t-1).toNat<A.length:=by omega
 unfold bT;rw[aH,ak hl];rfl
theorem oM(A:Du)(t:Int)(ts:List Int):sm A (t::ts)=(bT A t).1+sm A ts:=by
 unfold sm;rw[cM,s9]
theorem yW(A:Du)(k t:Int)(ts:List Int):hc A k (t::ts)=(bT A t).2.map (·++[k])++hc A k ts:=by
 unfold hc;rw[List.flatMap_cons]
theorem nD(ok:l6 A):∀{ts:List Int},fM ts A.length->0<=sm A ts/\(ts≠[]->1<=sm A ts)
|[],_=>⟨Dn _,fun z=>absurd rfl z⟩
|t::ts,h=>by
 have i:=nD ok (ts:=ts) fun x hx=>h x (ao _ hx);have p:=ok _ _ (kY (h t aG));rw[oM];exact⟨by omega,fun _=>by omega⟩
theorem IF(ok:l6 A)(k:Int):∀{ts:List Int},fM ts A.length->sm A ts<7->((hc A k ts).length:Int)=sm A ts
|[],_,_=>rfl
|t::ts,h,hs=>by
 have h':fM ts A.length:=fun x hx=>h x (ao _ hx);have i:=(nD ok h').1;have p:=ok _ _ (kY (h t aG));rw[oM]at hs;have q:=IF ok k h' (by omega);have r:=p.2.1 (by omega);rw[oM,yW,aR,aC];omega
variable{ts:List Int}
theorem QD(ok:l6 A)(k:Int)(h:fM ts A.length){ch:List Int}(m:ch∈hc A k ts):ch.length<=A.length+1/\1<=ch.length:=by
 obtain⟨t,ht,m⟩:=w5.mp m;obtain⟨c,hc,rfl⟩:=fP.mp m;have hb:=h t ht;have p:=(ok _ _ (kY hb)).2.2.2 c hc;rw[aR,dF];omega
theorem l6.snoc(ok:l6 A)(h:fM ts A.length):l6 (A++[stp A ts]):=fun i p e=>by
 by_cases q:i<A.length
 ·rw[bW q]at e;exact ok i p e
 ·rw[cG (pN q)]at e;by_cases z:i-A.length=0
  ·rw[z]at e;have e:some (stp A ts)=some p:=e;cases e;have sp:=nD ok h;unfold stp;dsimp only;cases ts with
   |nil=>
    have e1:sm A []=0:=rfl;have e2:hc A ((A.length:Int)+1) []=[]:=rfl;rw[e1,e2];simp
   |cons t ts=>
    have s1:=sp.2 (by simp);have e1:(if sm A (t::ts)>1 then sm A (t::ts)else 1)=sm A (t::ts):=by
     split
     ·rfl
     ·omega
    rw[e1];refine⟨s1,fun c=>?_,fun c=>?_,fun ch m=>?_⟩
    ·rw[if_pos c];exact IF ok _ h c
    ·rw[if_neg (show ¬sm A (t::ts)<7 by omega)];rfl
    ·by_cases c:sm A (t::ts)<7
     ·rw[if_pos c]at m;have:=QD ok _ h (show ch∈hc A ((A.length:Int)+1) (t::ts)from m);omega
     ·rw[if_neg c]at m;cases m
  ·rw[show i-A.length=(i-A.length-1)+1 by omega]at e;simp at e
theorem sC:∀(C E:List Cl) (A:Du),aV (C++E) A=aV E (aV C A)
|[],E,A=>rfl
|c::C,E,A=>sC C E _
theorem wN:∀(C:List Cl) (A:Du),(aV C A).length=A.length+C.length
|[],A=>rfl
|c::C,A=>by
 show(aV C (A++[stp A c.1])).length=_;rw[wN C,aR,dF,bP];omega
theorem sD:∀(C:List Cl) (A:Du) (i:Nat),i<A.length->(aV C A)[i]?=A[i]?
|[],A,i,h=>rfl
|c::C,A,i,h=>by
 show(aV C (A++[stp A c.1]))[i]?=_;rw[sD C _ i (by rw[aR];omega),bW h]
theorem D9:∀(C:List Cl) (A:Du),l6 A->(∀i c,C[i]?=some c->fM c.1 (A.length+i))->l6 (aV C A)
|[],A,ok,_=>ok
|c::C,A,ok,h=>by
 refine D9 C _ (ok.snoc (h 0 c rfl)) fun i e q=>?_;rw[aR,dF];have:=h (i+1) e (by simpa using q);rw[show A.length+1+i=A.length+(i+1)by omega];exact this
variable{B:Du}
theorem Fw(h:fM ts n)(e:∀i,i<n->A[i]?=B[i]?):∀t∈ts,bT A t=bT B t:=fun t ht=>by
 have:=h t ht;unfold bT;rw[aH,aH,e _ (by omega)]
theorem IG(h:fM ts A.length)(e:∀i,i<A.length->A[i]?=B[i]?):sm A ts=sm B ts/\∀k,hc A k ts=hc B k ts:=by
 have q:=Fw h e;refine⟨?_,fun k=>?_⟩
 ·unfold sm;rw[cE fun t ht=>by rw[q t ht]]
 ·unfold hc;rw[w6,w6,cE fun t ht=>by rw[q t ht]]
variable{c:Cl}{i:Nat}
theorem QE(ok:ji C)(e:C[i]?=some c):(aV C [])[i]?=some (stp (aV (C.take i) []) c.1)/\sm (aV (C.take i) []) c.1=sm (aV C []) c.1/\(∀k,hc (aV (C.take i) []) k c.1=hc (aV C []) k c.1)/\(aV (C.take i) []).length=i:=by
 obtain⟨hi,hc⟩:=bB.mp e;have e1:C=C.take i++c::C.drop (i+1):=by
  rw[<-hc];exact(rK i C).symm.trans (by rw[jN hi])
 have ln:(aV (C.take i) []).length=i:=by rw[wN,eB];simp;omega
 have e2:aV C []=aV (C.drop (i+1)) (aV (C.take i) []++[stp (aV (C.take i) []) c.1]):=by
  conv=>lhs;rw[e1,sC]
  rfl
 have pre:∀j,j<(aV (C.take i) []).length->(aV (C.take i) [])[j]?=(aV C [])[j]?:=fun j hj=>by
  rw[e2,sD (C.drop (i+1)) (aV (C.take i) []++[stp (aV (C.take i) []) c.1]) j (by rw[aR];omega),bW hj]
 have sc:=IG (ts:=c.1) (by rw[ln];exact ok i c e) pre;refine⟨?_,sc.1,sc.2,ln⟩;rw[e2,sD (C.drop (i+1)) (aV (C.take i) []++[stp (aV (C.take i) []) c.1]) i (by rw[aR,ln];simp),cG (by omega),ln,Nat.sub_self];rfl
noncomputable def dU(p:Int×Ch):D:=.int p.1
noncomputable def iG(ch:List Int):D:=.lst false (ch.map D.int)
noncomputable def dN(ch:List Int):D:=.lst true (ch.map D.int)
noncomputable def fq(p:Int×Ch):D:=.lst false (p.2.map iG)
theorem QF(ch:List Int):bG (iG ch)=iG ch:=by
 show D.lst false (aB (ch.map D.int))=_;rw[fc];rfl
theorem yX(cs:Ch):aB (cs.map iG)=cs.map iG:=jm _ QF cs
theorem xX:∀cs:Ch,aB (cs.map dN)=cs.map iG
|[]=>rfl
|c::r=>by
 show D.lst false (aB (c.map D.int))::aB (r.map dN)=_;rw[fc,xX r];rfl
theorem RM(p:Int×Ch):bG (fq p)=fq p:=by
 show D.lst false (aB (p.2.map iG))=_;rw[yX];rfl
theorem Ce(A:Du):aB (A.map fq)=A.map fq:=jm _ RM A
theorem uw(A:Du):aB (A.map dU)=A.map dU:=jm _ (fun _=>rfl) A
theorem ux:∀cs:Ch,dw (cs.map dN)=true
|[]=>rfl
|c::r=>by
 show(dw (c.map D.int)&&dw (r.map dN))=true;rw[yU,ux r];rfl
theorem Mr(h:1<=t/\t<=(A.length:Int)):gU (A.map fq) (t-1)=some (fq (bT A t)):=by
 refine Fq _ _ _ (by omega) ?_;rw[aU,kY h];rfl
theorem Ms(h:1<=t/\t<=(A.length:Int)):gU (A.map dU) (t-1)=some (.int (bT A t).1):=by
 refine Fq _ _ _ (by omega) ?_;rw[aU,kY h];rfl
theorem N4(A:Du)(ok:l6 A)(hA:A.length<=12)(hs:Ch)(h100:hs.length<=100)(t:Int)(ht:1<=t/\t<=(A.length:Int))(a0 a1 a4 a5:Option D):cB jx 1000 oz [a0,a1,some (.lst true (A.map fq)),some (.int (A.length:Int)),a4,a5,some (.lst true (hs.map dN)),some (.int t)]=.nx [a0,a1,some (.lst true (A.map fq)),some (.int (A.length:Int)),a4,a5,some (.lst true ((hs++(bT A t).2.map (·++[(A.length:Int)+1])).map dN)),some (.int t)]:=by
 have sz:=szl;have f1:=Ce A;have x1:gU (A.map fq) (t-1)=some (.lst false ((bT A t).2.map iG)):=Mr ht;have p:=ok _ _ (kY ht);generalize bT A t=P at x1 p ⊢;have f2:aB (P.2.map iG)=P.2.map iG:=yX P.2;have l2:P.2.length<=7:=by
  by_cases c:P.1<7
  ·have:=p.2.1 c;omega
  ·rw[p.2.2.1 (by omega)];simp
 have q:fG (pG (.name 0)) (fun _=>.ok true) (pE [] (.bin .Add (.var 0) (.lst (.cons (.bin .Add (.var 1) (.con (.int 1))) .nil)))) (P.2.map iG) [none,some (.int (A.length:Int))]=.ok (P.2.map fun ch=>dN (ch++[(A.length:Int)+1])):=by
  refine lM iG (fun O=>∃o,O=[o,some (.int (A.length:Int))]) (fun ch=>dN (ch++[(A.length:Int)+1])) P.2 _ ⟨none,rfl⟩ ?_;rintro ch hch O ⟨o,rfl⟩;have hl:=(p.2.2.2 ch hch).1;refine⟨[some (iG ch),some (.int (A.length:Int))],rfl,⟨_,rfl⟩,?_⟩;have fi:=fc ch;have ln:(ch.map D.int).length+1<=ai:=by rw[aC];omega
  unfold iG dN;rw[cN];generalize ch.map D.int=N at fi ln ⊢;simp_arith [fi,cM,pL]
 have ow:a9 (.lst true (P.2.map fun ch=>dN (ch++[(A.length:Int)+1])))=true:=by
  have:=ux (P.2.map fun ch=>ch++[(A.length:Int)+1]);rw[dH]at this;exact this
 have e1:(hs++P.2.map (·++[(A.length:Int)+1])).map dN=hs.map dN++P.2.map fun ch=>dN (ch++[(A.length:Int)+1]):=by
  rw[cN,dH];rfl
 rw[e1];have l3:(hs.map dN).length+(P.2.map fun ch=>dN (ch++[(A.length:Int)+1])).length<=ai:=by rw[aC,aC];omega
 generalize(A.map fq)=X at f1 x1 ⊢;generalize(P.2.map fun ch=>dN (ch++[(A.length:Int)+1]))=Tt at q ow l3 ⊢;generalize hs.map dN=Z at l3 ⊢;generalize P.2.map iG=W at f2 x1 q;unfold oz jx;simp_arith [f1,x1,f2,q];rw[ue (xs:=Z) rfl l3 (by rw[ow];rfl),ow];simp_arith []
theorem D_(A:Du)(ok:l6 A)(hA:A.length<=12)(a0 a1 a4 a5:Option D):∀(ts:List Int) (h:fM ts A.length) (hs:Ch) (h100:(hs.length:Int)+sm A ts<=90) (x:Option D),∃y,forR (pG (.name 7)) (cB jx 1000 oz) (ts.map D.int) [a0,a1,some (.lst true (A.map fq)),some (.int (A.length:Int)),a4,a5,some (.lst true (hs.map dN)),x]=.nx [a0,a1,some (.lst true (A.map fq)),some (.int (A.length:Int)),a4,a5,some (.lst true ((hs++hc A ((A.length:Int)+1) ts).map dN)),y]
|[],h,hs,h100,x=>⟨x,by rw[show hc A ((A.length:Int)+1) []=[]from rfl,dM];rfl⟩
|t::ts,h,hs,h100,x=>by
 have ht:=h t aG;have h':fM ts A.length:=fun x hx=>h x (ao _ hx);have p:=ok _ _ (kY ht);have i:=(nD ok h').1;rw[oM]at h100;have l2:((bT A t).2.length:Int)<=(bT A t).1:=by
  by_cases c:(bT A t).1<7
  ·have:=p.2.1 c;omega
  ·rw[p.2.2.1 (by omega)];simp;omega
 obtain⟨y,q⟩:=D_ A ok hA a0 a1 a4 a5 ts h' (hs++(bT A t).2.map (·++[(A.length:Int)+1])) (by rw[aR,aC];omega) (some (.int t));refine⟨y,?_⟩;show forR _ _ (D.int t::ts.map D.int) _=_;rw[l5 (TH:=[a0,a1,some (.lst true (A.map fq)),some (.int (A.length:Int)),a4,a5,some (.lst true (hs.map dN)),some (.int t)]) rfl (N4 A ok hA hs (by omega) t ht a0 a1 a4 a5),q,yW,cJ]
theorem LD(Y:List PG)(A:Du)(ts:List Int)(h:fM ts A.length)(o:Bool):fG (pG (.name 0)) (fun _=>.ok true) (pE Y (.ix (.var 1) (.bin .Sub (.var 0) (.con (.int 1))))) (ts.map D.int) [none,some (.lst o (A.map dU))]=.ok ((ts.map fun t=>(bT A t).1).map D.int):=by
 rw[dH];refine lM D.int (fun O=>∃o',O=[o',some (.lst o (A.map dU))]) (fun t=>D.int (bT A t).1) ts _ ⟨none,rfl⟩ ?_;rintro t ht O ⟨o',rfl⟩;refine⟨[some (.int t),some (.lst o (A.map dU))],rfl,⟨_,rfl⟩,?_⟩;have x:=Ms (h t ht);have f:=uw A;generalize A.map dU=X at x f;simp_arith [f,x]
theorem II(l:List Int):(l.map D.int).map intD=l:=by
 rw[dH];exact(cE fun _ _=>rfl).trans (Dp l)
theorem sum_ints(o:Bool)(l:List Int):iO .sum [.lst o (l.map D.int)]=.ok (.int l.sum):=by
 show R.bH ((l.map D.int).all qX) (.ok (D.int ((l.map D.int).map intD).sum))=_;rw[Fv,II];rfl
theorem N5{g:D->bA->R bA}{b:bA->Fl}:forR g b [] O=.nx O:=rfl
theorem RN:(if(0:Int)>1 then(0:Int)else 1)=1:=by decide
theorem QG(e:C[i]?=some c):gU (C.map cF) (i:Int)=some (.tup [.lst false (c.1.map D.int),pD c.2]):=by
 refine yp ?_;rw[aU,e];rfl
theorem N6(C:List Cl)(A:Du)(ok:l6 A)(hA:A.length<12)(c:Cl)(e:C[A.length]?=some c)(ht:fM c.1 A.length)(a4 a5 a6 a7:Option D):∃b4 b5 b6 b7,cB jx 1000 ko [some (.lst false (C.map cF)),some (.lst true (A.map dU)),some (.lst true (A.map fq)),some (.int (A.length:Int)),a4,a5,a6,a7]=.nx [some (.lst false (C.map cF)),some (.lst true ((A++[stp A c.1]).map dU)),some (.lst true ((A++[stp A c.1]).map fq)),some (.int (A.length:Int)),b4,b5,b6,b7]:=by
 have sz:=szl;have x1:=QG e;have fC:=qj C;have fR:=Ft c.2;have fN:=fc c.1;have q1:=LD [] A c.1 ht true;have q2:=sum_ints true (c.1.map fun t=>(bT A t).1);have z:=eq_nil c.1 false;have e1:(A++[stp A c.1]).map dU=A.map dU++[.int (if sm A c.1>1 then sm A c.1 else 1)]:=by rw[cN];rfl
 have e2:(A++[stp A c.1]).map fq=A.map fq++[.lst false ((stp A c.1).2.map iG)]:=by rw[cN];rfl
 have l1:(A.map dU).length<ai:=by rw[aC];omega
 have l2:(A.map fq).length<ai:=by rw[aC];omega
 rw[e1,e2];have q2:iO .sum [.lst true ((c.1.map fun t=>(bT A t).1).map D.int)]=.ok (.int (sm A c.1)):=q2;generalize((c.1.map fun t=>(bT A t).1).map D.int)=W at q1 q2;have f1:=uw A;have f2:=Ce A;have hs:=nD ok ht;generalize hR:pD c.2=R at x1 fR;by_cases ce:c.1=[]
 ·have e3:stp A c.1=(1,[[(A.length:Int)+1]]):=by rw[ce];rfl
  have e4:sm A c.1=0:=by rw[ce];rfl
  rw[e3];rw[e4]at q2 ⊢;rw[ce]at z x1 q1 fN;refine⟨some (.lst false []),some (.int 0),some (.lst false [.lst false [.int ((A.length:Int)+1)]]),a7,?_⟩;have z:eZ .Eq (.lst false []) (.lst true [])=.ok (.bl true):=z;have x1:gU (C.map cF) (A.length:Int)=some (.tup [.lst false [],R]):=x1;have q1:fG _ _ _ [] _=_:=q1;have sl:xM (.lst true [.lst true [.int ((A.length:Int)+1)]]) none (some 1)=.ok (.lst true [.lst false [.int ((A.length:Int)+1)]]):=by kernel_rfl
  show _=Fl.nx [_,some (.lst true (A.map dU++[.int 1])),some (.lst true (A.map fq++[.lst false [.lst false [.int ((A.length:Int)+1)]]])),_,_,_,_,_];generalize A.map dU=X1 at q1 f1 l1 ⊢;generalize A.map fq=X2 at f2 l2 ⊢;generalize C.map cF=Tt at fC x1 ⊢;unfold ko jx;simp_arith [fC,x1,D6,fR,f1,q1,q2,z,sl,N5,RN];rw[fV (xs:=X1) rfl l1 rfl];simp_arith [];rw[fV (xs:=X2) rfl l2 rfl];simp_arith []
 ·have ne:c.1.isEmpty=false:=by
   cases h:c.1 with
   |nil=>exact absurd h ce
   |cons=>rfl
  have s1:=hs.2 ce;have e3:stp A c.1=(if sm A c.1>1 then sm A c.1 else 1,if sm A c.1<7 then hc A ((A.length:Int)+1) c.1 else[]):=by
   unfold stp;rw[ne];rfl
  rw[e3];rw[ne]at z;have sl:xM (.lst true [.lst true [.int ((A.length:Int)+1)]]) none (some 0)=.ok (.lst true []):=by kernel_rfl
  by_cases c7:sm A c.1<7
  ·rw[if_pos c7];have g:=decide_eq_true c7;obtain⟨y,q3⟩:=D_ A ok (by omega) (some (.lst false (C.map cF))) (some (.lst true (A.map dU))) (some (.lst false (c.1.map D.int))) (some (.int (sm A c.1))) c.1 ht [] (by simp;omega) a7;have q3:forR _ _ _ [_,_,_,_,_,_,some (.lst true []),_]=Fl.nx [_,_,_,_,_,_,some (.lst true ((hc A ((A.length:Int)+1) c.1).map dN)),_]:=q3;have fo:=xX (hc A ((A.length:Int)+1) c.1);refine⟨some (.lst false (c.1.map D.int)),some (.int (sm A c.1)),some (.lst false ((hc A ((A.length:Int)+1) c.1).map iG)),y,?_⟩;generalize(hc A ((A.length:Int)+1) c.1).map dN=V at q3 fo;generalize(hc A ((A.length:Int)+1) c.1).map iG=V' at fo ⊢;generalize A.map dU=X1 at q1 q3 f1 l1 ⊢;generalize A.map fq=X2 at f2 q3 l2 ⊢;generalize C.map cF=Tt at fC x1 q3 ⊢;generalize c.1.map D.int=N at *;generalize sm A c.1=S at *;unfold ko;unfold jx at q3 ⊢;simp_arith [fC,x1,D6,fR,fN,f1,q1,q2,z,sl,g,q3];rw[fV (xs:=X1) rfl l1 rfl];simp_arith [fo];rw[fV (xs:=X2) rfl l2 rfl];simp_arith [fo]
  ·rw[if_neg c7];have g:=decide_eq_false c7;refine⟨some (.lst false (c.1.map D.int)),some (.int (sm A c.1)),some (.lst false []),a7,?_⟩;show _=Fl.nx [_,_,some (.lst true (A.map fq++[.lst false []])),_,_,_,_,_];generalize A.map dU=X1 at q1 f1 l1 ⊢;generalize A.map fq=X2 at f2 l2 ⊢;generalize C.map cF=Tt at fC x1 ⊢;generalize c.1.map D.int=N at *;generalize sm A c.1=S at *;unfold ko jx;simp_arith [fC,x1,D6,fR,fN,f1,q1,q2,z,sl,g];rw[fV (xs:=X1) rfl l1 rfl];simp_arith [];rw[fV (xs:=X2) rfl l2 rfl];simp_arith []
theorem l6.nil:l6 []:=fun i p e=>by cases e
theorem q_(h:ji C):l6 (aV C []):=D9 C [] l6.nil fun i c e=>by
 have:=h i c e;simpa using this
theorem oN(C:List Cl):(aV C []).length=C.length:=by rw[wN];simp
theorem Cf(e:C[n]?=some c):aV (C.take (n+1)) []=aV (C.take n) []++[stp (aV (C.take n) []) c.1]:=by
 obtain⟨hi,rfl⟩:=bB.mp e;rw[List.take_succ_eq_append_getElem hi,sC];rfl
theorem yY(h:ji C)(n:Nat):ji (C.take n):=fun i c e=>by
 rw[uO]at e;split at e
 ·exact h i c e
 ·cases e
theorem Cg(h:n<=C.length):(aV (C.take n) []).length=n:=by rw[oN,eB];omega
theorem Ea(C:List Cl)(ok:ji C)(h12:C.length<=12):∀(n k:Nat) (hk:k+n=C.length) (a3 a4 a5 a6 a7:Option D),∃b3 b4 b5 b6 b7,forR (pG (.name 3)) (cB jx 1000 ko) ((bq n).map fun i=>D.int ((k+i:Nat):Int)) [some (.lst false (C.map cF)),some (.lst true ((aV (C.take k) []).map dU)),some (.lst true ((aV (C.take k) []).map fq)),a3,a4,a5,a6,a7]=.nx [some (.lst false (C.map cF)),some (.lst true ((aV C []).map dU)),some (.lst true ((aV C []).map fq)),b3,b4,b5,b6,b7]
|0,k,hk,a3,a4,a5,a6,a7=>⟨a3,a4,a5,a6,a7,by rw[eY (by omega)];rfl⟩
|n+1,k,hk,a3,a4,a5,a6,a7=>by
 have hl:k<C.length:=by omega
 have e:C[k]?=some C[k]:=ak hl;have ln:(aV (C.take k) []).length=k:=Cg (by omega);obtain⟨b4,b5,b6,b7,q⟩:=N6 C (aV (C.take k) []) (q_ (yY ok k)) (by omega) C[k] (by rw[ln];exact e) (by rw[ln];exact ok k _ e) a4 a5 a6 a7;rw[ln,<-Cf e]at q;obtain⟨c3,c4,c5,c6,c7,r⟩:=Ea C ok h12 n (k+1) (by omega) (some (.int (k:Int))) b4 b5 b6 b7;refine⟨c3,c4,c5,c6,c7,?_⟩;have e2:(bq (n+1)).map (fun i=>D.int ((k+i:Nat):Int))=D.int (k:Int)::(bq n).map fun i=>D.int ((k+1+i:Nat):Int):=by
  rw[iS,cM,dH];refine congrArg (Al _) (cE fun i _=>?_);show D.int ((k+(i+1):Nat):Int)=_;rw[show k+(i+1)=k+1+i by omega]
 rw[e2,l5 (TH:=[some (.lst false (C.map cF)),some (.lst true ((aV (C.take k) []).map dU)),some (.lst true ((aV (C.take k) []).map fq)),some (.int (k:Int)),a4,a5,a6,a7]) rfl q];exact r
theorem RO(C:List Cl)(ok:ji C)(h12:C.length<=12):u7 [.lst false (C.map cF)]=.ok (.tup [.lst true ((aV C []).map dU),.lst true ((aV C []).map fq)]):=by
 have sz:=szl;obtain⟨b3,b4,b5,b6,b7,q⟩:=Ea C ok h12 C.length 0 (by omega) none none none none none;have fC:=qj C;have ln:(C.map cF).length=C.length:=aC _;have rg:lB [.int (C.length:Int)]=.ok ((bq C.length).map fun i=>D.int ((0+i:Nat):Int)):=by
  rw[Ht ⟨by omega,by omega⟩];unfold jS;rw[show(C.length:Int).toNat=C.length by omega];refine congrArg R.ok (cE fun i _=>?_);refine congrArg D.int ?_;omega
 have q:forR _ _ ((bq C.length).map fun i=>D.int ((0+i:Nat):Int)) [some (.lst false (C.map cF)),some (.lst true []),some (.lst true []),none,none,none,none,none]=_:=q;generalize(bq C.length).map (fun i=>D.int ((0+i:Nat):Int))=Tu at rg q;generalize(aV C []).map dU=X1 at q ⊢;generalize(aV C []).map fq=X2 at q ⊢;generalize C.map cF=Tt at fC ln q ⊢;unfold u7 yT;unfold jx at q ⊢;simp_arith [fC,ln,rg,q]
theorem IJ(h:1<=t/\t<=(A.length:Int)):gU (D.int 0::A.map dU) t=some (.int (bT A t).1):=by
 refine Fq _ _ _ (by omega) ?_;rw[show t.toNat=(t-1).toNat+1 by omega,iu,aU,kY h];rfl
theorem IK(Y:List PG)(A:Du)(ts:List Int)(h:fM ts A.length)(o:Bool):fG (pG (.name 0)) (fun _=>.ok true) (pE Y (.ix (.var 1) (.var 0))) (ts.map D.int) [none,some (.lst o (.int 0::A.map dU))]=.ok ((ts.map fun t=>(bT A t).1).map D.int):=by
 rw[dH];refine lM D.int (fun O=>∃o',O=[o',some (.lst o (.int 0::A.map dU))]) (fun t=>D.int (bT A t).1) ts _ ⟨none,rfl⟩ ?_;rintro t ht O ⟨o',rfl⟩;refine⟨[some (.int t),some (.lst o (.int 0::A.map dU))],rfl,⟨_,rfl⟩,?_⟩;have x:=IJ (h t ht);have f:aB (.int 0::A.map dU)=.int 0::A.map dU:=by
  show D.int 0::aB (A.map dU)=_;rw[uw]
 generalize D.int 0::A.map dU=X at x f;simp_arith [f,x]
theorem Eb(ok:l6 A)(h:fM ts A.length):(stp A ts).1=if ts.isEmpty=true then 1 else sm A ts:=by
 have s:=nD ok h;unfold stp;dsimp only;cases ts with
 |nil=>rfl
 |cons t r=>
  have:=s.2 (by simp);show(if sm A (t::r)>1 then sm A (t::r)else 1)=sm A (t::r);split
  ·rfl
  ·omega
theorem N7(A:Du)(ok:l6 A)(hA:A.length<12)(c:Cl)(ht:fM c.1 A.length)(a0 a1:Option D):cB fQ 1000 fK [a0,a1,some (.lst true (.int 0::A.map dU)),some (.lst false (c.1.map D.int)),some (pD c.2)]=.nx [a0,a1,some (.lst true (.int 0::(A++[stp A c.1]).map dU)),some (.lst false (c.1.map D.int)),some (pD c.2)]:=by
 have sz:=szl;have fN:=fc c.1;have q1:=IK [] A c.1 ht true;have q2:=sum_ints true (c.1.map fun t=>(bT A t).1);have q2:iO .sum [.lst true ((c.1.map fun t=>(bT A t).1).map D.int)]=.ok (.int (sm A c.1)):=q2;have z:=eq_nil c.1 false;have l1:(D.int 0::A.map dU).length<ai:=by rw[bP,aC];omega
 have e1:D.int 0::(A++[stp A c.1]).map dU=(.int 0::A.map dU)++[.int (if c.1.isEmpty=true then 1 else sm A c.1)]:=by
  rw[cN,<-Eb ok ht];rfl
 rw[e1];generalize((c.1.map fun t=>(bT A t).1).map D.int)=W at q1 q2;generalize D.int 0::A.map dU=X at q1 l1 ⊢;generalize c.1.map D.int=N at *;generalize sm A c.1=S at *;generalize pD c.2=R;cases ce:c.1.isEmpty with
 |true=>
  rw[ce]at z;unfold fK fQ;simp_arith [fN,z];rw[fV (xs:=X) rfl l1 rfl];simp_arith []
 |false=>
  rw[ce]at z;unfold fK fQ;simp_arith [fN,z,q1,q2];rw[fV (xs:=X) rfl l1 rfl];simp_arith []
theorem Ec(C:List Cl)(ok:ji C)(h12:C.length<=12)(a0 a1:Option D):∀(r:List Cl) (k:Nat) (hk:k+r.length<=C.length) (hr:∀i,r[i]?=(C.take (k+r.length))[k+i]?) (a3 a4:Option D),∃b3 b4,forR (pG (.tup (.cons (.name 3) (.cons (.name 4) .nil)))) (cB fQ 1000 fK) (r.map cF) [a0,a1,some (.lst true (.int 0::(aV (C.take k) []).map dU)),a3,a4]=.nx [a0,a1,some (.lst true (.int 0::(aV (C.take (k+r.length)) []).map dU)),b3,b4]
|[],k,hk,hr,a3,a4=>⟨a3,a4,rfl⟩
|c::r,k,hk,hr,a3,a4=>by
 simp only[bP]at hk hr;have e:C[k]?=some c:=by
  have:=hr 0;rw[uO]at this;simp at this;exact this.symm
 have ln:(aV (C.take k) []).length=k:=Cg (by omega);have q:=N7 (aV (C.take k) []) (q_ (yY ok k)) (by omega) c (by rw[ln];exact ok k _ e) a0 a1;rw[<-Cf e]at q;obtain⟨b3,b4,w⟩:=Ec C ok h12 a0 a1 r (k+1) (by omega) (fun i=>by
  have:=hr (i+1);rw[iu]at this;rw[this,show k+(r.length+1)=k+1+r.length by omega,show k+(i+1)=k+1+i by omega]) (some (.lst false (c.1.map D.int))) (some (pD c.2))
 refine⟨b3,b4,?_⟩;show forR _ _ (cF c::r.map cF) _=_;rw[l5 (TH:=[a0,a1,some (.lst true (.int 0::(aV (C.take k) []).map dU)),some (.lst false (c.1.map D.int)),some (pD c.2)]) rfl q,w,bP,show k+(r.length+1)=k+1+r.length by omega]
theorem N8(C:List Cl)(ok:ji C)(h12:C.length<=12)(n:Int)(hn:1<=n/\n<=(C.length:Int)):iT [.lst false (C.map cF),.int n]=.ok (.int (bT (aV C []) n).1):=by
 have sz:=szl;have lt:(C.take n.toNat).length=n.toNat:=by rw[eB];omega
 obtain⟨b3,b4,q⟩:=Ec C ok h12 (some (.lst false (C.map cF))) (some (.int n)) (C.take n.toNat) 0 (by rw[lt];omega) (fun i=>by rw[mw,mw,lt]) none none;rw[mw,lt]at q;have fC:=qj C;have fT:aB ((C.take n.toNat).map cF)=(C.take n.toNat).map cF:=qj _;have sc:xM (.lst false (C.map cF)) none (some n)=.ok (.lst true ((C.take n.toNat).map cF)):=by
  show R.ok (D.lst true (aB (cut (C.map cF) none (some n))))=_;have:=Cd (C.map cF) n.toNat;rw[show((n.toNat:Nat):Int)=n by omega]at this;rw[this,<-List.map_take,fT]
 have lA:(aV (C.take n.toNat) []).length=n.toNat:=Cg (by omega);have x:=IJ (A:=aV (C.take n.toNat) []) (t:=n) (by rw[lA];omega);have ex:bT (aV (C.take n.toNat) []) n=bT (aV C []) n:=by
  unfold bT;rw[aH,aH];refine congrArg (fun o=>Option.getD o _) ?_
  conv=>rhs;rw[<-rK n.toNat C,sC]
  exact(sD (C.drop n.toNat) (aV (C.take n.toNat) []) _ (by rw[lA];omega)).symm
 rw[ex]at x;have f1:aB (.int 0::(aV (C.take n.toNat) []).map dU)=.int 0::(aV (C.take n.toNat) []).map dU:=by
  show D.int 0::aB _=_;rw[uw]
 have q:forR _ _ _ [_,_,some (.lst true [.int 0]),_,_]=_:=q;generalize(D.int 0::(aV (C.take n.toNat) []).map dU)=X at q x f1;generalize(C.take n.toNat).map cF=Tt at sc fT q;generalize C.map cF=Z at fC sc q ⊢;generalize(bT (aV C []) n).1=S at x ⊢;unfold iT kL;unfold fQ at q ⊢;simp_arith [fC,sc,fT];cases dw Tt<;>simp_arith [fC,q,f1,x]
theorem QH(ok:ji C)(n:Int)(hn:1<=n/\n<=(C.length:Int)):∃c,C[(n-1).toNat]?=some c/\fM c.1 (n-1).toNat /\
  (c.1=[]->bT (aV C []) n=(1,[[n]]))/\(c.1≠[]->(bT (aV C []) n).1=sm (aV C []) c.1/\(sm (aV C []) c.1<7->(bT (aV C []) n).2=hc (aV C []) n c.1)):=by
 have hl:(n-1).toNat<C.length:=by omega
 have e:C[(n-1).toNat]?=some C[(n-1).toNat]:=ak hl;have tk:=ok _ _ e;obtain⟨d1,d2,d3,d4⟩:=QE ok e;generalize C[(n-1).toNat]=c at *;have da:=kY (A:=aV C []) (t:=n) (by rw[oN];exact hn);rw[d1]at da;have da:=cC da;have sp:=Eb (q_ (yY ok (n-1).toNat)) (ts:=c.1) (by rw[d4];exact tk);have en:((aV (C.take (n-1).toNat) []).length:Int)+1=n:=by rw[d4];omega
 refine⟨c,e,tk,fun h=>?_,fun h=>⟨?_,fun h7=>?_⟩⟩
 ·rw[<-da,h];show((1:Int),[[((aV (C.take (n-1).toNat) []).length:Int)+1]]++[])=_;rw[en];rfl
 ·rw[<-da,sp,d2];cases q:c.1 with
  |nil=>exact absurd q h
  |cons=>rfl
 ·rw[<-da];have ne:c.1.isEmpty=false:=by
   cases q:c.1 with
   |nil=>exact absurd q h
   |cons=>rfl
  unfold stp;dsimp only;rw[ne,d2,if_pos h7,en,d3];rfl
theorem N9(r:List D->R D)(X:List D)(fX:aB X=X)(n t:Int)(hs P:Ch)(h100:hs.length<=100)(hP:P.length<=7)(hc:∀ch∈P,ch.length<=20)(q:r [.lst false X,.int t]=.ok (.lst true (P.map dN)))(a2:Option D):cB (iQ r) 1000 kj [some (.lst false X),some (.int n),a2,some (.lst true (hs.map dN)),some (.int t)]=.nx [some (.lst false X),some (.int n),a2,some (.lst true ((hs++P.map (·++[n])).map dN)),some (.int t)]:=by
 have sz:=szl;have f2:=xX P;have ow:=ux P;have q1:fG (pG (.name 0)) (fun _=>.ok true) (pE [.fn r []] (.bin .Add (.var 0) (.lst (.cons (.var 1) .nil)))) (P.map iG) [none,some (.int n)]=.ok (P.map fun ch=>dN (ch++[n])):=by
  refine lM iG (fun O=>∃o,O=[o,some (.int n)]) (fun ch=>dN (ch++[n])) P _ ⟨none,rfl⟩ ?_;rintro ch hch O ⟨o,rfl⟩;have hl:=hc ch hch;refine⟨[some (iG ch),some (.int n)],rfl,⟨_,rfl⟩,?_⟩;have fi:=fc ch;have ln:(ch.map D.int).length+1<=ai:=by rw[aC];omega
  unfold iG dN;rw[cN];generalize ch.map D.int=N at fi ln ⊢;simp_arith [fi,cM,pL]
 have ow2:a9 (.lst true (P.map fun ch=>dN (ch++[n])))=true:=by
  have:=ux (P.map fun ch=>ch++[n]);rw[dH]at this;exact this
 have e1:(hs++P.map (·++[n])).map dN=hs.map dN++P.map fun ch=>dN (ch++[n]):=by
  rw[cN,dH];rfl
 rw[e1];have l3:(hs.map dN).length+(P.map fun ch=>dN (ch++[n])).length<=ai:=by rw[aC,aC];omega
 generalize(P.map fun ch=>dN (ch++[n]))=Tt at q1 ow2 l3 ⊢;generalize hs.map dN=Z at l3 ⊢;generalize P.map dN=W at f2 ow q;generalize P.map iG=W' at f2 q1;unfold kj iQ;simp_arith [fX,q,f2,ow,q1];rw[ue (xs:=Z) rfl l3 (by rw[ow2];rfl),ow2];simp_arith []
theorem Ed(r:List D->R D)(X:List D)(fX:aB X=X)(A:Du)(ok:l6 A)(hA:A.length<=12)(n:Int)(a2:Option D):∀(ts:List Int) (h:fM ts A.length) (hr:∀t∈ts,r [.lst false X,.int t]=.ok (.lst true ((bT A t).2.map dN))) (hs:Ch) (h100:(hs.length:Int)+sm A ts<=90) (x:Option D),∃y,forR (pG (.name 4)) (cB (iQ r) 1000 kj) (ts.map D.int) [some (.lst false X),some (.int n),a2,some (.lst true (hs.map dN)),x]=.nx [some (.lst false X),some (.int n),a2,some (.lst true ((hs++hc A n ts).map dN)),y]
|[],h,hr,hs,h100,x=>⟨x,by rw[show hc A n []=[]from rfl,dM];rfl⟩
|t::ts,h,hr,hs,h100,x=>by
 have ht:=h t aG;have h':fM ts A.length:=fun x hx=>h x (ao _ hx);have p:=ok _ _ (kY ht);have i:=(nD ok h').1;rw[oM]at h100;have l2:((bT A t).2.length:Int)<=(bT A t).1/\(bT A t).2.length<=7:=by
  by_cases c:(bT A t).1<7
  ·have:=p.2.1 c;omega
  ·rw[p.2.2.1 (by omega)];simp;omega
 obtain⟨y,q⟩:=Ed r X fX A ok hA n a2 ts h' (fun t ht=>hr t (ao _ ht)) (hs++(bT A t).2.map (·++[n])) (by rw[aR,aC];omega) (some (.int t));refine⟨y,?_⟩;show forR _ _ (D.int t::ts.map D.int) _=_;rw[l5 (TH:=[some (.lst false X),some (.int n),a2,some (.lst true (hs.map dN)),some (.int t)]) rfl (N9 r X fX n t hs (bT A t).2 (by omega) l2.2 (fun ch hch=>by have:=(p.2.2.2 ch hch).1;omega) (hr t aG) a2),q,yW,cJ]
theorem Ef(ok:l6 A):∀{ts:List Int},fM ts A.length->∀t∈ts,(bT A t).1<=sm A ts
|[],_,t,ht=>by cases ht
|x::ts,h,t,ht=>by
 have h':fM ts A.length:=fun x hx=>h x (ao _ hx);have i:=(nD ok h').1;have p:=ok _ _ (kY (h x aG));rw[oM];rcases aQ.mp ht with rfl|ht
 ·omega
 ·have:=Ef ok h' t ht;omega
theorem Ci(C:List Cl)(ok:ji C)(h12:C.length<=12):∀(m:Nat) (n:Int),1<=n/\n<=(C.length:Int)->n<=(m:Int)->(bT (aV C []) n).1<7->gj m [.lst false (C.map cF),.int n]=.ok (.lst true ((bT (aV C []) n).2.map dN))
|0,n,hn,hm,h7=>by omega
|m+1,n,hn,hm,h7=>by
 have sz:=szl;obtain⟨c,e,tk,c1,c2⟩:=QH ok n hn;have x1:=QG e;rw[show(((n-1).toNat:Nat):Int)=n-1 by omega]at x1;have fC:=qj C;have fR:=Ft c.2;have fN:=fc c.1;have z:=eq_nil c.1 false;show gi (iQ (gj m)) 1000 qJ 2 kN [.lst false (C.map cF),.int n]=_;by_cases ce:c.1=[]
 ·rw[c1 ce];rw[ce]at x1 z;have z:eZ .Eq (.lst false []) (.lst true [])=.ok (.bl true):=z;have x1:gU (C.map cF) (n-1)=some (.tup [.lst false [],pD c.2]):=x1;show _=R.ok (D.lst true [D.lst true [D.int n]]);generalize C.map cF=Tt at fC x1 ⊢;generalize pD c.2=R at x1 fR;generalize gj m=r;unfold kN iQ;simp_arith [fC,x1,D6,fR,z]
 ·obtain⟨d1,d2⟩:=c2 ce;rw[d1]at h7;rw[d2 h7];have ne:c.1.isEmpty=false:=by
   cases h:c.1 with
   |nil=>exact absurd h ce
   |cons=>rfl
  rw[ne]at z;have tk':fM c.1 (aV C []).length:=fun t ht=>by
   have:=tk t ht;rw[oN];omega
  obtain⟨y,q⟩:=Ed (gj m) (C.map cF) fC (aV C []) (q_ ok) (by rw[oN];exact h12) n (some (.lst false (c.1.map D.int))) c.1 tk' (fun t ht=>by
   have:=tk t ht;have:=Ef (q_ ok) tk' t ht;exact Ci C ok h12 m t (by omega) (by omega) (by omega)) [] (by simp;omega) none
  have q:forR _ _ _ [_,_,_,some (.lst true []),_]=Fl.nx [_,_,_,some (.lst true ((hc (aV C []) n c.1).map dN)),_]:=q;generalize(hc (aV C []) n c.1).map dN=V at q ⊢;generalize C.map cF=Tt at fC x1 q ⊢;generalize c.1.map D.int=N at *;generalize pD c.2=R at x1 fR;generalize gj m=r at q ⊢;unfold kN;unfold iQ at q ⊢;simp_arith [fC,x1,D6,fR,fN,z,q]
def xY:Nat->D->Prop
|0,_=>False
|n+1,.lst o xs=>o=false/\∀y∈xs,xY n y
|n+1,.tup xs=>∀y∈xs,xY n y
|_+1,.non=>True
|_+1,.bl _=>True
|_+1,.int _=>True
|_+1,.str _=>True
|_+1,_=>False
theorem frzs_map'':∀l:List D,aB l=l.map bG
|[]=>rfl
|x::r=>by
 show bG x::aB r=_;rw[frzs_map'' r];rfl
theorem xZ:∀(n:Nat) (x:D),xY n x->bG x=x
|0,x,h=>h.elim
|n+1,x,h=>by
 have key:∀xs:List D,(∀y∈xs,xY n y)->aB xs=xs:=fun xs h=>by
  rw[frzs_map''];exact(cE fun y hy=>xZ n y (h y hy)).trans (Dp _)
 cases x with
 |lst o xs=>
  obtain⟨rfl,h⟩:=h;show D.lst false (aB xs)=_;rw[key xs h]
 |tup xs=>
  show D.tup (aB xs)=_;rw[key xs h]
 |non=>rfl
 |bl=>rfl
 |int=>rfl
 |str=>rfl
 |_=>exact h.elim
theorem Cj:∀xs:List D,mY xs xs=xs.map fun y=>.tup [y,y]
|[]=>rfl
|x::r=>by
 show D.tup [x,x]::mY r r=_;rw[Cj r];rfl
theorem vS(r:List D->R D)(xs:List D)(fz:∀y∈xs,bG y=y)(h:∀y∈xs,r [y,y]=.ok (.bl true)):fG (pG (.tup (.cons (.name 0) (.cons (.name 1) .nil)))) (fun _=>.ok true) (pE (gM r) (.call 0 (.cons (.var 0) (.cons (.var 1) .nil)))) (mY xs xs) [none,none]=.ok (xs.map fun _=>.bl true):=by
 rw[Cj];refine lM (fun y=>D.tup [y,y]) (fun O=>∃o o',O=[o,o']) (fun _=>.bl true) xs _ ⟨none,none,rfl⟩ ?_;rintro y hy O ⟨o,o',rfl⟩;refine⟨[some y,some y],rfl,⟨_,_,rfl⟩,?_⟩;have f:=fz y hy;have q:=h y hy;unfold gM;simp_arith [f,q]
theorem IL(xs:List D):(xs.map fun _=>D.bl true).all r9=true/\(xs.map fun _=>D.bl true).all uZ=true:=by
 rw[mq,mq];simp[r9,uZ]
theorem rm:∀(n:Nat) (x:D),xY n x->fL n [x,x]=.ok (.bl true)
|0,x,h=>h.elim
|n+1,x,h=>by
 have fx:=xZ (n+1) x h;show gi (gM (fL n)) 1000 uo 2 gK [x,x]=_;cases x with
 |lst o xs=>
  obtain⟨rfl,h⟩:=h;have fz:aB xs=xs:=by
   have e:D.lst false (aB xs)=.lst false xs:=fx;cases e':aB xs with
   |_=>rw[e']at e;cases e;rfl
  have q:=vS (fL n) xs (fun y hy=>xZ n y (h y hy)) fun y hy=>rm n y (h y hy);obtain⟨b1,b2⟩:=IL xs;unfold gM at q ⊢;generalize fL n=r at q;unfold gK;simp_arith [fz,q,b1,b2]
 |tup xs=>
  have fz:aB xs=xs:=by
   have e:D.tup (aB xs)=.tup xs:=fx;cases e':aB xs with
   |_=>rw[e']at e;cases e;rfl
  have q:=vS (fL n) xs (fun y hy=>xZ n y (h y hy)) fun y hy=>rm n y (h y hy);obtain⟨b1,b2⟩:=IL xs;unfold gM at q ⊢;generalize fL n=r at q;unfold gK;simp_arith [fz,q,b1,b2]
 |non=>unfold gK gM;simp_arith []
 |bl b=>unfold gK gM;simp_arith []
 |int i=>unfold gK gM;simp_arith []
 |str x=>unfold gK gM;simp_arith []
 |_=>exact h.elim
noncomputable def jn(n:Int):D:=.exc 139 ["claim","row"] [.int n,.int 0]
theorem SX(C:List Cl)(ok:ji C)(h12:C.length<=12)(n:Int)(hn:1<=n/\n<=(C.length:Int)):fu [.lst false (C.map cF),.int n]=if(bT (aV C []) n).1>6 then .ex (jn n)else .ok (.lst true ((bT (aV C []) n).2.map dN)):=by
 have q1:=N8 C ok h12 n hn;have fC:=qj C;by_cases c:(bT (aV C []) n).1>6
 ·rw[if_pos c];have g:=decide_eq_true (show(6:Int)<(bT (aV C []) n).1 from c);generalize(bT (aV C []) n).1=S at q1 g;generalize C.map cF=Tt at q1 fC ⊢;unfold fu nj qL jn;simp_arith [fC,q1,g];rfl
 ·rw[if_neg c];have g:=decide_eq_false (show ¬(6:Int)<(bT (aV C []) n).1 from c);have q2:qK [.lst false (C.map cF),.int n]=_:=Ci C ok h12 13 n hn (by omega) (by omega);generalize(bT (aV C []) n).2.map dN=V at q2 ⊢;generalize(bT (aV C []) n).1=S at q1 g;generalize C.map cF=Tt at q1 q2 fC ⊢;unfold fu nj qL;simp_arith [fC,q1,g,q2]
theorem al2(n:Int):jh [.lst false [.int n,.int 0],.lst false [.int n,.int 0]]=.ok (.bl true):=rm 13 _ ⟨rfl,fun y hy=>by
 rcases aQ.mp hy with rfl|hy
 ·trivial
 ·rw[bR.mp hy];trivial⟩
noncomputable def Ck:dS:=match nq with
|.cons _ (.cons (.tri _ _ _ h) _)=>h
|x=>x
noncomputable def su3:dS:=match Ck with
|.cons a (.cons b (.cons c _))=>.cons a (.cons b (.cons c .nil))
|x=>x
noncomputable def QI:dS:=match Ck with
|.cons _ (.cons _ (.cons _ r))=>r
|x=>x
theorem N_{b c:CS}(h:cB Y n (.cons a (.cons b (.cons c .nil))) O=.nx TF):cB Y n (.cons a (.cons b (.cons c r))) O=cB Y n r TF:=by
 have h:(match pS Y n a O with|.nx s1=>(match pS Y n b s1 with|.nx s2=>(match pS Y n c s2 with|.nx s3=>Fl.nx s3|x=>x)|x=>x)|x=>x)=.nx TF:=h;show(match pS Y n a O with|.nx s1=>(match pS Y n b s1 with|.nx s2=>(match pS Y n c s2 with|.nx s3=>cB Y n r s3|x=>x)|x=>x)|x=>x)=cB Y n r TF;cases q1:pS Y n a O with
 |nx s1=>
  rw[q1]at h;dsimp only at h ⊢;cases q2:pS Y n b s1 with
  |nx s2=>
   rw[q2]at h;dsimp only at h ⊢;cases q3:pS Y n c s2 with
   |nx s3=>
    rw[q3]at h;cases h;rfl
   |_=>rw[q3]at h;cases h
  |_=>rw[q2]at h;cases h
 |_=>rw[q1]at h;cases h
theorem RP(X:D)(n w:Int):cB (dJ.map PG.hand) 1000 QI [some X,some (.int n),some (.int w),some (.bl true),some (jn n),some (.bl false)]=.nx [some X,some (.int n),some (.int w),some (.bl true),some (jn n),some (.bl false)]:=by
 have e2:cB (dJ.map PG.hand) 1000 QI [some X,some (.int n),some (.int w),some (.bl true),some (jn n),some (.bl false)]=(match (match BQ 3 true [some X,some (.int n),some (.int w),some (.bl true),some (jn n),some (.bl false)] (jh [.lst false [.int n,.int 0],.lst false [.int n,.int 0]])with|.nx s=>Fl.nx s|x=>x)with|.nx s=>Fl.nx s|x=>x):=by kernel_rfl
 rw[e2,al2];rfl
theorem Oa(X:D)(n w:Int):cB (dJ.map PG.hand) 1000 Ck [some X,some (.int n),some (.int w),some (.bl false),some (jn n),none]=.nx [some X,some (.int n),some (.int w),some (.bl true),some (jn n),some (.bl false)]:=by
 have e1:cB (dJ.map PG.hand) 1000 su3 [some X,some (.int n),some (.int w),some (.bl false),some (jn n),none]=.nx [some X,some (.int n),some (.int w),some (.bl true),some (jn n),some (.bl false)]:=by kernel_rfl
 have e:cB (dJ.map PG.hand) 1000 Ck [some X,some (.int n),some (.int w),some (.bl false),some (jn n),none]=cB (dJ.map PG.hand) 1000 QI _:=N_ e1;rw[e,RP]
noncomputable def QJ:CB:=match nq with
|.cons _ (.cons (.tri _ _ b _) _)=>b
|_=>.call 0 .nil
theorem Fx(X:List D)(fX:aB X=X)(n:Int)(q:fu [.lst false X,.int n]=.ex (jn n)):kX [.lst false [],.lst false X,.int n]=.ex (jn n):=by
 unfold kX nL sS;unfold jn at q ⊢;simp_arith [fX,q]
theorem QK(X:List D)(fX:aB X=X)(n w:Int)(hw:w=0\/w=1)(q:fu [.lst false X,.int n]=.ex (jn n)):pB dJ QJ [some (.lst false X),some (.int n),some (.int w),some (.bl false),none,none]=.ex (jn n):=by
 have q2:=Fx X fX n q;unfold jn at q q2 ⊢;show pB dJ (.ite _ _ _) _=_;unfold dJ;rcases hw with rfl|rfl
 ·simp_arith [fX,q]
 ·simp_arith [fX,q2]
theorem Ag(X:List D)(fX:aB X=X)(n w:Int)(hw:w=0\/w=1)(q:fu [.lst false X,.int n]=.ex (jn n)):qM [.lst false X,.int n,.int w]=.ok (.bl true):=by
 have b:=QK X fX n w hw q;have s:=Oa (.lst false X) n w;have tr:pS dJ 1000 (.tri 4 0 QJ Ck) [some (.lst false X),some (.int n),some (.int w),some (.bl false),none,none]=.nx [some (.lst false X),some (.int n),some (.int w),some (.bl true),none,some (.bl false)]:=by
  rw[B5,b];unfold jn at s ⊢;rw[z_ (Cs:=gp) rfl (by decide) rfl];show uc 4 (cB (dJ.map PG.hand) 1000 Ck [some (.lst false X),some (.int n),some (.int w),some (.bl false),some (.exc 139 ["claim","row"] [.int n,.int 0]),none])=_;rw[s];rfl
 show E6 (match pS dJ 1000 (.tri 4 0 QJ Ck) [some (.lst false X),some (.int n),some (.int w),some (.bl false),none,none]with|.nx TF=>cB dJ 1000 (.cons (.ret (.var 3)) .nil) TF|x=>x)=_;rw[tr];rfl
theorem Cn(n:Nat)(l:List Int):xY (n+2) (iG l):=⟨rfl,fun y hy=>by
 obtain⟨i,_,rfl⟩:=fP.mp hy;trivial⟩
theorem QL(P:Ch):xY 13 (.lst false (P.map iG)):=⟨rfl,fun y hy=>by
 obtain⟨l,_,rfl⟩:=fP.mp hy;exact Cn 10 l⟩
theorem RQ(P:Ch):jh [.lst false (P.map iG),.lst false (P.map iG)]=.ok (.bl true):=rm 13 _ (QL P)
theorem Ob(n:Nat):xY (n+3) ir:=fun y hy=>by
 have hy:y∈[D.str "parts",.int 1,.bl false,.str "",.lst false [.str "x"]]:=hy;simp only[aQ,aJ,or_false]at hy;rcases hy with rfl|rfl|rfl|rfl|rfl
 ·trivial
 ·trivial
 ·trivial
 ·trivial
 ·exact⟨rfl,fun y hy=>by rw[bR.mp hy];trivial⟩
theorem QM(C:List Cl):xY 13 (.lst false (C.map cF)):=⟨rfl,fun y hy=>by
 obtain⟨c,_,rfl⟩:=fP.mp hy;exact fun y hy=>by
  have hy:y∈[D.lst false (c.1.map D.int),pD c.2]:=hy;simp only[aQ,aJ,or_false]at hy;rcases hy with rfl|rfl
  ·exact Cn 9 c.1
  ·refine⟨rfl,fun y hy=>?_⟩;by_cases b:c.2=true
   ·rw[if_pos b]at hy;rw[bR.mp hy];exact Ob 7
   ·rw[if_neg b]at hy;cases hy⟩
theorem RS(C:List Cl):jh [.lst false (C.map cF),.lst false (C.map cF)]=.ok (.bl true):=rm 13 _ (QM C)
theorem Oc:∀A:Du,A≠[]->dw (A.map fq)=false
|[],h=>absurd rfl h
|p::r,_=>rfl
theorem SY(N:List D)(Z:List D)(h:N.length<ai)(a0 a1 a2 a3 a4:Option D):pS sA 1000 (.expr (.mth .append (.ix (.var 5) (.con (.int 0))) (.cons (.con (.int 0)) .nil))) [a0,a1,a2,a3,a4,some (.lst true (.lst true N::Z))]=.nx [a0,a1,a2,a3,a4,some (.lst true (.lst true (N++[.int 0])::Z))]:=by
 have e:gh (Z.length+1) 0=some 0:=by
  unfold gh;rw[if_pos (Dn 0),if_pos (by omega)];rfl
 have e2:fJ [0] (.lst true (.lst true N::Z)) (.int 0)=some (.lst true (.lst true (N++[.int 0])::Z)):=by
  show(gh (Z.length+1) 0).bind (fun n=>((D.lst true N::Z)[n]?).bind fun y=>(fJ [] y (.int 0)).map fun y'=>D.lst true ((D.lst true N::Z).set n y'))=_;rw[e];show(if N.length<ai then some (D.lst true (N++[.int 0]))else none).map (fun y'=>D.lst true ((D.lst true N::Z).set 0 y'))=_;rw[if_pos h];rfl
 rw[B6];show(R.opt (fJ [0] (.lst true (.lst true N::Z)) (.int 0))).aY (fun x'=>Fl.nx ([a0,a1,a2,a3,a4,some (.lst true (.lst true N::Z))].set 5 (some x')))=_;rw[e2];rfl
theorem LF(C:List Cl)(ok:ji C)(h12:C.length<=12)(n:Int)(hn:1<=n/\n<=(C.length:Int))(a0 a5:Option D):∃b5,cB sA 1000 pq [a0,some (.lst false (C.map cF)),some (.lst true ((aV C []).map dU)),some (.lst true ((aV C []).map fq)),some (.int n),a5]=.nx [a0,some (.lst false (C.map cF)),some (.lst true ((aV C []).map dU)),some (.lst true ((aV C []).map fq)),some (.int n),b5]:=by
 have sz:=szl;have hA:1<=n/\n<=((aV C []).length:Int):=by rw[oN];exact hn
 have fC:=qj C;have f1:=uw (aV C []);have f2:=Ce (aV C []);have x1:=Ms hA;have x2:gU ((aV C []).map fq) (n-1)=some (.lst false ((bT (aV C []) n).2.map iG)):=Mr hA;have q:=SX C ok h12 n hn;have p:=q_ ok _ _ (kY hA);by_cases c:(bT (aV C []) n).1>6
 ·rw[if_pos c]at q;have r0:=Ag (C.map cF) fC n 0 (.inl rfl) q;have r1:=Ag (C.map cF) fC n 1 (.inr rfl) q;have g:=decide_eq_true (show(6:Int)<(bT (aV C []) n).1 from c);refine⟨a5,?_⟩;generalize(bT (aV C []) n).1=S at x1 g;generalize C.map cF=Tt at fC r0 r1 ⊢;generalize(aV C []).map dU=X1 at f1 x1 ⊢;generalize(aV C []).map fq=X2 at f2 ⊢;unfold pq sA;simp_arith [fC,f1,x1,g,r0,r1,nV]
 ·rw[if_neg c]at q;have g:=decide_eq_false (show ¬(6:Int)<(bT (aV C []) n).1 from c);have al:=RQ (bT (aV C []) n).2;have l7:=p.2.1 (by omega);have hch:=p.2.2.2;have c6:(bT (aV C []) n).1<=6:=by omega
  generalize bT (aV C []) n=P at x1 x2 q g al l7 hch p c6;obtain⟨S,cs⟩:=P;cases cs with
  |nil=>simp at l7;omega
  |cons ch r=>
   have ln:(ch.map D.int).length<ai:=by
    have:=(hch ch aG).1;rw[aC];omega
   have fo:=xX (ch::r);have fz2:=yX (ch::r);have ow:=ux (ch::r);have lr:r.length<=10:=by simp at l7 c6;omega
   refine⟨some (.lst true (.lst true (ch.map D.int++[.int 0])::r.map dN++[.lst true [.int 0]])),?_⟩;have ap:=SY (ch.map D.int) (r.map dN) ln a0 (some (.lst false (C.map cF))) (some (.lst true ((aV C []).map dU))) (some (.lst true ((aV C []).map fq))) (some (.int n));have lz:(D.lst true (ch.map D.int++[.int 0])::r.map dN).length<ai:=by rw[bP,aC];omega
   generalize hF:(ch::r).map iG=F at x2 fo fz2 al;have hO:(ch::r).map dN=D.lst true (ch.map D.int)::r.map dN:=rfl;generalize hZ:D.lst true (ch.map D.int++[.int 0])::r.map dN=Z at ap lz ⊢;rw[hO]at q fo ow;generalize hW:D.lst true (ch.map D.int)::r.map dN=W at q fo ow ap;generalize C.map cF=Tt at fC q ap ⊢;generalize(aV C []).map dU=X1 at f1 x1 ap ⊢;generalize(aV C []).map fq=X2 at f2 x2 ap ⊢;unfold pq;unfold sA at ap ⊢;simp_arith [fC,f1,f2,x1,x2,g,q,fo,fz2,ow,al,nV,ap];rw[fV (xs:=Z) rfl lz rfl];simp_arith [fC,f1,f2,x1,x2,g,q,fo,fz2,ow,al,nV]
theorem Co(C:List Cl)(ok:ji C)(h12:C.length<=12)(a0:Option D):∀(k j:Nat) (hj:j+k=C.length) (a4 a5:Option D),∃b4 b5,forR (pG (.name 4)) (cB sA 1000 pq) ((bq k).map fun i=>D.int (1+((j+i:Nat):Int))) [a0,some (.lst false (C.map cF)),some (.lst true ((aV C []).map dU)),some (.lst true ((aV C []).map fq)),a4,a5]=.nx [a0,some (.lst false (C.map cF)),some (.lst true ((aV C []).map dU)),some (.lst true ((aV C []).map fq)),b4,b5]
|0,j,hj,a4,a5=>⟨a4,a5,rfl⟩
|k+1,j,hj,a4,a5=>by
 obtain⟨b5,q⟩:=LF C ok h12 (1+(j:Int)) (by omega) a0 a5;obtain⟨c4,c5,r⟩:=Co C ok h12 a0 k (j+1) (by omega) (some (.int (1+(j:Int)))) b5;refine⟨c4,c5,?_⟩;have e:(bq (k+1)).map (fun i=>D.int (1+((j+i:Nat):Int)))=D.int (1+(j:Int))::(bq k).map fun i=>D.int (1+((j+1+i:Nat):Int)):=by
  rw[iS,cM,dH];refine congrArg (Al _) (cE fun i _=>?_);show D.int (1+((j+(i+1):Nat):Int))=_;rw[show j+(i+1)=j+1+i by omega]
 rw[e,l5 (TH:=[a0,some (.lst false (C.map cF)),some (.lst true ((aV C []).map dU)),some (.lst true ((aV C []).map fq)),some (.int (1+(j:Int))),a5]) rfl q];exact r
theorem fin:∀ns:List Int,ns.length<=63->Fk [iy ns]=.ok (.bl true):=by
 intro ns hl;have sz:=szl;obtain⟨X,C,hC,ok,h12,qc⟩:=LC ns hl;have qd:=RO C ok h12.2;have al:=RS C;have hC:aB X=C.map cF:=hC;have lx:X.length=C.length:=by
  have:=congrArg vW hC;rw[gv,aC]at this;exact this
 have fC:=qj C;have lC:(C.map cF).length=C.length:=aC _;have ow:=Oc (aV C []) (fun z=>by
  have:=oN C;rw[z]at this;simp at this;omega)
 have fsc:bG (iy ns)=iy ns:=by
  show D.lst false (aB (ns.map D.int))=_;rw[fc];rfl
 obtain⟨b4,b5,q⟩:=Co C ok h12.2 (some (iy ns)) C.length 0 (by omega) none none;have rg:lB [.int 1,.int ((C.length:Int)+1)]=.ok ((bq C.length).map fun i=>D.int (1+((0+i:Nat):Int))):=by
  rw[B0 ⟨by omega,by omega,by omega,by omega,by omega⟩];unfold jS;rw[show((C.length:Int)+1-1).toNat=C.length by omega];refine congrArg R.ok (cE fun i _=>?_);rw[mw]
 generalize(bq C.length).map (fun i=>D.int (1+((0+i:Nat):Int)))=Tu at rg q;generalize(aV C []).map dU=X1 at qd q;generalize(aV C []).map fq=X2 at qd ow q;generalize C.map cF=Tt at hC fC lC qd al q;generalize iy ns=S at *;unfold Fk Fj;unfold sA at q ⊢;simp_arith -implicitDefEqProofs [fsc,qc,hC,qd,ow];cases dw X<;>simp_arith -implicitDefEqProofs [fsc,qc,hC,fC,qd,ow,lC,rg,q,al]
end K2
end
namespace Fin
open PySem L2 L3 Tr
section
variable{P:a_}{w:bC}{K:PySem.W.Frag}{mg:Str->Option Value}
structure Hy (P:a_) (w:bC) (K:PySem.W.Frag) (mg:Str->Option Value):Prop where
 z:∀x∈BN,mg x=none
 D_law:DI K mg qi
 D_l_alike:DI K mg uu
 D_l_claims:DI K mg xW
 D_l_mixed:DI K mg Ad
 D_l_cell:DI K mg Ca
 D_l_refused:DI K mg vR
 D_chains_of:DI K mg vQ
 D_chains_to:DI K mg vP
 D_count_of_chains:DI K mg nZ
 D_readings_of:DI K mg sU
 D_reading_of:DI K mg uv
 D_l_due:DI K mg D5
 V_MOST_CHAINS:∃u,mg "MOST_CHAINS"=some u/\RelV (V.int 6) u
 C_TooBig:Qw P w K mg "TooBig" 139 [("claim",1),("row",2)] 3
 I_TooBig:mg "TooBig"=some (.ref 139)/\gc K 139 gp
 I_TooMany:mg "TooMany"=some (.ref 227)/\gc K 227 gp
 I_NoFit:mg "NoFit"=some (.ref 239)/\gc K 239 gp
 I_NoChange:mg "NoChange"=some (.ref 251)/\gc K 251 gp
 I_NotOwn:mg "NotOwn"=some (.ref 263)/\gc K 263 gp
 I_BadRow:mg "BadRow"=some (.ref 44)/\gc K 44 gp
 I_NoClaim:mg "NoClaim"=some (.ref 101)/\gc K 101 gp
 I_Twice:mg "Twice"=some (.ref 63)/\gc K 63 gp
 I_NoPart:mg "NoPart"=some (.ref 82)/\gc K 82 gp
 I_NoKind:mg "NoKind"=some (.ref 120)/\gc K 120 gp
 I_NotUnder:mg "NotUnder"=some (.ref 158)/\gc K 158 gp
 I_NoRange:mg "NoRange"=some (.ref 177)/\gc K 177 gp
 I_NoGround:mg "NoGround"=some (.ref 196)/\gc K 196 gp
 I_TwoGrounds:mg "TwoGrounds"=some (.ref 215)/\gc K 215 gp
 X_0:p9 K gp Mq
 B_ClaimError:Qx K mg "ClaimError" 24 gp
variable{base:Heap} (Z:Hy P w K mg)
include Z
theorem vU:∀j,nX P w K mg base (0+j) "_law_alike" (fL j)
|0=>f0 Z.D_l_alike
|j+1=>fD (k:=0+j) Z.D_l_alike IC Z.z (gF (vU j) gN (aT _))
theorem Fy:nX P w K mg base 13 "_law_alike" jh:=vU Z 13
theorem uy:∀j,IB P w K mg base (0+j) "_law_alike" (fL j)
|0=>f0H Z.D_l_alike (by decide)
|j+1=>fDH (k:=0+j) (Tv:=[.fh (fL j)]) Z.D_l_alike Fo Z.z (gH (uy j) gN (aT _))
theorem C5:IB P w K mg base 13 "_law_alike" jh:=uy Z 13
theorem Fz:nX P w K mg base 1 "_law_mixed" qh:=fD (k:=0) Z.D_l_mixed ID Z.z gN
theorem IM:nX P w K mg base 1 "_law_cell" sy:=fD (k:=0) Z.D_l_cell Ly Z.z gN
theorem C6:nX P w K mg base 2 "_law_claims" oA:=fD (k:=1) Z.D_l_claims Fp Z.z (gF (Fz Z) (gF (IM Z) gN))
theorem sV:∀j,nX P w K mg base (0+j) "chains_to" (gj j)
|0=>f0 Z.D_chains_to
|j+1=>fD (k:=0+j) Z.D_chains_to C2 Z.z (gF (sV j) gN (aT _))
theorem Cp:nX P w K mg base 13 "chains_to" qK:=sV Z 13
theorem uz:nX P w K mg base 1 "count_of_chains" iT:=fD (k:=0) Z.D_count_of_chains vf Z.z gN
theorem pF:nX P w K mg base 14 "chains_of" fu:=fD (k:=13) Z.D_chains_of C3 Z.z (gF (Cp Z) (gF (uz Z) (gV Z.V_MOST_CHAINS rfl (gC Z.C_TooBig gN))))
theorem As:nX P w K mg base 1 "reading_of" uq:=fD (k:=0) Z.D_reading_of Cb Z.z gN
theorem yZ:nX P w K mg base 15 "readings_of" kX:=fD (k:=14) Z.D_readings_of Ar Z.z (gF (pF Z) (gF (As Z) gN))
theorem Cq:nX P w K mg base 16 "_law_refused" qM:=fD (k:=15) Z.D_l_refused C4 Z.z (gB Z.B_ClaimError (gF (pF Z) (gF (yZ Z) (gH (C5 Z) (gX Z.X_0 (gI Z.I_TooBig (gI Z.I_TooMany (gI Z.I_NoFit (gI Z.I_NoChange (gI Z.I_NotOwn (gI Z.I_BadRow (gI Z.I_NoClaim (gI Z.I_Twice (gI Z.I_NoPart (gI Z.I_NoKind (gI Z.I_NotUnder (gI Z.I_NoRange (gI Z.I_NoGround (gI Z.I_TwoGrounds gN)))))))))))))))))))
theorem LG:nX P w K mg base 1 "_law_due" u7:=fD (k:=0) Z.D_l_due NZ Z.z gN
theorem QN{f:Addr}{fd:dD}(F:mH K "law" "law" qi.s f fd):eO P w K mg base (je P w) 17 f fd qi.ps (sP K Fk):=fF (d:=qi) F RJ Z.z (gF (Fy Z) (gF (C6 Z) (gF (Cq Z) (gF (pF Z) (gF (LG Z) gN)))))
end
theorem walk{l:PySem.W.OpenLaw}{q:a_}{loose:List Str}{XP:(Str->Option Value)->Heap->Prop}{YP:bC->Heap->Prop}{d:IV}{K:Cy->PySem.W.Frag}(hn:l.most=some 63)(hdf:d.params.defaults=[])(hdn:d.name="law")
  (hY:∀(w:bC) (h:Heap),YP w h->(K w.params).In h) (nk:∀p:Cy,((K p).all fun x=>!Kd x.2.cls)=true)
  (F:∀(w:bC) (mg:Str->Option Value) (h:Heap),(K w.params).In h->h.Ns cL mg->Hy l.prog w (K w.params) mg) (bd:∀(kV doc pm:Value) (an:Option Addr) (cdv ct:Value) (u:Value),sE (PySem.W.fnOf "law" "law" (j8 qi.s) (d_ qi.s) (bE qi.s) .none kV doc pm an cdv ct) ⟨[u],[]⟩=pure [(("_law_script":Str),u)]) :
  PySem.W.WalkO q loose XP YP l.row.toRowW d [] (fun f vs=>PySem.call f vs):=
 L2.MS (n:=63) (k:=17) (x:="_law_script") (CX:=fun _=>nW) (sp:=fun w=>(fun vs H Q E=>∃(a:Addr) (ns:List Int),vs=[.ref a]/\Rd H a (.lst (ns.map V.int))/\ns.length<=63/\∀H',Q (.bl true) H')) hn (by decide) hdf ⟨rfl,by decide,by decide⟩ hY (fun w mg fa h X G hfa=>by
  obtain Z:=F w mg h X G;rw[hdn]at hfa;obtain⟨f,fd,Tu,hm,hb⟩:=Z.D_law;have e:=hfa.symm.trans hm;cases e;obtain⟨_,_,kV,doc,pm,an,cdv,ct,_,rfl,_⟩:=Tu.ex;exact⟨_,fun s v=>.of_eq (bd _ _ _ _ _ _ v),fun base _ _=>Qn (QN Z Tu) K2.fin⟩) (fun w _ a ns hl _ hS=>⟨a,ns,rfl,RI (nk w.params) hS,hl,fun _=>rfl⟩) fun _ _ _ _ _ z=>z
end Fin
namespace PySem.W.Fast
def tw3773944920546311151 :=0
def tw18422316939077618468 :=0
def tw17370601605612068711 :=0
def tw14995287085492815697 :=0
def tw4200720109432496442 :=0
def tw17168607696369659657 :=0
def tw11755879527089033534 :=0
def tw5155866039755913600 :=0
def tw17569392927402360495 :=0
def tw13131074785127549163 :=0
def tw3872161821641398586 :=0
def tw6915071338561008040 :=0
def tw6616857966495178797 :=0
def tw17986445738266268511 :=0
def tw2114969178479675941 :=0
def tw15665727704607212150 :=0
def tw8227148464742041333 :=0
def tw12137099561190292403 :=0
def tw4536914447194913819 :=0
def tw10543227523652271525 :=0
def tw4571839751693514562 :=0
def tw4765510088435768695 :=0
def tw8854133898698043867 :=0
def tw5371593735119181133 :=0
def tw15530517527000885054 :=0
def tw3346602181415488623 :=0
def tw16584097045143723109 :=0
def tw9747464051650057281 :=0
def tw6262627595439828237 :=0
def tw6680851162779382051 :=0
def tw12946025380595979191 :=0
def tw17774816332719534416 :=0
def tw13737098134502411326 :=0
def tw16485311957375194460 :=0
def tw14027079335727340657 :=0
def tw5335624054469141216 :=0
def tw3485021072839834715 :=0
def tw4718606922756848884 :=0
def tw8719945307762342514 :=0
def tw13597089312459340505 :=0
def tw10803646117834737324 :=0
def tw7796111149706396626 :=0
def tw14013508915382493962 :=0
def tw14916053208713225493 :=0
def tw11674444593257439722 :=0
def tw6979584673168954431 :=0
def tw107160410498239577 :=0
def tw16140352505274032681 :=0
def tw1650190278248959641 :=0
def tw3360635671909076135 :=0
def tw6685496008583708064 :=0
def tw5388600869157402089 :=0
def tw10860150452697927616 :=0
def tw6256134213505509464 :=0
def tw189733317308189746 :=0
def tw2935264976129839958 :=0
def tw9269995698220840774 :=0
def tw957450951336254145 :=0
def tw14537421844847574156 :=0
def tw7971394167044072868 :=0
def tw16241815772174076615 :=0
def tw17642811004397791177 :=0
def tw8612087109500681381 :=0
def tw14270771248106960598 :=0
def tw16072325490016957603 :=0
def tw682005110281851439 :=0
def tw13708094390238149380 :=0
def tw9905409397620730070 :=0
def tw5981114708785936467 :=0
def tw6614748669422123599 :=0
def tw8303061017381158978 :=0
def tw11311121946994989628 :=0
def tw14264076491247932781 :=0
def tw5107487725015328281 :=0
def tw9957248113556847447 :=0
def tw10885005065256965560 :=0
def tw7902682468281460934 :=0
def tw10320372828600937873 :=0
def tw13668839177073436377 :=0
def tw1363567027790723369 :=0
def tw1915618548539034241 :=0
def tw3368737509038912048 :=0
def tw13097967876479165537 :=0
def tw17135140936806180865 :=0
def tw14013017050668264848 :=0
def tw1410070226340426505 :=0
def tw1652278148086118782 :=0
def tw11549122494852661472 :=0
def tw11710286071019421368 :=0
def tw12929699083399077828 :=0
def tw4869555202300237311 :=0
def tw14684833517437772299 :=0
def tw1796556588697516486 :=0
def tw14145225625462278144 :=0
def tw4950752432455114577 :=0
def tw13193077550967499459 :=0
def tw3473118121606153119 :=0
def tw9015610550779267137 :=0
def tw10033478768615264774 :=0
def tw17362686929834254471 :=0
def tw13229994641156366087 :=0
def tw4785867514292149296 :=0
def tw5931421897177949952 :=0
def tw6176522188554037596 :=0
def tw3376515920977593195 :=0
def tw9058774388587168876 :=0
def tw8690060502641786242 :=0
def tw15280160899218783037 :=0
def tw15199566152376365027 :=0
def tw7554677220144960957 :=0
def tw6517981187215073928 :=0
def tw600366922190577898 :=0
def tw8172886502832341347 :=0
def tw7732830561054712302 :=0
def tw17653071379939336818 :=0
def tw6320551721725041004 :=0
def tw8720952451798901411 :=0
def tw12483781645920729342 :=0
def tw5498327698529327117 :=0
def tw13445749280680713021 :=0
def tw16862386571859264123 :=0
def tw17827054210467548672 :=0
def tw14843473044784193848 :=0
def tw15844299937220885825 :=0
def tw3829436774869627153 :=0
def tw15286312421945061912 :=0
def tw16696468584758046316 :=0
def tw8346232703224834814 :=0
def tw2674886752319091483 :=0
def tw42247225156524648 :=0
def tw9258316677133360145 :=0
def tw1536433667469164549 :=0
def tw6726124887215673545 :=0
def tw5512609688164653464 :=0
def tw9498600046084612647 :=0
def tw11969292508922858505 :=0
def tw340686575161581428 :=0
def tw1844288312427902866 :=0
def tw18180588972635689680 :=0
def tw7381115442791042573 :=0
def tw11202298570282126904 :=0
def tw12736493840062592737 :=0
def tw5227354055433653812 :=0
def tw5436814966988762468 :=0
def tw12334607754442254792 :=0
def tw16706266568810281952 :=0
def tw15629860701412906273 :=0
def tw736033237687206736 :=0
def tw16035797929247954751 :=0
def tw12748294865441393796 :=0
def tw16310512030817238895 :=0
def tw14891859199911158143 :=0
def tw1053381106151985455 :=0
def tw15735031035298661702 :=0
def tw18142196889033863354 :=0
def tw504264075538717178 :=0
def tw3541960299094619833 :=0
def tw8400725226208547398 :=0
def tw2268043468606318584 :=0
def tw13534806612793041914 :=0
def tw1706730071225492008 :=0
def tw12671970700995039426 :=0
def tw16242756832543168116 :=0
def tw13118358184653759653 :=0
def tw8268805467404424471 :=0
def tw12194570073401551475 :=0
def tw14038178833877078923 :=0
def tw1964039676136151617 :=0
def tw17953463509864767550 :=0
def tw8575591830367664364 :=0
def tw16832350763296551419 :=0
def tw16797936675665508219 :=0
def tw5654363007744190723 :=0
def tw12400010723767648953 :=0
def tw7621199427161591907 :=0
def tw7955620671380327529 :=0
def tw1523447442106968295 :=0
def tw6012837639215848207 :=0
def tw5543524329509824341 :=0
def tw2047652394109870390 :=0
def tw5675783120341113508 :=0
def tw10966724476866807067 :=0
def tw17607290678658495601 :=0
def tw6615879068724432596 :=0
def tw11299097570783284421 :=0
def tw12682654132762578536 :=0
def tw14629566017772598100 :=0
def tw4135636170408124153 :=0
def tw2736454065971170153 :=0
def tw6985358871009195046 :=0
def tw7026467295114128480 :=0
def tw5638294789960769366 :=0
def tw12454690680639462165 :=0
def tw1663467324438623292 :=0
def tw6773899007437064143 :=0
def tw14585189245684353031 :=0
def tw1302318294729584906 :=0
def tw5441263769851108111 :=0
def tw13757016883077303240 :=0
def tw2418209503862367649 :=0
def tw12982130676040108407 :=0
def tw10028049601563772607 :=0
def tw10679401334339919059 :=0
def tw5078048455445811644 :=0
def tw5740973778310899630 :=0
end PySem.W.Fast
open PySem PySem.W PyProof.Rows
set_option maxRecDepth 100000 in
set_option maxHeartbeats 0 in
open L3 Tr in
theorem PySem.Challenge.cw_claimwise_k11_chains_holds : PySem.Challenge.rw_claimwise_k11_chains.Holds := by
 w_on;o_law;k_head;(case hw=>w_witness2)
 k_fill
 refine Fin.walk (l:=PySem.Challenge.rw_claimwise_k11_chains) rfl rfl rfl (fun w h Tt=>by first|exact PySem.W.kIn_of Tt|exact PySem.W.km_in_of Tt) ?nk ?F ?b
 case nk=>intro p;first|rfl|decide +kernel|k_is|simp[L3.Kd]
 case b=>intros;rfl
 case F=>
  intro w mg h KX G;have HX:=hXI (Cs:=gp) (as:=Mq) KX;have HB:=bI (B:=24) KX;exact⟨zI KX G,
   dI KX G,
   dI KX G,
   dI KX G,
   dI KX G,
   dI KX G,
   dI KX G,
   dI KX G,
   dI KX G,
   dI KX G,
   dI KX G,
   dI KX G,
   dI KX G,
   ⟨_,iI KX G,_,rfl⟩,
   cI KX G (HX 139 (by decide)) HB LA,
   ⟨iI KX G,iF HX (by kernel_rfl) (by kernel_rfl)⟩,
   ⟨iI KX G,iF HX (by kernel_rfl) (by kernel_rfl)⟩,
   ⟨iI KX G,iF HX (by kernel_rfl) (by kernel_rfl)⟩,
   ⟨iI KX G,iF HX (by kernel_rfl) (by kernel_rfl)⟩,
   ⟨iI KX G,iF HX (by kernel_rfl) (by kernel_rfl)⟩,
   ⟨iI KX G,iF HX (by kernel_rfl) (by kernel_rfl)⟩,
   ⟨iI KX G,iF HX (by kernel_rfl) (by kernel_rfl)⟩,
   ⟨iI KX G,iF HX (by kernel_rfl) (by kernel_rfl)⟩,
   ⟨iI KX G,iF HX (by kernel_rfl) (by kernel_rfl)⟩,
   ⟨iI KX G,iF HX (by kernel_rfl) (by kernel_rfl)⟩,
   ⟨iI KX G,iF HX (by kernel_rfl) (by kernel_rfl)⟩,
   ⟨iI KX G,iF HX (by kernel_rfl) (by kernel_rfl)⟩,
   ⟨iI KX G,iF HX (by kernel_rfl) (by kernel_rfl)⟩,
   ⟨iI KX G,iF HX (by kernel_rfl) (by kernel_rfl)⟩,
   Qt HX (by kernel_rfl) (by kernel_rfl),
   eI KX G⟩
